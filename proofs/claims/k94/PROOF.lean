import PyProof.Rows.All
import Wide.All
import OpenK.AllK
import Wide.FinOn
import PyProof.EqAt
import PyProof.EqKinds
import PyProof.TupleCall
import Lean
import PySem.Challenge.RW_bitrail_k94_whole_a_wrong_post
set_option Elab.async false
def Va:=@Ne.symm
def Ya:=@List.length_map
def Yb:=@List.getElem?_eq_getElem
def Yc:=@Nat.le_refl
def Yd:=@List.length_append
def Ye:=@List.getElem?_eq_some_iff
def Yf:=@List.getD_eq_getElem?_getD
def Yg:=@List.take_succ_eq_append_getElem
def Yh:=@Nat.lt_of_lt_of_le
def Yi:=@List.take_of_length_le
def Yj:=@decide_eq_true
def Yk:=@List.mem_singleton
def Yl:=@decide_eq_false
def Ym:=@PySem.Heap.get?_push_of_some
def Yn:=@Bool.false_ne_true
def Yo:=@List.getElem?_map
def Yp:=@Option.some.inj
def Yq:=@List.length_take
def Yr:=@List.map_append
def Ys:=@PySem.Heap.lt_size
def Yt:=@List.length_singleton
def Yu:=@List.mem_of_getElem?
def Yv:=@Nat.pow_le_pow_right
def Yw:=@List.mem_cons_of_mem
def Yx:=@List.size_toArray
def Yy:=@List.mem_cons_self
def Yz:=@PySem.Heap.get?_push_size
def YA:=@Nat.ne_of_lt
def YB:=@Decidable.byContradiction
def YC:=@List.append_assoc
def YD:=@List.length_replicate
def YE:=@List.map_cons
def YF:=@List.getElem?_append_right
def YG:=@Option.map_eq_some_iff
def YH:=@List.append_nil
def YI:=@List.mem_cons
def YJ:=@Int.toNat_natCast
def YK:=@of_decide_eq_true
def YL:=@List.mem_append
def YM:=@List.length_cons
def YN:=@List.getElem_mem
def YO:=@congrArg
def YQ:=@Int.eq_ofNat_of_zero_le
def YR:=@List.mem_map
def YS:=@List.getElem?_append_left
def YT:=@List.mem_append_right
def YU:=@List.take_append_of_le_length
def YV:=@Nat.testBit_eq_decide_div_mod_eq
def YW:=@PySem.PassesOwn.never
def YX:=@Nat.zero_le
def YY:=@Nat.le_trans
def YZ:=@Nat.lt_irrefl
def Y0:=@PySem.mem_of_lookup
def Y1:=@List.replicate_succ
def Y2:=@List.length_range
def Y3:=@Nat.testBit_lt_two_pow
def Y4:=@PySem.wpAny_bind
def Y5:=@beq_eq_false_iff_ne
def Y6:=@List.flatten_cons
def Y7:=@List.head?_append
def Y8:=@List.getElem?_set
def Y9:=@List.getElem?_take_of_lt
def Xa:=@List.eq_of_mem_replicate
def Xb:=@List.getElem?_set_ne
def Xc:=@PySem.wpAny_mono
def Xd:=@List.nodup_cons
def Xe:=@PySem.wpAny_truthy_bool
def Xf:=@PySem.wpAny_pure
def Xg:=@List.mem_iff_getElem?
def Xh:=@Nat.shiftLeft_eq
def Xi:=@List.mem_of_mem_take
def Xj:=@List.drop_append_of_le_length
def Xk:=@PySem.wpAny_Call_Name_kw
def Xl:=@List.foldl_append
def Xm:=@Nat.pow_succ
def Xn:=@List.lookup_cons
def Xo:=@Nat.lt_succ_self
def Xp:=@PySem.W.methodCall_KW
def Xq:=@List.length_filter_le
def Xr:=@List.mem_append_left
def Xs:=@List.getElem?_mapIdx
def Xu:=@List.length_drop
def Xv:=@Bool.and_eq_true
def Xw:=@Nat.testBit_succ
def Xx:=@Nat.le_of_lt
def Xy:=@List.length_set
def Xz:=@Nat.not_lt_zero
def XA:=@List.any_cons
def XB:=@List.sum_cons
def XC:=@PyProof.Rows.callWith_type1
def XD:=@PySem.wpAny_passesOwn
def XE:=@Nat.le_succ
def XF:=@Nat.mod_two_eq_zero_or_one
def XG:=@Int.zero_add
def XH:=@Array.length_toList
def XI:=@List.getElem_of_mem
def XJ:=@List.all_cons
def XM:=@Nat.xor_assoc
def XN:=@List.foldl_cons
def XO:=@Nat.testBit_xor
def XQ:=@List.find?_cons
def XR:=@Nat.two_pow_pos
def XS:=@Nat.lt_of_le_of_lt
def XT:=@Nat.mul_comm
def XU:=@Nat.testBit_shiftLeft
def XV:=@beq_iff_eq
def XW:=@List.all_eq_true
def XX:=@PySem.W.callWith_K
def XY:=@Int.le_refl
def XZ:=@Bool.eq_iff_iff
def X0:=@List.of_mem_zip
def X1:=@Option.map_some
def X2:=@Nat.div_eq_of_lt_le
def X3:=@List.getElem?_range
def X5:=@Nat.xor_zero
def X6:=@PySem.W.callWith_K0
def X7:=@Int.emod_lt_of_pos
def X8:=@List.take_zero
def Ja:=@Nat.xor_lt_two_pow
def Jb:=@PySem.codeAny_mono
namespace Hd
open PySem PyProof.Rows
open PySem.W PySem.Calls
def c0N (t:Thread):(endAt 0 t).isSome=through t:=by
 obtain⟨b,c,d,e⟩:=t
 cases e with
 | nil=>cases b with
  |pure f=>cases f <;> rfl
  |_=>rfl
 |cons a l=>cases b <;> rfl
theorem pP {tb:String->Option Builtin}{p:Program}{w:World}{m:Nat}{ann:Option Value}:∀{n:Nat}{s s':Shared}{t:Thread}{f:Flow}{c:Code}{x:Pos},
  segRun tb p w m ann 0 n s t=some (f,s',c,x)->topRun tb p w m ann n s t=some s'
 |0,_,_,_,_,_,_,h=>by simp[segRun]at h
 | n + 1,s,s',t,f,c,x,h=>by
  unfold segRun at h
  unfold topRun
  rw[<-c0N t]
  cases he:endAt 0 t with
  |some g=>rw[he]at h;cases h;rfl
  | none=>
   rw[he]at h
   dsimp only[Option.isSome]at h ⊢
   cases k:stepOk m ann t with
   |false=>rw[k]at h;cases h
   | true=>
    rw[k]at h
    dsimp only at h ⊢
    cases g:step (denote tb) p w s t with
    |halt o z=>rw[g]at h;cases h
    |go z t'=>rw[g]at h;exact pP h
def a0X (T:BT)(n a:Nat):Option Obj:=match Nat.blt a n with
 |true=>(match T.get a with | some o=>alive o | none=>none)
 |false=>none
def a2Y {T:BT}{n a:Nat}{life:Life}{o:Obj}(h:a0X T n a=some o):(absHeap T n life).get? a=some o:=by
 unfold a0X at h
 cases c:Nat.blt a n with
 |false=>rw[c]at h;cases h
 | true=>
  rw[c]at h
  dsimp only at h
  cases g:T.get a with
  |none=>rw[g]at h;cases h
  | some x=>
   rw[g]at h
   rw[abs_get (Nat.le_of_ble_eq_true c) g]
   exact h
theorem sO {T:BT}{n:Nat}{life:Life}:∀{as:List Addr}{os:List Obj},as.map (a0X T n)=os.map some->as.map (absHeap T n life).get? =os.map some
 |[], [],_=>rfl
 |[],_::_,h=>by cases h
 |_::_, [],h=>by cases h
 | a::as,o::os,h=>by
  rw[YE,YE]at h
  injection h with h1 h2
  rw[YE,YE,sO h2]
  exact YO (·::os.map some) (a2Y h1)
abbrev look (p q:Program)(loose:List Str)(Xt:Shared->Bool)(as:List Addr)(h:Heap)(s:SharedT):=
 (staticsOk (importedModules p.main.body) h s.abs.heap && namesBound p s.abs.heap && gensDone s.abs && laidKept h s.abs.heap,openSeen q loose (importedModules p.main.body) Xt true s.abs,as.map (a0X s.tree s.n))
theorem yQ {p q:Program}{loose:List Str}{i:Shared->Bool}{as:List Addr}{a:World->List Obj}{N m:Nat}{ann:Option Value}(S:World->OsState->SharedT)
  (op:∀w:World,(fencedOpening treeTable p w N).map (λs=>(s.heap,s.gens,s.drawn,s.toks))=some (boot_heap w.params,Array.mk [],boot_drawn,boot_toks))
  (g : ∀ w : World, ((boot_heap w.params).isNs mainGlobals, (boot_heap w.params).objs.size, (boot_heap w.params).nsMap mainGlobals "__annotations__") = (true, m, ann))
  (abs:∀w os,(S w os).abs=⟨boot_heap w.params,Array.mk [],boot_drawn,boot_toks,os⟩)
  (whole:∀w:World,(λos=>(segRunT treeTable p w m ann 0 N (S w os) (topStub p)).map λr=>look p q loose i as (boot_heap w.params) r.2.1)=λ_=>some (true,openGood q loose,(a w).map some)):LeftO p q loose i (λs=>as.map s.heap.get?) (λw=>(a w).map some) N:=λw=>by
 obtain⟨⟨h,j,d,k,os⟩,e,l⟩:=YG.mp (op w)
 obtain⟨rfl,rfl,rfl,rfl⟩:h=boot_heap w.params/\j=Array.mk []/\d=boot_drawn/\k=boot_toks:=by simpa using l
 obtain⟨n,o,u⟩:_/\_/\_:=by simpa only[Prod.mk.injEq] using g w
 obtain⟨⟨f,b,c,x⟩,v,y⟩:=YG.mp (congrFun (whole w) os)
 obtain⟨l1,l2,l3⟩:_/\_/\_:=by simpa only[look,Prod.mk.injEq] using y
 have z:as.map b.abs.heap.get? =(a w).map some:=sO l3
 have r:=pP (segRun_of v)
 rw[abs]at r
 have t:topFrom treeTable p w N ⟨boot_heap w.params,Array.mk [],boot_drawn,boot_toks,os⟩=some b.abs:=by
  unfold topFrom
  dsimp only
  rw[n,o,u,r]
  show (match staticsOk (importedModules p.main.body) (boot_heap w.params) b.abs.heap && namesBound p b.abs.heap && gensDone b.abs && laidKept (boot_heap w.params) b.abs.heap with | true=>_ | false=>_)=_
  rw[l1]
 unfold openEnds
 rw[e]
 refine(YO (Option.map _) t).trans ?_
 exact YO some (by show (_,as.map b.abs.heap.get?)=(_,(a w).map some);rw[l2,z])
abbrev r (a:Addr):Value:= .ref a
abbrev s (x:Str)(t:Tok):Value:= .str x t
abbrev i (x:Int)(t:Tok):Value:= .int x t
abbrev t (x:String):Value:= .type x
abbrev b (x:String):Value:= .builtin x
abbrev tp (l:List Value):Obj:=⟨.type "tuple",none,.seq l.toArray 0, #[]⟩
abbrev co (l:List Value):Obj:=⟨.type "code",none,.fields l.toArray, #[]⟩
abbrev fi (c:Value)(l:List Value):Obj:=⟨c,none,.fields l.toArray, #[]⟩
abbrev di (c:Value)(l:List DictEntry)(n:Nat):Obj:=⟨c,none,.dict l.toArray n, #[]⟩
abbrev e (P:Params)(x:Str)(t:Tok)(v:Value):DictEntry:=⟨PyData.keyHash P x,.str x t,v⟩
abbrev cl (c:ClassData)(l:List (Option Value)):Obj:=⟨.type "type",none,.cls c,l.toArray⟩
abbrev o (v:Value):Option Value:=some v
abbrev sf (p:Program)(k:Nat):Stmt:=p.main.body.getD k default
def sub (k:Nat):Stmt->Stmt
 |.ClassDef _ _ _ b _ _ _ _ _ _ _=>b.getD k default
 |x=>x
def fn (q:Str)(d kw doc md:Value)(c bl:Addr):Stmt->Obj
 |.FunctionDef n a b _ _ _ sc _ _ _=>⟨.type "function",none,.func { name:=n,qualname:=q,params:=a,body:= .stmts b,scope:=sc,globals:=3,closure:=[],defaults:=d,kwdefaults:=kw,doc:=doc,pyModule:=md,code:= .ref c,builtins:=bl }, #[]⟩
 |_=>default
def dr:Stmt->DefRec
 |.FunctionDef n a b _ _ _ sc _ _ x=>⟨n,a,b,sc,x⟩
 |_=>⟨"",⟨[], [],none, [], [],none, []⟩, [],default,default⟩
abbrev cc (nm qn:Str)(t l a fl x tb:Nat)(d v f:Value)(z n t':Nat):Obj:=co [s nm t,s qn (t+1),s "/claim/cut.py" (t+2),i l 0,i a 0,i 0 0,i 0 0,i fl 0,r x,.bool true,i 181 0,r tb,d,v,f,r z,i n 0,i l 0,s "/claim/cut.py" t']
abbrev fo (q md:Str)(t:Tok)(c:Addr)(x:Stmt):Obj:=fn q .none .none .none (s md t) c 0 x
noncomputable def tree (P:Params):BT:=(.node (boot_o_0 P) (.node (boot_o_1 P) (.node (boot_o_3 P) (.node (boot_o_7 P) .nil .nil) .nil) (.node (boot_o_5 P) (.node (boot_o_9 P) .nil .nil) .nil)) (.node (boot_o_2 P) (.node (boot_o_4 P) (.node (boot_o_8 P) .nil .nil) .nil) (.node (boot_o_6 P) (.node (boot_o_10 P) .nil .nil) .nil)))
noncomputable def S (w:World)(os:OsState):SharedT:=⟨tree w.params,11,(boot_heap w.params).life,Array.mk [],boot_drawn,boot_toks,os⟩
def b8U (w:World)(a:OsState):(S w a).abs=⟨boot_heap w.params,Array.mk [],boot_drawn,boot_toks,a⟩:=by kernel_rfl
set_option maxRecDepth 100000
noncomputable section
abbrev p:Program:=PySem.Challenge.pw_bitrail_k94_whole_a_wrong_post
abbrev cA (nm qn:Str)(t l a x n:Nat):Obj:=cc nm qn t l a 3 x (x+1) .none (r (x+2)) (r (x+3)) (x+4) n (n+1)
abbrev cB (nm qn:Str)(t l a x n:Nat):Obj:=cc nm qn t l a 3 x (x+1) .none .none .none (x+2) n (n+1)
abbrev sG (j:Nat):Stmt:=sf p j
abbrev sB (k j:Nat):Stmt:=sub k (sf p j)
abbrev cO (n:Str)(a d q u:Nat):Obj:=cl { name:=n,bases:=[t "object"],mro:=[r a,t "object"],ns:=d,qualname:=n,hasDict:=true,subclasses:=[] } [.none,.none,o (s n q),o (s n u),o (b "object.__new__"),o (.bool true)]
abbrev cX (n:Str)(z a d g q u:Nat):Obj:=cl { name:=n,bases:=[r z],mro:=[r a,r z,t "ValueError",t "Exception",t "BaseException",t "object"],ns:=d,qualname:=n,hasDict:=true,subclasses:=[] } [o (r g),.none,o (s n q),o (s n u),o (b "ValueError.__new__"),o (.bool true)]
abbrev eL (P:Params)(q l u:Nat):DictEntry:=e P "__firstlineno__" q (i l u)
abbrev eS (P:Params)(q a:Nat):DictEntry:=e P "__static_attributes__" q (r a)
abbrev eD (P:Params)(q:Nat):DictEntry:=e P "__doc__" q .none
abbrev eM (P:Params)(q:Nat)(v:Value):DictEntry:=e P "__module__" q v
abbrev er (P:Params)(x:Str)(q a:Nat):DictEntry:=e P x q (r a)
abbrev ja (q:Str)(c:Addr)(x:Stmt):Obj:=fo q "bitrail.errors" 194 c x
abbrev ma:Value:=s "bitrail.errors" 194
abbrev jb (q:Str)(c:Addr)(x:Stmt):Obj:=fo q "bitrail.bits" 294 c x
abbrev jc (q:Str)(c:Addr)(x:Stmt):Obj:=fo q "bitrail.keys" 319 c x
abbrev jd (q:Str)(c:Addr)(x:Stmt):Obj:=fo q "bitrail.checks" 332 c x
abbrev je (q:Str)(c:Addr)(x:Stmt):Obj:=fo q "bitrail.names" 352 c x
abbrev jf (q:Str)(c:Addr)(x:Stmt):Obj:=fo q "bitrail.putting" 373 c x
abbrev mf:Value:=s "bitrail.putting" 373
abbrev jg (q:Str)(c:Addr)(x:Stmt):Obj:=fo q "bitrail.frames" 438 c x
abbrev jh (q:Str)(c:Addr)(x:Stmt):Obj:=fo q "bitrail.counts" 496 c x
abbrev mh:Value:=s "bitrail.counts" 496
abbrev ji (q:Str)(c:Addr)(x:Stmt):Obj:=fo q "bitrail.readers" 585 c x
abbrev mi:Value:=s "bitrail.readers" 585
abbrev jj (q:Str)(c:Addr)(x:Stmt):Obj:=fo q "bitrail.tails" 647 c x
abbrev mj:Value:=s "bitrail.tails" 647
abbrev jk (q:Str)(c:Addr)(x:Stmt):Obj:=fo q "bitrail.stances" 774 c x
abbrev mk:Value:=s "bitrail.stances" 774
abbrev jl (q:Str)(c:Addr)(x:Stmt):Obj:=fo q "bitrail.posts" 1253 c x
abbrev ml:Value:=s "bitrail.posts" 1253
abbrev jm (q:Str)(c:Addr)(x:Stmt):Obj:=fo q "bitrail.rails" 1410 c x
abbrev mm:Value:=s "bitrail.rails" 1410
abbrev jn (q:Str)(c:Addr)(x:Stmt):Obj:=fo q "law_bitrail_k94_whole_a_wrong_post" 1575 c x
noncomputable def K (P : Params) : Frag := (nat_lit 2,di .none [] 0)::(nat_lit 3,di (t "dict") [e P "__name__" 165 (s "law_bitrail_k94_whole_a_wrong_post" 1575),eD P 166,e P "__package__" 167 .none,e P "__loader__" 168 (b "__main__.__loader__#opaque"),e P "__spec__" 169 .none,er P "__annotations__" 170 6,er P "__builtins__" 171 4,e P "__file__" 173 (s "/claim/cut.py" 172),e P "__cached__" 174 .none,er P "_wall" 193 21,er P "RailError" 213 31,er P "NoBits" 229 44,er P "NoName" 245 56,er P "NoKey" 261 68,er P "NoFrame" 277 80,er P "NoPost" 293 92,e P "HIGHEST_BYTE" 297 (i 255 296),er P "bits_of" 303 99,er P "number_of" 312 106,er P "are_bytes" 318 111,er P "divided" 331 118,e P "KEY" 335 (i 64647 334),e P "CHECK_BITS" 337 (i 15 336),er P "rest_of" 344 125,er P "check_of" 351 132,e P "NAME_BITS" 355 (i 8 354),e P "HIGHEST_NAME" 357 (i 255 356),er P "is_name" 364 139,er P "is_wanted" 372 146,e P "MOST_ALIKE" 376 (i 5 375),er P "Streak" 427 184,er P "put_in" 437 195,e P "SIZE_AT" 441 (i 9 440),e P "SIZE_BITS" 443 (i 3 442),e P "DATA_AT" 445 (i 12 444),e P "BYTE_BITS" 447 (i 8 446),e P "MOST_BYTES" 449 (i 7 448),er P "check_frame" 457 202,er P "frame_bits" 467 209,er P "is_complete" 474 216,er P "told_size" 481 223,er P "read_frame" 487 228,er P "wire_of" 495 235,e P "GREAT_FAULT" 499 (i 8 498),e P "SMALL_FAULT" 501 (i 1 500),e P "QUIET_FROM" 503 (i 12 502),e P "OFF_FROM" 505 (i 18 504),er P "Count" 584 301,er P "Reader" 646 350,e P "ANSWER_AT" 650 (i 1 649),e P "VOTES_AT" 652 (i 9 651),er P "Tail" 725 406,er P "ReadTail" 749 427,er P "SpeakTail" 773 446,e P "FLAG_BITS" 777 (i 6 776),e P "REST_TURNS" 779 (i 3 778),e P "QUIET_TURNS" 781 (i 8 780),e P "DUEL_BITS" 783 (i 9 782),er P "begun_reader" 790 455,er P "unless_off" 799 462,er P "fault_of" 807 469,er P "refusal_of" 815 476,er P "blame_of" 822 483,er P "Free" 876 521,er P "Speaks" 935 563,er P "Reads" 991 605,er P "InTail" 1047 647,er P "Flagging" 1102 689,er P "Settles" 1155 731,er P "Rests" 1208 773,er P "Off" 1252 808,er P "VOTES" 1258 813,er P "check_votes" 1265 820,er P "check_choice" 1272 827,er P "copies" 1278 832,er P "Post" 1409 940,e P "MOST_POSTS" 1413 (i 5 1412),er P "Rail" 1574 1069,er P "_law_draw" 1587 1080,er P "_law_size" 1601 1087,er P "_law_frames" 1616 1094,er P "_law_aim" 1626 1101,er P "_law_made" 1632 1106,er P "_law_got" 1638 1111,er P "law" 1644 1116] 85)::(nat_lit 4,⟨.type "module",some builtinsNs,.plain,#[]⟩)::(nat_lit 30,di (t "dict") [eM P 203 ma,eL P 207 5 206,eS P 208 29,er P "__weakref__" 210 32,eD P 211] 3)::(nat_lit 31,cl {name:="RailError",bases:=[t "ValueError"],mro:=[r 31,t "ValueError",t "Exception",t "BaseException",t "object"],ns:=30,qualname:="RailError",hasDict:=true,subclasses:=[r 44,r 56,r 68,r 80,r 92]} [o (r 22),.none,o (s "RailError" 196),o (s "RailError" 204),o (b "ValueError.__new__"),o (.bool true)])::(nat_lit 43,di (t "dict") [eM P 221 ma,eL P 225 7 224,eS P 226 42,eD P 227] 2)::(nat_lit 44,cX "NoBits" 31 44 43 35 214 222)::(nat_lit 55,di (t "dict") [eM P 237 ma,eL P 241 9 240,eS P 242 54,eD P 243] 2)::(nat_lit 56,cX "NoName" 31 56 55 47 230 238)::(nat_lit 67,di (t "dict") [eM P 253 ma,eL P 257 11 256,eS P 258 66,eD P 259] 2)::(nat_lit 68,cX "NoKey" 31 68 67 59 246 254)::(nat_lit 79,di (t "dict") [eM P 269 ma,eL P 273 13 272,eS P 274 78,eD P 275] 2)::(nat_lit 80,cX "NoFrame" 31 80 79 71 262 270)::(nat_lit 91,di (t "dict") [eM P 285 ma,eL P 289 15 288,eS P 290 90,eD P 291] 2)::(nat_lit 92,cX "NoPost" 31 92 91 83 278 286)::(nat_lit 98,cB "bits_of" "bits_of" 298 19 2 95 301)::(nat_lit 99,jb "bits_of" 98 (sG 10))::(nat_lit 105,cA "number_of" "number_of" 304 23 1 100 310)::(nat_lit 106,jb "number_of" 105 (sG 11))::(nat_lit 110,cB "are_bytes" "are_bytes" 313 28 1 107 316)::(nat_lit 111,jb "are_bytes" 110 (sG 12))::(nat_lit 117,cA "divided" "divided" 321 31 2 112 329)::(nat_lit 118,jc "divided" 117 (sG 14))::(nat_lit 124,cA "rest_of" "rest_of" 338 44 1 119 342)::(nat_lit 125,jd "rest_of" 124 (sG 18))::(nat_lit 131,cA "check_of" "check_of" 345 46 1 126 349)::(nat_lit 132,jd "check_of" 131 (sG 19))::(nat_lit 138,cA "is_name" "is_name" 358 51 1 133 362)::(nat_lit 139,je "is_name" 138 (sG 23))::(nat_lit 145,cA "is_wanted" "is_wanted" 365 53 2 140 370)::(nat_lit 146,je "is_wanted" 145 (sG 24))::(nat_lit 159,cA "__init__" "Streak.__init__" 389 59 1 154 393)::(nat_lit 160,jf "Streak.__init__" 159 (sB 0 27))::(nat_lit 166,cA "lengthen" "Streak.lengthen" 396 63 2 161 401)::(nat_lit 167,jf "Streak.lengthen" 166 (sB 1 27))::(nat_lit 173,cA "is_full" "Streak.is_full" 404 67 1 168 408)::(nat_lit 174,jf "Streak.is_full" 173 (sB 2 27))::(nat_lit 180,cA "is_too_long" "Streak.is_too_long" 411 70 1 175 415)::(nat_lit 181,jf "Streak.is_too_long" 180 (sB 3 27))::(nat_lit 183,di (t "dict") [eM P 384 mf,eL P 388 57 387,er P "__init__" 395 160,er P "lengthen" 403 167,er P "is_full" 410 174,er P "is_too_long" 417 181,eS P 420 182,er P "__dict__" 422 185,er P "__weakref__" 424 186,eD P 425] 4)::(nat_lit 184,cO "Streak" 184 183 377 385)::(nat_lit 194,cA "put_in" "put_in" 428 72 1 189 435)::(nat_lit 195,jf "put_in" 194 (sG 28))::(nat_lit 201,cA "check_frame" "check_frame" 450 88 2 196 455)::(nat_lit 202,jg "check_frame" 201 (sG 35))::(nat_lit 208,cA "frame_bits" "frame_bits" 458 95 2 203 465)::(nat_lit 209,jg "frame_bits" 208 (sG 36))::(nat_lit 215,cA "is_complete" "is_complete" 468 101 1 210 472)::(nat_lit 216,jg "is_complete" 215 (sG 37))::(nat_lit 222,cA "told_size" "told_size" 475 103 1 217 479)::(nat_lit 223,jg "told_size" 222 (sG 38))::(nat_lit 227,cB "read_frame" "read_frame" 482 105 1 224 485)::(nat_lit 228,jg "read_frame" 227 (sG 39))::(nat_lit 234,cA "wire_of" "wire_of" 488 114 2 229 493)::(nat_lit 235,jg "wire_of" 234 (sG 40))::(nat_lit 248,cA "__init__" "Count.__init__" 518 123 1 243 522)::(nat_lit 249,jh "Count.__init__" 248 (sB 0 46))::(nat_lit 255,cA "fault" "Count.fault" 525 126 2 250 530)::(nat_lit 256,jh "Count.fault" 255 (sB 1 46))::(nat_lit 262,cA "blame" "Count.blame" 533 129 1 257 537)::(nat_lit 263,jh "Count.blame" 262 (sB 2 46))::(nat_lit 269,cA "good" "Count.good" 540 132 1 264 544)::(nat_lit 270,jh "Count.good" 269 (sB 3 46))::(nat_lit 276,cA "move" "Count.move" 547 135 2 271 552)::(nat_lit 277,jh "Count.move" 276 (sB 4 46))::(nat_lit 283,cA "number" "Count.number" 555 139 1 278 559)::(nat_lit 284,jh "Count.number" 283 (sB 5 46))::(nat_lit 290,cA "is_quiet" "Count.is_quiet" 562 142 1 285 566)::(nat_lit 291,jh "Count.is_quiet" 290 (sB 6 46))::(nat_lit 297,cA "is_off" "Count.is_off" 569 145 1 292 573)::(nat_lit 298,jh "Count.is_off" 297 (sB 7 46))::(nat_lit 300,di (t "dict") [eM P 513 mh,eL P 517 121 516,er P "__init__" 524 249,er P "fault" 532 256,er P "blame" 539 263,er P "good" 546 270,er P "move" 554 277,er P "number" 561 284,er P "is_quiet" 568 291,er P "is_off" 575 298,eS P 577 299,er P "__dict__" 579 302,er P "__weakref__" 581 303,eD P 582] 4)::(nat_lit 301,cO "Count" 301 300 506 514)::(nat_lit 318,cA "__init__" "Reader.__init__" 599 150 1 313 603)::(nat_lit 319,ji "Reader.__init__" 318 (sB 0 48))::(nat_lit 325,cA "hear" "Reader.hear" 606 155 2 320 612)::(nat_lit 326,ji "Reader.hear" 325 (sB 1 48))::(nat_lit 332,cA "judged" "Reader.judged" 615 163 1 327 619)::(nat_lit 333,ji "Reader.judged" 332 (sB 2 48))::(nat_lit 339,cA "plain" "Reader.plain" 622 170 1 334 626)::(nat_lit 340,ji "Reader.plain" 339 (sB 3 48))::(nat_lit 346,cA "frame" "Reader.frame" 629 173 1 341 633)::(nat_lit 347,ji "Reader.frame" 346 (sB 4 48))::(nat_lit 349,di (t "dict") [eM P 594 mi,eL P 598 148 597,er P "__init__" 605 319,er P "hear" 614 326,er P "judged" 621 333,er P "plain" 628 340,er P "frame" 635 347,eS P 639 348,er P "__dict__" 641 351,er P "__weakref__" 643 352,eD P 644] 4)::(nat_lit 350,cO "Reader" 350 349 587 595)::(nat_lit 367,cA "__init__" "Tail.__init__" 665 180 3 362 671)::(nat_lit 368,jj "Tail.__init__" 367 (sB 0 52))::(nat_lit 374,cA "says" "Tail.says" 674 186 1 369 678)::(nat_lit 375,jj "Tail.says" 374 (sB 1 52))::(nat_lit 381,cA "hear" "Tail.hear" 681 189 2 376 687)::(nat_lit 382,jj "Tail.hear" 381 (sB 2 52))::(nat_lit 388,cA "is_fault" "Tail.is_fault" 690 196 3 383 696)::(nat_lit 389,jj "Tail.is_fault" 388 (sB 3 52))::(nat_lit 395,cA "judged_vote" "Tail.judged_vote" 699 201 2 390 704)::(nat_lit 396,jj "Tail.judged_vote" 395 (sB 4 52))::(nat_lit 402,cA "place" "Tail.place" 707 208 1 397 711)::(nat_lit 403,jj "Tail.place" 402 (sB 5 52))::(nat_lit 405,di (t "dict") [eM P 660 mj,eL P 664 178 663,er P "__init__" 673 368,er P "says" 680 375,er P "hear" 689 382,er P "is_fault" 698 389,er P "judged_vote" 706 396,er P "place" 713 403,eS P 718 404,er P "__dict__" 720 407,er P "__weakref__" 722 408,eD P 723] 4)::(nat_lit 406,cl {name:="Tail",bases:=[t "object"],mro:=[r 406,t "object"],ns:=405,qualname:="Tail",hasDict:=true,subclasses:=[r 427,r 446]} [.none,.none,o (s "Tail" 653),o (s "Tail" 661),o (b "object.__new__"),o (.bool true)])::(nat_lit 423,cA "__init__" "ReadTail.__init__" 738 212 2 418 743)::(nat_lit 424,jj "ReadTail.__init__" 423 (sB 0 53))::(nat_lit 426,di (t "dict") [eM P 733 mj,eL P 737 210 736,er P "__init__" 745 424,eS P 746 425,eD P 747] 2)::(nat_lit 427,cl {name:="ReadTail",bases:=[r 406],mro:=[r 427,r 406,t "object"],ns:=426,qualname:="ReadTail",hasDict:=true,subclasses:=[]} [o (r 411),.none,o (s "ReadTail" 726),o (s "ReadTail" 734),o (b "object.__new__"),o (.bool true)])::(nat_lit 442,cA "__init__" "SpeakTail.__init__" 762 216 2 437 767)::(nat_lit 443,jj "SpeakTail.__init__" 442 (sB 0 54))::(nat_lit 445,di (t "dict") [eM P 757 mj,eL P 761 214 760,er P "__init__" 769 443,eS P 770 444,eD P 771] 2)::(nat_lit 446,cl {name:="SpeakTail",bases:=[r 406],mro:=[r 446,r 406,t "object"],ns:=445,qualname:="SpeakTail",hasDict:=true,subclasses:=[]} [o (r 430),.none,o (s "SpeakTail" 750),o (s "SpeakTail" 758),o (b "object.__new__"),o (.bool true)])::(nat_lit 454,cA "begun_reader" "begun_reader" 784 223 0 449 788)::(nat_lit 455,jk "begun_reader" 454 (sG 60))::(nat_lit 461,cA "unless_off" "unless_off" 791 227 3 456 797)::(nat_lit 462,jk "unless_off" 461 (sG 61))::(nat_lit 468,cA "fault_of" "fault_of" 800 229 2 463 805)::(nat_lit 469,jk "fault_of" 468 (sG 62))::(nat_lit 475,cA "refusal_of" "refusal_of" 808 232 2 470 813)::(nat_lit 476,jk "refusal_of" 475 (sG 63))::(nat_lit 482,cA "blame_of" "blame_of" 816 235 1 477 820)::(nat_lit 483,jk "blame_of" 482 (sG 64))::(nat_lit 496,cA "__init__" "Free.__init__" 835 240 2 491 840)::(nat_lit 497,jk "Free.__init__" 496 (sB 0 65))::(nat_lit 503,cA "shown" "Free.shown" 843 243 1 498 847)::(nat_lit 504,jk "Free.shown" 503 (sB 1 65))::(nat_lit 510,cA "says" "Free.says" 850 246 2 505 855)::(nat_lit 511,jk "Free.says" 510 (sB 2 65))::(nat_lit 517,cA "step" "Free.step" 858 251 3 512 865)::(nat_lit 518,jk "Free.step" 517 (sB 3 65))::(nat_lit 520,di (t "dict") [eM P 830 mk,eL P 834 238 833,er P "__init__" 842 497,er P "shown" 849 504,er P "says" 857 511,er P "step" 867 518,eS P 869 519,er P "__dict__" 871 522,er P "__weakref__" 873 523,eD P 874] 4)::(nat_lit 521,cO "Free" 521 520 823 831)::(nat_lit 538,cA "__init__" "Speaks.__init__" 889 262 4 533 896)::(nat_lit 539,jk "Speaks.__init__" 538 (sB 0 66))::(nat_lit 545,cA "shown" "Speaks.shown" 899 267 1 540 903)::(nat_lit 546,jk "Speaks.shown" 545 (sB 1 66))::(nat_lit 552,cA "says" "Speaks.says" 906 270 2 547 911)::(nat_lit 553,jk "Speaks.says" 552 (sB 2 66))::(nat_lit 559,cA "step" "Speaks.step" 914 273 3 554 922)::(nat_lit 560,jk "Speaks.step" 559 (sB 3 66))::(nat_lit 562,di (t "dict") [eM P 884 mk,eL P 888 260 887,er P "__init__" 898 539,er P "shown" 905 546,er P "says" 913 553,er P "step" 924 560,eS P 928 561,er P "__dict__" 930 564,er P "__weakref__" 932 565,eD P 933] 4)::(nat_lit 563,cO "Speaks" 563 562 877 885)::(nat_lit 580,cA "__init__" "Reads.__init__" 948 287 3 575 954)::(nat_lit 581,jk "Reads.__init__" 580 (sB 0 67))::(nat_lit 587,cA "shown" "Reads.shown" 957 291 1 582 961)::(nat_lit 588,jk "Reads.shown" 587 (sB 1 67))::(nat_lit 594,cA "says" "Reads.says" 964 294 2 589 969)::(nat_lit 595,jk "Reads.says" 594 (sB 2 67))::(nat_lit 601,cA "step" "Reads.step" 972 297 3 596 979)::(nat_lit 602,jk "Reads.step" 601 (sB 3 67))::(nat_lit 604,di (t "dict") [eM P 943 mk,eL P 947 285 946,er P "__init__" 956 581,er P "shown" 963 588,er P "says" 971 595,er P "step" 981 602,eS P 984 603,er P "__dict__" 986 606,er P "__weakref__" 988 607,eD P 989] 4)::(nat_lit 605,cO "Reads" 605 604 936 944)::(nat_lit 622,cA "__init__" "InTail.__init__" 1004 306 3 617 1010)::(nat_lit 623,jk "InTail.__init__" 622 (sB 0 68))::(nat_lit 629,cA "shown" "InTail.shown" 1013 310 1 624 1017)::(nat_lit 630,jk "InTail.shown" 629 (sB 1 68))::(nat_lit 636,cA "says" "InTail.says" 1020 313 2 631 1025)::(nat_lit 637,jk "InTail.says" 636 (sB 2 68))::(nat_lit 643,cA "step" "InTail.step" 1028 316 3 638 1035)::(nat_lit 644,jk "InTail.step" 643 (sB 3 68))::(nat_lit 646,di (t "dict") [eM P 999 mk,eL P 1003 304 1002,er P "__init__" 1012 623,er P "shown" 1019 630,er P "says" 1027 637,er P "step" 1037 644,eS P 1040 645,er P "__dict__" 1042 648,er P "__weakref__" 1044 649,eD P 1045] 4)::(nat_lit 647,cO "InTail" 647 646 992 1000)::(nat_lit 664,cA "__init__" "Flagging.__init__" 1060 332 3 659 1066)::(nat_lit 665,jk "Flagging.__init__" 664 (sB 0 69))::(nat_lit 671,cA "shown" "Flagging.shown" 1069 336 1 666 1073)::(nat_lit 672,jk "Flagging.shown" 671 (sB 1 69))::(nat_lit 678,cA "says" "Flagging.says" 1076 339 2 673 1081)::(nat_lit 679,jk "Flagging.says" 678 (sB 2 69))::(nat_lit 685,cA "step" "Flagging.step" 1084 342 3 680 1090)::(nat_lit 686,jk "Flagging.step" 685 (sB 3 69))::(nat_lit 688,di (t "dict") [eM P 1055 mk,eL P 1059 330 1058,er P "__init__" 1068 665,er P "shown" 1075 672,er P "says" 1083 679,er P "step" 1092 686,eS P 1095 687,er P "__dict__" 1097 690,er P "__weakref__" 1099 691,eD P 1100] 4)::(nat_lit 689,cO "Flagging" 689 688 1048 1056)::(nat_lit 706,cA "__init__" "Settles.__init__" 1115 348 2 701 1120)::(nat_lit 707,jk "Settles.__init__" 706 (sB 0 70))::(nat_lit 713,cA "shown" "Settles.shown" 1123 351 1 708 1127)::(nat_lit 714,jk "Settles.shown" 713 (sB 1 70))::(nat_lit 720,cA "says" "Settles.says" 1130 354 2 715 1135)::(nat_lit 721,jk "Settles.says" 720 (sB 2 70))::(nat_lit 727,cA "step" "Settles.step" 1138 357 3 722 1144)::(nat_lit 728,jk "Settles.step" 727 (sB 3 70))::(nat_lit 730,di (t "dict") [eM P 1110 mk,eL P 1114 346 1113,er P "__init__" 1122 707,er P "shown" 1129 714,er P "says" 1137 721,er P "step" 1146 728,eS P 1148 729,er P "__dict__" 1150 732,er P "__weakref__" 1152 733,eD P 1153] 4)::(nat_lit 731,cO "Settles" 731 730 1103 1111)::(nat_lit 748,cA "__init__" "Rests.__init__" 1168 365 2 743 1173)::(nat_lit 749,jk "Rests.__init__" 748 (sB 0 71))::(nat_lit 755,cA "shown" "Rests.shown" 1176 368 1 750 1180)::(nat_lit 756,jk "Rests.shown" 755 (sB 1 71))::(nat_lit 762,cA "says" "Rests.says" 1183 371 2 757 1188)::(nat_lit 763,jk "Rests.says" 762 (sB 2 71))::(nat_lit 769,cA "step" "Rests.step" 1191 374 3 764 1197)::(nat_lit 770,jk "Rests.step" 769 (sB 3 71))::(nat_lit 772,di (t "dict") [eM P 1163 mk,eL P 1167 363 1166,er P "__init__" 1175 749,er P "shown" 1182 756,er P "says" 1190 763,er P "step" 1199 770,eS P 1201 771,er P "__dict__" 1203 774,er P "__weakref__" 1205 775,eD P 1206] 4)::(nat_lit 773,cO "Rests" 773 772 1156 1164)::(nat_lit 790,cA "shown" "Off.shown" 1221 380 1 785 1225)::(nat_lit 791,jk "Off.shown" 790 (sB 0 72))::(nat_lit 797,cA "says" "Off.says" 1228 383 2 792 1233)::(nat_lit 798,jk "Off.says" 797 (sB 1 72))::(nat_lit 804,cA "step" "Off.step" 1236 386 3 799 1242)::(nat_lit 805,jk "Off.step" 804 (sB 2 72))::(nat_lit 807,di (t "dict") [eM P 1216 mk,eL P 1220 378 1219,er P "shown" 1227 791,er P "says" 1235 798,er P "step" 1244 805,eS P 1245 806,er P "__dict__" 1247 809,er P "__weakref__" 1249 810,eD P 1250] 4)::(nat_lit 808,cO "Off" 808 807 1209 1217)::(nat_lit 813,tp [i 1 1255,i 3 1256,i 5 1257])::(nat_lit 819,cA "check_votes" "check_votes" 1259 390 1 814 1263)::(nat_lit 820,jl "check_votes" 819 (sG 75))::(nat_lit 826,cA "check_choice" "check_choice" 1266 393 1 821 1270)::(nat_lit 827,jl "check_choice" 826 (sG 76))::(nat_lit 831,cB "copies" "copies" 1273 396 1 828 1276)::(nat_lit 832,jl "copies" 831 (sG 77))::(nat_lit 845,cA "__init__" "Post.__init__" 1291 400 3 840 1297)::(nat_lit 846,jl "Post.__init__" 845 (sB 0 78))::(nat_lit 852,cA "hand" "Post.hand" 1300 410 3 847 1306)::(nat_lit 853,jl "Post.hand" 852 (sB 1 78))::(nat_lit 859,cA "says" "Post.says" 1309 414 1 854 1313)::(nat_lit 860,jl "Post.says" 859 (sB 2 78))::(nat_lit 866,cA "hear" "Post.hear" 1316 417 2 861 1322)::(nat_lit 867,jl "Post.hear" 866 (sB 3 78))::(nat_lit 873,cA "stance" "Post.stance" 1325 422 1 868 1329)::(nat_lit 874,jl "Post.stance" 873 (sB 4 78))::(nat_lit 880,cA "waits" "Post.waits" 1332 425 1 875 1336)::(nat_lit 881,jl "Post.waits" 880 (sB 5 78))::(nat_lit 887,cA "got" "Post.got" 1339 428 1 882 1343)::(nat_lit 888,jl "Post.got" 887 (sB 6 78))::(nat_lit 901,cA "is_quiet" "Post.is_quiet" 1353 434 1 896 1357)::(nat_lit 902,jl "Post.is_quiet" 901 (sB 8 78))::(nat_lit 908,cA "is_off" "Post.is_off" 1360 437 1 903 1364)::(nat_lit 909,jl "Post.is_off" 908 (sB 9 78))::(nat_lit 915,cA "has_frame" "Post.has_frame" 1367 440 1 910 1371)::(nat_lit 916,jl "Post.has_frame" 915 (sB 10 78))::(nat_lit 922,cA "foremost_wire" "Post.foremost_wire" 1374 443 1 917 1378)::(nat_lit 923,jl "Post.foremost_wire" 922 (sB 11 78))::(nat_lit 929,cA "drop_foremost" "Post.drop_foremost" 1381 446 1 924 1385)::(nat_lit 930,jl "Post.drop_foremost" 929 (sB 12 78))::(nat_lit 936,cA "hand_up" "Post.hand_up" 1388 449 2 931 1393)::(nat_lit 937,jl "Post.hand_up" 936 (sB 13 78))::(nat_lit 939,di (t "dict") [eM P 1286 ml,eL P 1290 398 1289,er P "__init__" 1299 846,er P "hand" 1308 853,er P "says" 1315 860,er P "hear" 1324 867,er P "stance" 1331 874,er P "waits" 1338 881,er P "got" 1345 888,er P "faults" 1352 895,er P "is_quiet" 1359 902,er P "is_off" 1366 909,er P "has_frame" 1373 916,er P "foremost_wire" 1380 923,er P "drop_foremost" 1387 930,er P "hand_up" 1395 937,eS P 1402 938,er P "__dict__" 1404 941,er P "__weakref__" 1406 942,eD P 1407] 4)::(nat_lit 940,cO "Post" 940 939 1279 1287)::(nat_lit 955,cB "__init__" "Rail.__init__" 1426 456 3 952 1429)::(nat_lit 956,jm "Rail.__init__" 955 (sB 0 81))::(nat_lit 962,cA "hand" "Rail.hand" 1432 466 4 957 1440)::(nat_lit 963,jm "Rail.hand" 962 (sB 1 81))::(nat_lit 969,cA "turn" "Rail.turn" 1443 474 2 964 1450)::(nat_lit 970,jm "Rail.turn" 969 (sB 2 81))::(nat_lit 981,cB "make_turn" "Rail.make_turn" 1462 483 2 978 1465)::(nat_lit 982,jm "Rail.make_turn" 981 (sB 4 81))::(nat_lit 988,cA "post_at" "Rail.post_at" 1468 496 2 983 1473)::(nat_lit 989,jm "Rail.post_at" 988 (sB 5 81))::(nat_lit 1023,cA "events" "Rail.events" 1506 515 1 1018 1510)::(nat_lit 1024,jm "Rail.events" 1023 (sB 10 81))::(nat_lit 1030,cA "stance" "Rail.stance" 1513 518 2 1025 1518)::(nat_lit 1031,jm "Rail.stance" 1030 (sB 11 81))::(nat_lit 1037,cA "waits" "Rail.waits" 1521 521 2 1032 1526)::(nat_lit 1038,jm "Rail.waits" 1037 (sB 12 81))::(nat_lit 1044,cA "got" "Rail.got" 1529 524 2 1039 1534)::(nat_lit 1045,jm "Rail.got" 1044 (sB 13 81))::(nat_lit 1065,cA "is_off" "Rail.is_off" 1553 533 2 1060 1558)::(nat_lit 1066,jm "Rail.is_off" 1065 (sB 16 81))::(nat_lit 1068,di (t "dict") [eM P 1421 mm,eL P 1425 454 1424,er P "__init__" 1431 956,er P "hand" 1442 963,er P "turn" 1452 970,er P "run" 1461 977,er P "make_turn" 1467 982,er P "post_at" 1475 989,er P "turns" 1482 996,er P "bits" 1489 1003,er P "said" 1497 1010,er P "heard" 1505 1017,er P "events" 1512 1024,er P "stance" 1520 1031,er P "waits" 1528 1038,er P "got" 1536 1045,er P "faults" 1544 1052,er P "is_quiet" 1552 1059,er P "is_off" 1560 1066,eS P 1567 1067,er P "__dict__" 1569 1070,er P "__weakref__" 1571 1071,eD P 1572] 4)::(nat_lit 1069,cO "Rail" 1069 1068 1414 1422)::(nat_lit 1079,cA "_law_draw" "_law_draw" 1577 536 3 1074 1585)::(nat_lit 1080,jn "_law_draw" 1079 (sG 83))::(nat_lit 1086,cA "_law_size" "_law_size" 1588 540 2 1081 1599)::(nat_lit 1087,jn "_law_size" 1086 (sG 84))::(nat_lit 1093,cA "_law_frames" "_law_frames" 1602 555 2 1088 1614)::(nat_lit 1094,jn "_law_frames" 1093 (sG 85))::(nat_lit 1100,cA "_law_aim" "_law_aim" 1617 569 3 1095 1624)::(nat_lit 1101,jn "_law_aim" 1100 (sG 86))::(nat_lit 1105,cB "_law_made" "_law_made" 1627 574 6 1102 1630)::(nat_lit 1106,jn "_law_made" 1105 (sG 87))::(nat_lit 1110,cB "_law_got" "_law_got" 1633 591 4 1107 1636)::(nat_lit 1111,jn "_law_got" 1110 (sG 88))::(nat_lit 1115,cB "law" "law" 1639 601 1 1112 1642)::(nat_lit 1116,jn "law" 1115 (sG 89))::[]
noncomputable def KA (P:Params):Frag:=(nat_lit 965,fi .none [])::K P
noncomputable def as:List Addr:=965::2::3::4::30::31::43::44::55::56::67::68::79::80::91::92::98::99::105::106::110::111::117::118::124::125::131::132::138::139::145::146::159::160::166::167::173::174::180::181::183::184::194::195::201::202::208::209::215::216::222::223::227::228::234::235::248::249::255::256::262::263::269::270::276::277::283::284::290::291::297::298::300::301::318::319::325::326::332::333::339::340::346::347::349::350::367::368::374::375::381::382::388::389::395::396::402::403::405::406::423::424::426::427::442::443::445::446::454::455::461::462::468::469::475::476::482::483::496::497::503::504::510::511::517::518::520::521::538::539::545::546::552::553::559::560::562::563::580::581::587::588::594::595::601::602::604::605::622::623::629::630::636::637::643::644::646::647::664::665::671::672::678::679::685::686::688::689::706::707::713::714::720::721::727::728::730::731::748::749::755::756::762::763::769::770::772::773::790::791::797::798::804::805::807::808::813::819::820::826::827::831::832::845::846::852::853::859::860::866::867::873::874::880::881::887::888::901::902::908::909::915::916::922::923::929::930::936::937::939::940::955::956::962::963::969::970::981::982::988::989::1023::1024::1030::1031::1037::1038::1044::1045::1065::1066::1068::1069::1079::1080::1086::1087::1093::1094::1100::1101::1105::1106::1110::1111::1115::1116::[]
noncomputable def L (P:Params):List (Nat×Obj):=KA P
def K_L (P:Params):KA P=L P:=rfl
def K_as (P:Params):as=(KA P).map (·.1):=by kernel_rfl
def qv:Program:=view p [89]
noncomputable def loose:List Str:="_wall"::"RailError"::"NoBits"::"NoName"::"NoKey"::"NoFrame"::"NoPost"::"HIGHEST_BYTE"::"bits_of"::"number_of"::"are_bytes"::"divided"::"KEY"::"CHECK_BITS"::"rest_of"::"check_of"::"NAME_BITS"::"HIGHEST_NAME"::"is_name"::"is_wanted"::"MOST_ALIKE"::"Streak"::"put_in"::"SIZE_AT"::"SIZE_BITS"::"DATA_AT"::"BYTE_BITS"::"MOST_BYTES"::"check_frame"::"frame_bits"::"is_complete"::"told_size"::"read_frame"::"wire_of"::"GREAT_FAULT"::"SMALL_FAULT"::"QUIET_FROM"::"OFF_FROM"::"Count"::"Reader"::"ANSWER_AT"::"VOTES_AT"::"Tail"::"ReadTail"::"SpeakTail"::"FLAG_BITS"::"REST_TURNS"::"QUIET_TURNS"::"DUEL_BITS"::"begun_reader"::"unless_off"::"fault_of"::"refusal_of"::"blame_of"::"Free"::"Speaks"::"Reads"::"InTail"::"Flagging"::"Settles"::"Rests"::"Off"::"VOTES"::"check_votes"::"check_choice"::"copies"::"Post"::"MOST_POSTS"::"Rail"::"_law_draw"::"_law_size"::"_law_frames"::"_law_aim"::"_law_made"::"_law_got"::[]
abbrev N:Nat:=8415
def b4H:∀w:World,(fencedOpening treeTable p w N).map (λs=>(s.heap,s.gens,s.drawn,s.toks))=some (boot_heap w.params,Array.mk [],boot_drawn,boot_toks):=boot_open (by kernel_rfl) (by decide) (λs=>by kernel_rfl)
def ann:Option Value:=some (.ref 6)
def whole (w:World)(a:OsState):=(segRunT treeTable p w 11 ann 0 N (S w a) (topStub p)).map λr=>look p qv loose (xlAt qv []) as (boot_heap w.params) r.2.1
def good (w:World)(_:OsState):=some (true,openGood qv loose,((L w.params).map λp=>p.2).map some)
def sz (w : World) := ((boot_heap w.params).isNs mainGlobals, (boot_heap w.params).objs.size, (boot_heap w.params).nsMap mainGlobals "__annotations__")
def sg (_:World):=(true,11,ann)
def a8V:whole=whole:=rfl
def b5J:good=good:=rfl
def b9T:sz=sz:=rfl
noncomputable def _root_.PySem.W.Fast.tw14657811274561199834:Program:=PySem.Challenge.pw_bitrail_k94_whole_a_wrong_post
theorem _root_.PySem.W.Fast.te14657811274561199834:PySem.Challenge.pw_bitrail_k94_whole_a_wrong_post=PySem.W.Fast.tw14657811274561199834:=rfl
noncomputable def _root_.PySem.W.Fast.tw9140266817696972190:Params->List (Nat×Obj):=Hd.L
def _root_.PySem.W.Fast.te9140266817696972190:Hd.L=PySem.W.Fast.tw9140266817696972190:=rfl
noncomputable def _root_.PySem.W.Fast.tw7625976266985363445:List Str:=Hd.loose
def _root_.PySem.W.Fast.te7625976266985363445:Hd.loose=PySem.W.Fast.tw7625976266985363445:=rfl
name_quick wq for whole by a8V
name_quick gq for good by b5J
name_quick zq for sz by b9T
def z_g (w:World):PySem.W.Fast.zq w=sg w:=by kernel_rfl
def w_g (w:World):PySem.W.Fast.wq w=PySem.W.Fast.gq w:=by kernel_rfl
def b7Y:LeftO p qv loose (xlAt qv []) (λs=>as.map s.heap.get?) (λw=>((L w.params).map λp=>p.2).map some) N:=yQ S b4H (λw=>(congrFun PySem.W.Fast.zq_eq w).trans (z_g w)) b8U λw=>((congrFun PySem.W.Fast.wq_eq w).trans (w_g w)).trans (congrFun PySem.W.Fast.gq_eq w).symm
def left:LeftO p qv loose (xlAt qv []) (λs=>as.map s.heap.get?) (λw=>(KA w.params).map λp=>some p.2) N:=λw=>(b7Y w).trans (by show some (_,((L w.params).map _).map _)=some (_,(KA w.params).map _);rw[K_L,List.map_map];rfl)
def tc:List (Addr×Addr):=[(969,965)]
def tabs (w:World)(h:Heap)(Y:InK KA w h):(K w.params).In h/\∀q∈tc,(K w.params).lookup q.2=none/\h.get? q.2=some (tabObj #[])/\codeHdIn (K w.params) q.1 q.2=true:=by
 have b:(K w.params).lookup 965=none:=by kernel_rfl
 have c:h.get? 965=some (tabObj #[]):=Y 965 _ (by kernel_rfl)
 have d:codeHdIn (K w.params) 969 965=true:=by kernel_rfl
 refine⟨λa o e=>Y a o ?_,λq g=>?_⟩
 ·show List.lookup a (((965:Nat),fi .none [])::K w.params)=some o
  rw[Xn]
  have f:(a == 965)=false:=Y5.mpr λz=>by rw[z,b]at e;cases e
  rw[f]
  exact e
 ·have g:q∈([(969,965)]:List (Addr×Addr)):=g
  simp only[YI,List.not_mem_nil,or_false]at g
  subst g
  exact⟨b,c,d⟩
def dl:DefRec:=dr (sf p 89)
def da:=(defOf qv "law",p.theDef "law")
def db:=(some (dl,([]:List (Str×PySem.Expr))),some (dl.params,dl.body,dl.scope))
def c0P:da=da:=rfl
def c0O:db=db:=rfl
name_quick daq for da by c0P
name_quick dbq for db by c0O
def d_q:PySem.W.Fast.daq=PySem.W.Fast.dbq:=by kernel_rfl
def d_e:da=db:=PySem.W.Fast.daq_eq.trans (d_q.trans PySem.W.Fast.dbq_eq.symm)
def dl_1:defOf qv "law"=some (dl, []):=YO Prod.fst d_e
def dl_2:p.theDef "law"=some (dl.params,dl.body,dl.scope):=YO Prod.snd d_e
end
end Hd
set_option Elab.async false
set_option linter.all false
set_option maxRecDepth 100000
namespace L2
open PySem PySem.Spec PyProof.Rows
variable {us:List Value}{x:Str}{u:Value}{a:Addr}{b:Addr}{P:Program}{w:World}{h:Heap}{t':Nat}{i:Nat}{j:Nat}{e:Expr}{A:Around}{E:Value->Shared->Prop}{s:Shared}{pos:Pos}{v:Value}{op:CmpOp}{c:Expr}{K:W.Frag}{pins:List (Addr×Obj)}{tg:Expr}{p:Pos}{fp:List Addr}{dx:Addr}{mA:Str->Option Value}{C:Addr}{f:Addr}{k:Nat}{fd:FuncData}{ps:List Str}{kindOf:Str->Option NameKind}{h':Heap}{es:List Expr}
abbrev Key:=Sum Int Str
def sU:Key->Value->Bool
 |.inl k,v=>Value.isInt k v
 |.inr x,v=>Value.isStrOf x v
def c0I (w:World):Key->Int
 |.inl k=>hashInt k
 |.inr x=>hashStr w x
theorem dG:∀{k:Key}{v:Value},sU k v=true->(∃i t,k=Sum.inl i/\v=Value.int i t)\/(∃x t,k=Sum.inr x/\v=Value.str x t)
 | .inl i,v,h=>by
  obtain⟨t,e⟩:=Value.isInt_shape (k:=i) (v:=v) h
  exact .inl ⟨i,t,rfl,e⟩
 | .inr x,v,h=>by
  obtain⟨t,e⟩:=Value.isStrOf_shape (x:=x) (v:=v) h
  exact .inr ⟨x,t,rfl,e⟩
def a3D (i:Int)(t:Tok):sU (.inl i) (.int i t)=true:=by simp[sU,Value.isInt]
def a3C (x:Str)(t:Tok):sU (.inr x) (.str x t)=true:=by simp[sU,Value.isStrOf]
def b5F (a b:Int):decide ((Sum.inl a:Key)=Sum.inl b)=(a == b):=by
 by_cases e:a=b
 ·subst e;simp
 ·have h:¬ (Sum.inl a:Key)=Sum.inl b:=λq=>e (Sum.inl.inj q)
  rw[Yl h]
  exact(Y5.mpr e).symm
def b5C (a b:Str):decide ((Sum.inr a:Key)=Sum.inr b)=decide (a=b):=by
 by_cases e:a=b
 ·subst e;simp
 ·have h:¬ (Sum.inr a:Key)=Sum.inr b:=λq=>e (Sum.inr.inj q)
  rw[Yl h,Yl e]
def b5E (a:Int)(b:Str):decide ((Sum.inl a:Key)=Sum.inr b)=false:=Yl (λq=>nomatch q)
def b5D (a:Str)(b:Int):decide ((Sum.inr a:Key)=Sum.inl b)=false:=Yl (λq=>nomatch q)
def dX (prog:Program)(w:World):PySem.KeyKind prog w Key where
 is:=sU
 hash:=c0I w
 inj :=λv a b ha hb=>by
  rcases dG ha with ⟨i,t,rfl,rfl⟩ | ⟨x,t,rfl,rfl⟩
  ·rcases dG hb with ⟨j,u,rfl,e⟩ | ⟨y,u,rfl,e⟩
   ·injection e with e1 _;rw[e1]
   ·exact nomatch e
  ·rcases dG hb with ⟨j,u,rfl,e⟩ | ⟨y,u,rfl,e⟩
   ·exact nomatch e
   ·injection e with e1 _;rw[e1]
 byValue:=λk v h=>by
  rcases dG h with ⟨i,t,rfl,rfl⟩ | ⟨x,t,rfl,rfl⟩ <;> rfl
 pyHash:=λhv h=>by
  rcases dG hv with ⟨i,t,rfl,rfl⟩ | ⟨x,t,rfl,rfl⟩
  ·exact wpAny_pyHash_int h
  ·exact wpAny_pyHash_str h
 eqBool:=λhu hv h=>by
  rcases dG hu with ⟨i,t,rfl,rfl⟩ | ⟨x,t,rfl,rfl⟩
  ·rcases dG hv with ⟨j,u,rfl,rfl⟩ | ⟨y,u,rfl,rfl⟩
   ·rw[b5F]at h;exact wpAny_eqBool_int h
   ·rw[b5E]at h;exact SeqAt.EqAt.int_str i t y u _ _ _ _ h
  ·rcases dG hv with ⟨j,u,rfl,rfl⟩ | ⟨y,u,rfl,rfl⟩
   ·rw[b5D]at h;exact SeqAt.EqAt.str_int x t j u _ _ _ _ h
   ·rw[b5C]at h;exact wpAny_eqBool_str h
 «strs»:=λk x t v h=>by
  rcases dG h with ⟨i,u,rfl,e⟩ | ⟨y,u,rfl,e⟩
  ·exact nomatch e
  ·injection e with e1 _
   subst e1
   cases v <;> rfl
def wH (prog:Program)(w:World)(i:Int)(t:Tok):(dX prog w).is (.inl i) (.int i t)=true:=a3D i t
def wG (prog:Program)(w:World)(x:Str)(t:Tok):(dX prog w).is (.inr x) (.str x t)=true:=a3C x t
inductive V where
 |non | bl (b:Bool) | int (i:Int) | str (x:Str) | byt (b:Array UInt8) | flt (b:UInt64) | ref (a:Addr) | ty (n:String)
 deriving DecidableEq
def RelV:V->Value->Prop
 |.non,u=>u=Value.none
 |.bl b,u=>u=Value.bool b
 |.int i,u=>∃t,u=Value.int i t
 |.str x,u=>∃t,u=Value.str x t
 |.byt b,u=>∃t,u=Value.bytes b t
 |.flt b,u=>∃t,u=Value.float b t
 |.ref a,u=>u=Value.ref a
 |.ty n,u=>u=Value.type n
abbrev Vals:List V->List Value->Prop:=Paired RelV
def Vals.length {xs:List V}(r:Vals xs us):xs.length=us.length:=Paired.length r
theorem Vals.get:∀{xs:List V}{us:List Value}{i:Nat}{x:V},Vals xs us->xs[i]? =some x->∃u,us[i]? =some u/\RelV x u
 |_,_,_,_,.nil,e=>by simp at e
 |_,_,0,_,.cons r _,e=>by simp at e;subst e;exact⟨_,rfl,r⟩
 | _,_,i+1,x,.cons _ t,e=>by
  obtain⟨u,h1,h2⟩:=Vals.get (i:=i) (x:=x) t (by simpa using e)
  exact⟨u,by simpa using h1,h2⟩
theorem Vals.set {x:V}(r:RelV x u):∀{xs:List V}{us:List Value}(i:Nat),Vals xs us->Vals (xs.set i x) (us.set i u)
 |_,_,_,.nil=> .nil
 |_,_,0,.cons _ t=> .cons r t
 |_,_,i+1,.cons q t=> .cons q (Vals.set r i t)
theorem Vals.append:∀{xs ys:List V}{us ws:List Value},Vals xs us->Vals ys ws->Vals (xs++ys) (us++ws)
 |_,_,_,_,.nil,s=>s
 |_,_,_,_,.cons r t,s=> .cons r (Vals.append t s)
theorem Vals.take:∀{xs:List V}{us:List Value}(n:Nat),Vals xs us->Vals (xs.take n) (us.take n)
 |_,_,0,_=> .nil
 |_,_,_+1,.nil=> .nil
 |_,_,n+1,.cons r t=> .cons r (Vals.take n t)
theorem Vals.drop:∀{xs:List V}{us:List Value}(n:Nat),Vals xs us->Vals (xs.drop n) (us.drop n)
 |_,_,0,r=>r
 |_,_,_+1,.nil=> .nil
 |_,_,n+1,.cons _ t=>Vals.drop n t
def lZ:Option V->Option Value->Prop
 |some v,some u=>RelV v u
 |none,none=>True
 |_,_=>False
def KV {a:Type}:List (a×V)->List (a×Value)->Prop:=Paired λ(p:a×V) (q:a×Value)=>p.1=q.1/\RelV p.2 q.2
def kV:Key->V
 |.inl i=> .int i
 |.inr x=> .str x
inductive HO where
  |lst (xs:List V)
  |tup (xs:List V)
  |dK (kvs:List (Key×V)) | dT (kvs:List (List Key×V))
  |set (S:Int->Bool) (n:Nat)
  |ins (C dx:Addr) (fs:List (Str×V))
  |own (x:Addr)
  |xd (fs:List (Str×V))
  |met (f x:Addr)
  |rng (lo hi:Int)
  |frz (o:Obj) (u:HO)
  |tbl (ps:Array Value)
  |ext (φ:Heap->Prop)
variable {o:HO}
abbrev Hp:=Addr->Option HO
variable {H:Hp}{H':Hp}
def upd (H:Hp)(a:Addr)(o:HO):Hp:=λb=>if b=a then some o else H b
def aB:upd H a o a=some o:=by unfold upd;rw[if_pos rfl]
def aH (h:b≠a):upd H a o b=H b:=by unfold upd;rw[if_neg h]
def b7R {u:HO}(h:H a=some o)(h':H b=some u)(d:o≠u):a≠b:=by
 intro e;subst e;rw[h]at h';exact d (Yp h')
def aP (h:H a=some o)(h':H b=none):a≠b:=by
 intro e;subst e;rw[h]at h';cases h'
section
variable (P:Program)(w:World)
def fG (H:Hp)(h:Heap)(a:Addr):HO->Prop
  |.lst xs=>xs.length<=sizeLine/\∃(its:List Value)(n:Nat),Vals xs its/\h.get? a=some { cls:= .type "list",data:= .seq its.toArray n }
  |.tup xs=>xs.length<=sizeLine/\∃its:List Value,Vals xs its/\IsTup h a its.toArray
  |.dK kvs=>kvs.length<=sizeLine/\(a == sysModules)=false/\∃vs,KV kvs vs/\h.DictOf (dX P w) a vs
  | .dT kvs=>kvs.length<=sizeLine/\(a == sysModules)=false/\∃xs:List (List Key×Addr×Value),
      Paired (λ(p:List Key×V) (q:List Key×Addr×Value)=>p.1=q.1/\H q.2.1=some (.tup (p.1.map kV))/\RelV p.2 q.2.2) kvs xs/\
      ∃o es ep,h.get? a=some o/\o.ExactDict/\o.data= .dict es ep/\es.toList=xs.map (entryOfKey (tupleKind (dX P w)))/\(xs.map (·.1)).Nodup
  |.set S n=>h.SetOf (intKind P w) a S n
  | .ins C dx fs=>H dx=some (.own a)/\fs.length<=1000/\dx≠a/\h.get? a=some (W.instObj C dx)/\
      ∃mA,h.Ns1 dx mA/\(∀f,lZ (fs.lookup f) (mA f))/\PySem.Within mA (fs.map (·.1))
  |.own _=>∃o,h.get? a=some o
  |.xd fs=>∃mA,h.Ns1 a mA/\∀f,lZ (fs.lookup f) (mA f)
  |.rng lo hi=>∃t u v,h.get? a=some { cls:= .type "range",data:= .fields #[.int lo t,.int hi u,.int 1 v] }
  |.frz o u=>h.get? a=some o/\fG H h a u
  |.tbl ps=>h.get? a=some { cls:= .none,data:= .fields ps }
  |.met f x=>h.get? a=some (W.methodObj (.ref f) (.ref x))
  |.ext φ=>φ h/\(∃o,h.get? a=some o)/\∀h1 h2:Heap,φ h1->(∀o,h1.get? a=some o->h2.get? a=some o)->φ h2
def HOk (H:Hp)(h:Heap):Prop:=∀a o,H a=some o->fG P w H h a o
end
def fG.lt (x:fG P w H h a o):a<h.objs.size:=by
 cases o with
 |lst xs=>obtain⟨_,_,_,_,e⟩:=x;exact Ys e
 |tup xs=>obtain⟨_,_,_,p⟩:=x;exact p.lt
 |dK kvs=>obtain⟨_,_,_,_,o,_,_,e,_⟩:=x;exact Ys e
 |dT kvs=>obtain⟨_,_,_,_,o,_,_,e,_⟩:=x;exact Ys e
 |set S n=>obtain⟨o,_,_,_,e,_⟩:=x;exact Ys e
 |ins C dx fs=>obtain⟨_,_,_,e,_⟩:=x;exact Ys e
 |own y=>obtain⟨_,e⟩:=x;exact Ys e
 |xd fs=>obtain⟨_,⟨_,_,_,e,_⟩,_⟩:=x;exact Ys e
 |rng lo hi=>obtain⟨_,_,_,e⟩:=x;exact Ys e
 |frz ob u=>obtain⟨e,_⟩:=x;exact Ys e
 |tbl ps=>exact Ys (show h.get? a=some _ from x)
 |met f y=>exact Ys (show h.get? a=some _ from x)
 |ext φ=>obtain⟨_,⟨_,e⟩,_⟩:=x;exact Ys e
theorem Paired.mapP {α β:Type}{F G:α->β->Prop}:∀{l₁:List α}{l₂:List β},Paired F l₁ l₂->(∀a b,F a b->G a b)->Paired G l₁ l₂
 |_,_,.nil,_=> .nil
 |_,_,.cons r t,f=> .cons (f _ _ r) (Paired.mapP t f)
theorem fG.stay (x:fG P w H h a o)(k:∀b u,(b=a\/H b=some (.own a))->h.get? b=some u->h'.get? b=some u)
  (ho:∀b,H b=some (.own a)->H' b=some (.own a)) (ht:∀b xs,H b=some (.tup xs)->H' b=some (.tup xs)):fG P w H' h' a o:=by
 induction o with
 |lst xs=>obtain⟨z,l,n,r,e⟩:=x;exact⟨z,l,n,r,k _ _ (.inl rfl) e⟩
 |tup xs=>obtain⟨z,l,r,g,e,c⟩:=x;exact⟨z,l,r,g,k _ _ (.inl rfl) e,c⟩
 |dK kvs=>obtain⟨z,y,B,r,g,i,j,e,c⟩:=x;exact⟨z,y,B,r,g,i,j,k _ _ (.inl rfl) e,c⟩
 | dT kvs=>
  obtain⟨z,y,xs,r,g,i,j,e,c⟩:=x
  exact⟨z,y,xs,Paired.mapP r λp q z=>⟨z.1,ht _ _ z.2.1,z.2.2⟩,g,i,j,k _ _ (.inl rfl) e,c⟩
 |set S n=>obtain⟨g,i,j,t,e,c⟩:=x;exact⟨g,i,j,t,k _ _ (.inl rfl) e,c⟩
 | ins C dx fs=>
  obtain⟨d,z,ne,e,m,⟨s,i,j,D,c⟩,r⟩:=x
  exact⟨ho _ d,z,ne,k _ _ (.inl rfl) e,m,⟨s,i,j,k _ _ (.inr d) D,c⟩,r⟩
 |own y=>obtain⟨g,e⟩:=x;exact⟨g,k _ _ (.inl rfl) e⟩
 |xd fs=>obtain⟨m,⟨s,i,j,e,c⟩,r⟩:=x;exact⟨m,⟨s,i,j,k _ _ (.inl rfl) e,c⟩,r⟩
 |rng lo hi=>obtain⟨t,u,v,e⟩:=x;exact⟨t,u,v,k _ _ (.inl rfl) e⟩
 |frz g u ih=>obtain⟨e,q⟩:=x;exact⟨k _ _ (.inl rfl) e,ih q⟩
 | tbl ps=>
  have e:h.get? a=some { cls:= .none,data:= .fields ps }:=x
  show h'.get? a=some { cls:= .none,data:= .fields ps }
  exact k a _ (.inl rfl) e
 | met f y=>
  have e:h.get? a=some (W.methodObj (.ref f) (.ref y)):=x
  show h'.get? a=some (W.methodObj (.ref f) (.ref y))
  exact k a _ (.inl rfl) e
 |ext φ=>obtain⟨p,⟨o,e⟩,A⟩:=x;exact⟨A _ _ p λo q=>k _ _ (.inl rfl) q,⟨o,k _ _ (.inl rfl) e⟩,A⟩
def HOk.lt (x:HOk P w H h)(e:H a=some o):a<h.objs.size:=(x a o e).lt
def HOk.fresh (x:HOk P w H h)(e:h.objs.size<=a):H a=none:=by
 cases q:H a with
 |none=>rfl
 |some u=>exact absurd (Yh (x.lt q) e) (YZ _)
def HOk.kept (x:HOk P w H h)(k:∀b u,h.get? b=some u->h'.get? b=some u):HOk P w H h':=λa o e=>
 (x a o e).stay (λb u _ q=>k b u q) (λ_ q=>q) λ_ _ q=>q
def HOk.laid (x:HOk P w H h)(k:∀b u,h.get? b=some u->h'.get? b=some u)(g:h.objs.size<=a)(d:fG P w (upd H a o) h' a o):HOk P w (upd H a o) h':=λb u e=>by
 have f:=x.fresh g
 by_cases hb:b=a
 ·subst hb;rw[aB]at e;cases e;exact d
 ·rw[aH hb]at e
  exact(x b u e).stay (λc v _ q=>k c v q) (λc q=>by rw[aH (aP q f)];exact q) λc xs q=>by rw[aH (aP q f)];exact q
def Rd (H:Hp)(a:Addr)(u:HO):Prop:=H a=some u\/∃o,H a=some (.frz o u)
def Rd.ok {u:HO}(r:Rd H a u)(x:HOk P w H h):fG P w H h a u:=by
 rcases r with r | ⟨o,r⟩
 ·exact x a u r
 ·obtain⟨_,q⟩:=x a _ r
  exact q
def Mut:Option HO->Prop
 |some (.lst _)=>True
 |some (.dK _)=>True
 |some (.dT _)=>True
 |some (.set _ _)=>True
 |some (.ins _ _ _)=>True
 |some (.ext _)=>True
 |_=>False
section
variable {x e:Addr}{o':HO}
theorem HOk.write (ok:HOk P w H h)(f:Mut (H x))(j:e=x\/H e=some (.own x))(k:∀b u,b≠e->h.get? b=some u->h'.get? b=some u)(g:∃u,h'.get? e=some u)
  (i:fG P w (upd H x o') h' x o'):HOk P w (upd H x o') h':=λb u q=>by
 have a:∀c y,H c=some (.own y)->c≠x:=λc y r z=>by subst z;rw[r]at f;exact f
 have d:∀c xs,H c=some (.tup xs)->c≠x:=λc xs r z=>by subst z;rw[r]at f;exact f
 by_cases hb:b=x
 ·subst hb;rw[aB]at q;cases q;exact i
 ·rw [aH hb]at q
  by_cases hbe:b=e
  ·have l:H b=some (.own x):=by
    rcases j with z | z
    ·exact absurd (hbe.trans z) hb
    ·rw[hbe];exact z
   rw[q]at l;cases l
   obtain⟨v,m⟩:=g
   exact⟨v,by rw[hbe];exact m⟩
  ·refine(ok b u q).stay (λc v hc r=>k c v ?_ r) (λc r=>by rw[aH (a c b r)];exact r) λc xs r=>by rw[aH (d c xs r)];exact r
   rcases hc with rfl | hc
   ·exact hbe
   ·rintro rfl
    rcases j with z | z
    ·exact a c b hc z
    ·rw[hc]at z;cases z;exact hb rfl
end
structure Un (fs ex:List Addr)(H H':Hp)(h h':Heap):Prop where
 keep:∀b o,h.get? b=some o->H b=none->b∉fs->b∉ex->h'.get? b=some o
 slot:∀b o,h.get? b=some o->H b=none->b∈fs->b∉ex->∃sl,h'.get? b=some { o with slots:=sl }
 free:∀b o,h.get? b=some o->H b=none->b∉ex->H' b=none
 there:∀b o,h.get? b=some o->b∉ex->∃o',h'.get? b=some o'
 tups:∀b xs,H b=some (.tup xs)->H' b=some (.tup xs)
 frzs:∀b o u,H b=some (.frz o u)->H' b=some (.frz o u)
 tbls:∀b ps,H b=some (.tbl ps)->∃more,H' b=some (.tbl (ps++more))
section
variable {fs fs' ex ex':List Addr}{H1 H2:Hp}{h1 h2:Heap}{x e:Addr}
def Un.any (u:Un fs ex H H1 h h1){a:Obj}(q:h.get? b=some a)(n:H b=none)(c:b∉ex):∃sl,h1.get? b=some { a with slots:=sl }:=by
 by_cases hb:b∈fs
 ·exact u.slot b a q n hb c
 ·exact⟨a.slots,u.keep b a q n hb c⟩
def Un.kept (k:∀b u,h.get? b=some u->h'.get? b=some u):Un fs ex H H h h':=
 ⟨λb a q _ _ _=>k b a q,λb a q _ _ _=>⟨a.slots,k b a q⟩,λ_ _ _ n _=>n,λb a q _=>⟨a,k b a q⟩,λ_ _ q=>q,λ_ _ _ q=>q,λ_ c q=>⟨#[],by rw[q];simp⟩⟩
def Un.refl:Un fs ex H H h h:=Un.kept λ_ _ q=>q
theorem Un.laid (k:∀b u,h.get? b=some u->h'.get? b=some u)(hp:h.objs.size<=a)(hn:H a=none):Un fs ex H (upd H a o) h h' where
 keep:=λb u q _ _ _=>k b u q
 slot:=λb u q _ _ _=>⟨u.slots,k b u q⟩
 free:=λb u q n _=>by rw[aH (YA (Yh (Ys q) hp))];exact n
 there:=λb u q _=>⟨u,k b u q⟩
 tups:=λb xs q=>by rw[aH (aP q hn)];exact q
 frzs:=λb u xs q=>by rw[aH (aP q hn)];exact q
 tbls:=λb ps q=>⟨#[],by rw[aH (aP q hn),q];simp⟩
def Un.write (a:Mut (H x))(i:e=x\/H e=some (.own x))(k:∀b u,b≠e->h.get? b=some u->h'.get? b=some u)(c:∃u,h'.get? e=some u):Un fs ex H (upd H x o) h h':=by
 have f:∀b,H b=none->b≠x:=λb n z=>by subst z;rw[n]at a;exact a
 have g:∀b,H b=none->b≠e:=λb n z=>by
  subst z
  rcases i with r | r
  ·exact f b n r
  ·rw[n]at r;cases r
 have d:∀b u,H b=some u->¬ Mut (some u)->b≠x:=λb u q nm z=>by subst z;rw[q]at a;exact nm a
 refine⟨λb u q n _ _=>k b u (g b n) q,λb u q n _ _=>⟨u.slots,k b u (g b n) q⟩,λb u q n _=>by rw[aH (f b n)];exact n,λb u q _=>?_,
  λb xs q=>by rw[aH (d b _ q λz=>z)];exact q,λb u xs q=>by rw[aH (d b _ q λz=>z)];exact q,λb j q=>⟨#[],by rw[aH (d b _ q λz=>z),q];simp⟩⟩
 by_cases hbe:b=e
 ·subst hbe;exact c
 ·exact⟨u,k b u hbe q⟩
end
def trk (h:Heap)(H:Hp):List Addr:=(List.range h.objs.size).filter λa=>(H a).isSome
def uJ (h:Heap)(H:Hp):Heap:=W.hideAll h (trk h H)
def a3E (h:Heap)(H:Hp):(uJ h H).objs.size=h.objs.size:=W.hideAll_size _ _
def a7O {o:Obj}(e:h.get? b=some o)(n:H b=none):(uJ h H).get? b=some o:=
 W.hideAll_get _ e λa=>by
  have q:(H b).isSome=true:=(List.mem_filter.mp a).2
  rw[n]at q;simp at q
def b0P {o:Obj}(e:(uJ h H).get? b=some o):h.get? b=some o/\H b=none:=by
 have a:h.get? b=some o:=W.of_hideAll (trk h H) e
 refine⟨a,?_⟩
 cases q:H b with
 |none=>rfl
 | some x=>
  have c:b∈trk h H:=List.mem_filter.mpr ⟨List.mem_range.mpr (Ys a),by simp[q]⟩
  have z:(uJ h H).get? b=none:=W.hideAll_none (trk h H) c
  rw[z]at e;cases e
structure Mod (K:W.Frag)(mg:Str->Option Value)(base:Heap):Prop where
 kin:K.In base
 glob:base.Ns mainGlobals mg
 blt:∃mb,base.Ns builtinsNs mb/\∀x:Str,x≠"__name__"->mb x=bootBuiltins x
 nolimit:base.NoLimit
structure Cx where
 prog:Program
 w:World
 K:W.Frag
 mg:Str->Option Value
 base:Heap
 A:Around
 N:List Str
 s₀:Shared
 H₀:Hp
 env:Env
 outer:List Env
 stack:List Env
 ex:List Addr
 fn:Str->Bool
 calm:Bool
 pn:List (Addr×Obj)
 xe:Value->Shared->Prop
variable {X:Cx}
def frs (l:List Env):List Addr:=l.filterMap (·.frame)
abbrev Cx.fs (X:Cx):List Addr:=frs X.outer
def Vis (a:Scope)(x:Str):Prop:=a.names.lookup x=some .local\/a.names.lookup x=some .cell\/a.names.lookup x=some .free
def Loc (a:Scope)(x:Str):Prop:=a.names.lookup x=some .local\/a.names.lookup x=some .cell
def Look (env:Env)(h:Heap)(m:Str->Option Value)(x:Str)(u:Value):Prop:=
 (env.kindOf x=some .local/\m x=some u)\/((env.kindOf x=some .cell\/env.kindOf x=some .free)/\∃c,env.cells.lookup x=some c/\h.IsCell c (some u))
structure Cx.Ok (X:Cx):Prop where
 mod:Mod X.K X.mg X.base
 kind:X.env.scope.kind= .function
 glob:X.env.globals=mainGlobals
 blt:X.env.builtins=builtinsNs
 above:X.s₀.heap.objs.size<=X.env.locals
 inj:∀x y c,X.env.cells.lookup x=some c->X.env.cells.lookup y=some c->x=y
 has:∀x,(X.env.kindOf x=some .cell\/X.env.kindOf x=some .free)->∃c,X.env.cells.lookup x=some c
 cab:∀x c,X.fn x=true->X.env.cells.lookup x=some c->X.s₀.heap.objs.size<=c
 hd:X.calm=true->X.A.handled=none
 frames:X.A.frames=some X.stack
 stk:X.stack=X.outer\/(X.stack=X.env::X.outer/\X.env.frame=some X.env.locals)
 exf:∀b∈X.ex,b≠X.env.locals/\∀x c,X.env.cells.lookup x=some c->c≠b
 bs:∀b o,X.base.get? b=some o->X.s₀.heap.get? b=some o/\X.H₀ b=none
 bsz:X.base.objs.size<=X.s₀.heap.objs.size
 noex:∀b o,X.base.get? b=some o->b∉X.ex
 exfs:∀b∈X.ex,b∉X.fs
 funs:X.s₀.heap.FunFrames X.base X.outer
 frf:∀b∈X.fs,X.H₀ b=none
structure Inv (X:Cx)(pins:List (Addr×Obj))(σ:List (Option V))(H:Hp)(s:Shared):Prop where
 ok:X.Ok
 os:s.os=X.s₀.os
 bare:AllBare s.gens
 base:Un X.fs X.ex X.H₀ H X.s₀.heap s.heap
 loc:∃m,s.heap.Ns X.env.locals m/\∀(i:Nat)(x:Str)(v:V),X.N[i]? =some x->σ[i]? =some (some v)->Vis X.env.scope x->∃u,RelV v u/\Look X.env s.heap m x u
 cell:∀x c,X.env.cells.lookup x=some c->∃v,s.heap.IsCell c v
 free:H X.env.locals=none
 freeC:∀x c,X.env.cells.lookup x=some c->H c=none
 pin:∀p∈X.pn++pins,s.heap.get? p.1=some p.2/\H p.1=none/\p.1≠X.env.locals/\p.1∉X.fs/\∀v,p.2.data≠ .cell v
 hok:HOk X.prog X.w H s.heap
 len:σ.length=X.N.length
section
variable {σ:List (Option V)}
def Cx.Ok.nofr (ok:X.Ok){o:Obj}(e:X.base.get? b=some o):b∉X.fs:=λa=>by
 have:=(ok.funs.mem a).1
 rw[e]at this;cases this
def Inv.bs (I:Inv X pins σ H s):∀b o,X.base.get? b=some o->s.heap.get? b=some o/\H b=none:=λb o e=>
 ⟨I.base.keep b o (I.ok.bs b o e).1 (I.ok.bs b o e).2 (I.ok.nofr e) (I.ok.noex b o e),I.base.free b o (I.ok.bs b o e).1 (I.ok.bs b o e).2 (I.ok.noex b o e)⟩
def Inv.bk (I:Inv X pins σ H s):∀b o,X.base.get? b=some o->s.heap.get? b=some o:=λb o e=>(I.bs b o e).1
def Inv.mod (I:Inv X pins σ H s):Mod X.K X.mg X.base:=I.ok.mod
def Inv.kIn (I:Inv X pins σ H s):X.K.In s.heap:=I.ok.mod.kin.keeps I.bk
def Inv.fr (I:Inv X pins σ H s):∃m,Fr X.base X.env.locals s.heap m:=
 let ⟨m,hn,_⟩:=I.loc
 ⟨m,hn,I.bk,YY I.ok.bsz I.ok.above⟩
def Inv.lt (I:Inv X pins σ H s):X.env.locals<s.heap.objs.size:=let ⟨_,hn,_⟩:=I.loc;hn.lt
def Inv.sz (I:Inv X pins σ H s):X.s₀.heap.objs.size<=s.heap.objs.size:=YY I.ok.above (Xx I.lt)
def Inv.nofs (I:Inv X pins σ H s)(h:s.heap.objs.size<=a):a∉X.fs:=λb=>by
 obtain⟨_,o,c,_⟩:=I.ok.funs.mem b
 exact absurd (Yh (Ys c) (YY I.sz h)) (YZ _)
def Inv.cne (I:Inv X pins σ H s):∀x c,X.env.cells.lookup x=some c->c≠X.env.locals:=λx c e z=>by
 obtain⟨v,o,d,hd⟩:=I.cell x c e
 obtain⟨m,⟨f,g,h,a,b,_⟩,_⟩:=I.loc
 rw[z,a]at d;cases d;rw[b]at hd;cases hd
def Inv.funs (I:Inv X pins σ H s):s.heap.FunFrames X.base X.outer:=by
 have all:∀(l:List Env),(∀b∈frs l,b∈X.fs)->X.s₀.heap.FunFrames X.base l->s.heap.FunFrames X.base l:=by
  intro l
  induction l with
  |nil=>intro _ _;trivial
  | cons env r ih=>
   intro f g
   obtain⟨h,⟨L,o,a,i,j,hd⟩,k⟩:=g
   have c:L∈X.fs:=f L (by unfold frs;rw[List.filterMap_cons,a];exact Yy)
   obtain⟨m,e⟩:=I.base.slot L o j (I.ok.frf L c) c λz=>I.ok.exfs L z c
   exact⟨h,⟨L,_,a,i,e,hd⟩,ih (λb d=>f b (by unfold frs;rw[List.filterMap_cons,a];exact Yw _ d)) k⟩
 exact all X.outer (λ_ d=>d) I.ok.funs
def Inv.stack (I:Inv X pins σ H s):s.heap.FunFrames X.base X.stack:=by
 rcases I.ok.stk with e | ⟨e,a⟩
 ·rw[e];exact I.funs
 ·rw[e]
  obtain⟨m,b,_⟩:=I.loc
  refine .cons (by rw[I.ok.kind];decide) a b ?_ I.funs
  exact Heap.get?_none_of_le (YY I.ok.bsz I.ok.above)
def Inv.stkSub (I:Inv X pins σ H s):∀b∈frs X.stack,b∈X.env.locals::X.fs:=λb a=>by
 rcases I.ok.stk with e | ⟨e,c⟩
 ·rw[e]at a;exact Yw _ a
 ·rw[e]at a
  unfold frs at a
  rw[List.filterMap_cons,c]at a
  exact a
def Inv.stkFree (I:Inv X pins σ H s):∀b∈frs X.stack,H b=none:=λb hb=>by
 rcases YI.mp (I.stkSub b hb) with e | hb
 ·rw[e];exact I.free
 ·obtain⟨_,o,a,_⟩:=I.ok.funs.mem hb
  exact I.base.free b o a (I.ok.frf b hb) λz=>I.ok.exfs b z hb
theorem Inv.step {g':Array GenState}{t':Nat}{d':Drawn}{ch:List Addr}(I:Inv X pins σ H s)
  (g:∀b∈ch,(b∈X.ex\/X.s₀.heap.objs.size<=b)/\b≠X.env.locals/\(∀x c,X.env.cells.lookup x=some c->c≠b)/\∀p∈X.pn++pins,p.1≠b)
  (keep:∀b o,b≠X.env.locals->b∉X.fs->b∉ch->s.heap.get? b=some o->H b=none->h'.get? b=some o)
  (A:∀b o,b≠X.env.locals->b∈X.fs->b∉ch->s.heap.get? b=some o->H b=none->∃sl,h'.get? b=some { o with slots:=sl }) (f:∀b o,b∉ch->s.heap.get? b=some o->H b=none->H' b=none)
  (B:∀b o,b∉ch->s.heap.get? b=some o->∃o',h'.get? b=some o')
  (E:∀b xs,H b=some (.tup xs)->H' b=some (.tup xs)) (F:∀b o u,H b=some (.frz o u)->H' b=some (.frz o u)) (G:∀b ps,H b=some (.tbl ps)->∃more,H' b=some (.tbl (ps++more)))
  (ns:∀m,s.heap.Ns X.env.locals m->h'.Ns X.env.locals m) (L:HOk X.prog X.w H' h') (P:AllBare g') :
  Inv X pins σ H' { s with heap:=h',gens:=g',drawn:=d',toks:=t' }:=by
 have J:∀b o,X.s₀.heap.get? b=some o->b≠X.env.locals:=λb o e=>YA (Yh (Ys e) I.ok.above)
 have t:∀b o,X.s₀.heap.get? b=some o->b∉X.ex->b∉ch:=λb o e a C=>by
  rcases (g b C).1 with z | z
  ·exact a z
  ·exact absurd (Yh (Ys e) z) (YZ _)
 have h:∀x c,X.env.cells.lookup x=some c->∀v,s.heap.IsCell c v->h'.IsCell c v:=λx c e v ⟨o,D,hd⟩=>by
  have j:c∉ch:=λz=>(g c z).2.2.1 x c e rfl
  by_cases hc:c∈X.fs
  ·obtain⟨sl,q⟩:=A c o (I.cne x c e) hc j D (I.freeC x c e)
   exact⟨_,q,hd⟩
  ·exact⟨o,keep c o (I.cne x c e) hc j D (I.freeC x c e),hd⟩
 refine⟨I.ok,I.os,P,⟨λb o e n C a=>?_,λb o e n C a=>?_,λb o e n a=>?_,λb o e a=>?_,λb xs e=>E b xs (I.base.tups b xs e),λb o xs e=>F b o xs (I.base.frzs b o xs e),λb ps e=>?_⟩,?_,λx c e=>?_,?_,λx c e=>?_,λp N=>?_,L,I.len⟩
 ·exact keep b o (J b o e) C (t b o e a) (I.base.keep b o e n C a) (I.base.free b o e n a)
 ·obtain⟨sl,y⟩:=I.base.slot b o e n C a
  obtain⟨M,K⟩:=A b _ (J b o e) C (t b o e a) y (I.base.free b o e n a)
  exact⟨M,K⟩
 ·obtain⟨o',y⟩:=I.base.there b o e a
  exact f b o' (t b o e a) y (I.base.free b o e n a)
 ·obtain⟨o',y⟩:=I.base.there b o e a
  exact B b o' (t b o e a) y
 ·obtain⟨Q,y⟩:=I.base.tbls b ps e
  obtain⟨R,K⟩:=G b _ y
  exact⟨Q++R,by rw[K,Array.append_assoc]⟩
 ·obtain⟨m,S,T⟩:=I.loc
  refine⟨m,ns m S,λi x v y K U=>?_⟩
  obtain⟨u,r,l⟩:=T i x v y K U
  refine⟨u,r,?_⟩
  rcases l with l | ⟨k,c,e,z⟩
  ·exact .inl l
  ·exact .inr ⟨k,c,e,h x c e _ z⟩
 ·obtain⟨v,z⟩:=I.cell x c e
  exact⟨v,h x c e v z⟩
 ·obtain⟨m,⟨o,_,_,D,_⟩,_⟩:=I.loc
  exact f _ o (λz=>(g _ z).2.1 rfl) D I.free
 ·obtain⟨v,o,D,hd⟩:=I.cell x c e
  exact f c o (λz=>(g c z).2.2.1 x c e rfl) D (I.freeC x c e)
 ·obtain⟨e,n,ne,O,d⟩:=I.pin p N
  have j:p.1∉ch:=λz=>(g p.1 z).2.2.2 p N rfl
  exact⟨keep p.1 p.2 ne O j e n,f p.1 p.2 j e n,ne,O,d⟩
def Inv.un {t':Nat}(I:Inv X pins σ H s)(u:Un X.fs [] H H' s.heap h')(c:HOk X.prog X.w H' h'):Inv X pins σ H' { s with heap:=h',toks:=t' }:=by
 obtain⟨m,⟨o,l,p,h,r⟩,_⟩:=id I.loc
 obtain⟨q,i⟩:=u.any h I.free (by simp)
 exact I.step (g':=s.gens) (d':=s.drawn) (ch:=[]) (λ_ z=>nomatch z) (λb o _ d _ e n=>u.keep b o e n d (by simp)) (λb o _ d _ e n=>u.slot b o e n d (by simp)) (λb o _ e n=>u.free b o e n (by simp)) (λb o _ e=>u.there b o e (by simp)) u.tups u.frzs u.tbls (λt j=>by
  obtain⟨v,f,g,a,k⟩:=j
  rw[h]at a;cases a
  exact⟨_,f,g,i,k⟩) c I.bare
theorem Inv.call {g':Array GenState}{t':Nat}{d':Drawn}{ch:List Addr}(I:Inv X pins σ H s)(u:Un (frs X.stack) ch H H' s.heap h')(g:HOk X.prog X.w H' h')(l:AllBare g')
  (d:∀b∈ch,(b∈X.ex\/X.s₀.heap.objs.size<=b)/\b≠X.env.locals/\(∀x c,X.env.cells.lookup x=some c->c≠b)/\∀p∈X.pn++pins,p.1≠b) :
  Inv X pins σ H' { s with heap:=h',gens:=g',drawn:=d',toks:=t' }:=by
 obtain⟨m,⟨o,y,A,k,r⟩,_⟩:=id I.loc
 obtain⟨B,h⟩:=u.any k I.free λz=>(d _ z).2.1 rfl
 exact I.step (ch:=ch) d (λb o h q a e n=>u.keep b o e n (λz=>(YI.mp (I.stkSub b z)).elim h q) a) (λb o _ _ a e n=>u.any e n a) (λb o a e n=>u.free b o e n a) (λb o a e=>u.there b o e a) u.tups u.frzs u.tbls (λC t=>by
  obtain⟨D,i,j,f,v⟩:=t
  rw[k]at f;cases f
  exact⟨_,i,j,h,v⟩) g l
theorem Inv.turned {t':Nat}{it:Addr}(I:Inv X pins σ H s)(k:∀b o,b≠it->s.heap.get? b=some o->h'.get? b=some o)(g:H it=none)(f:it≠X.env.locals)
  (h:it∈X.ex\/X.s₀.heap.objs.size<=it) (i:∀x c,X.env.cells.lookup x=some c->c≠it) (j:∀p∈X.pn++pins,p.1≠it):Inv X pins σ H { s with heap:=h',toks:=t' }:=by
 have d:∀b u,H b=some u->b≠it:=λb u e z=>by rw[z,g]at e;cases e
 refine I.step (g':=s.gens) (d':=s.drawn) (ch:=[it]) (λb l=>?_) (λb o _ _ a e _=>k b o (λz=>a (by simp[z])) e) (λb o _ _ a e _=>⟨o.slots,k b o (λz=>a (by simp[z])) e⟩) (λ_ _ _ _ n=>n)
  (λb o a e=>⟨o,k b o (λz=>a (by simp[z])) e⟩) (λ_ _ e=>e) (λ_ _ _ e=>e) (λb B e=>⟨#[],by rw[e];simp⟩) (λm t=>?_) (λb u e=>?_) I.bare
 ·have e:b=it:=by simpa using l
  subst e
  exact⟨h,f,i,j⟩
 ·obtain⟨o,w,y,A,r⟩:=t
  exact⟨o,w,y,k _ o (Va f) A,r⟩
 ·refine(I.hok b u e).stay (λc v a q=>k c v ?_ q) (λ_ q=>q) λ_ _ q=>q
  rcases a with z | z
  ·rw[z];exact d b u e
  ·exact d c _ z
def Inv.tok (I:Inv X pins σ H s)(t:Nat):Inv X pins σ H { s with toks:=t }:=I.un (h':=s.heap) (t':=t) Un.refl I.hok
def Inv.kept {t':Nat}(I:Inv X pins σ H s)(k:∀b u,s.heap.get? b=some u->h'.get? b=some u):Inv X pins σ H { s with heap:=h',toks:=t' }:=I.un (Un.kept k) (I.hok.kept k)
theorem Inv.laid {t':Nat}(I:Inv X pins σ H s)(k:∀b u,s.heap.get? b=some u->h'.get? b=some u)(c:s.heap.objs.size<=a)(d:fG X.prog X.w (upd H a o) h' a o):
  Inv X pins σ (upd H a o) { s with heap:=h',toks:=t' }:=I.un (Un.laid k c (I.hok.fresh c)) (I.hok.laid k c d)
theorem Inv.write {x e:Addr}{o:HO}{t':Nat}(I:Inv X pins σ H s)(d:Mut (H x))(f:e=x\/H e=some (.own x))(k:∀b u,b≠e->s.heap.get? b=some u->h'.get? b=some u)(a:∃u,h'.get? e=some u)
  (c:fG X.prog X.w (upd H x o) h' x o):Inv X pins σ (upd H x o) { s with heap:=h',toks:=t' }:=I.un (Un.write d f k a) (I.hok.write d f k a c)
def Inv.weak {σ':List (Option V)}(I:Inv X pins σ H s)(a:σ'.length=σ.length)(w:∀(i:Nat) v,σ'[i]? =some (some v)->σ[i]? =some (some v)):Inv X pins σ' H s:=
 ⟨I.ok,I.os,I.bare,I.base,let ⟨m,hn,hl'⟩:=I.loc;⟨m,hn,λi x v b c d=>hl' i x v b (w i v c) d⟩,I.cell,I.free,I.freeC,I.pin,I.hok,a.trans I.len⟩
def Inv.pins_of {a:List (Addr×Obj)}(I:Inv X pins σ H s)(h:∀p∈a,s.heap.get? p.1=some p.2/\H p.1=none/\p.1≠X.env.locals/\p.1∉X.fs/\∀v,p.2.data≠ .cell v):Inv X a σ H s:=
 ⟨I.ok,I.os,I.bare,I.base,I.loc,I.cell,I.free,I.freeC,λp b=>(YL.mp b).elim (λz=>I.pin p (Xr _ z)) (h p),I.hok,I.len⟩
def wD {N:List Str}(c:N.Nodup)(a:N[i]? =some x)(b:N[j]? =some x):i=j:=by
 obtain⟨f,d⟩:=Ye.mp a
 obtain⟨g,e⟩:=Ye.mp b
 exact(List.getElem_inj c).mp (d.trans e.symm)
theorem rW {M:Model}{A:Around}{E:Value->Shared->Prop}{i:Nat}{x:Str}{v:V}{u:Value}{Q:Unit->Shared->Prop}(I:Inv X pins σ H s)(hN:X.N.Nodup)(K:X.N[i]? =some x)(t:Loc X.env.scope x)(r:RelV v u)
  (h:∀s',Inv X pins (σ.set i (some v)) H s'->(∃a,Heap.SameBut a s.heap s'.heap/\(a=X.env.locals\/X.env.cells.lookup x=some a))->Q () s') (hf:X.fn x=true\/X.env.scope.names.lookup x=some .local:=by first | exact .inl rfl | exact .inr rfl | assumption):wpAny M A (storeName X.env x u) Q E s:=by
 obtain⟨m,U,hl⟩:=id I.loc
 have L:(X.env.scope.kind == .class || (X.env.scope.kind == .module && X.env.locals != X.env.globals))=false:=by rw[I.ok.kind];rfl
 have D:i<σ.length:=by rw[I.len];exact(Ye.mp K).1
 have cne:=I.cne
 have g:∀{a:Addr}{J:Heap},(∃o,s.heap.get? a=some o/\H a=none)->Heap.SameBut a s.heap J->HOk X.prog X.w H J:=λ{a J} ha f b ob e=>by
  obtain⟨_,_,B⟩:=ha
  refine(I.hok b ob e).stay (λc S hc q=>(f.2 c ?_).trans q) (λ_ q=>q) λ_ _ q=>q
  rintro rfl
  rcases hc with rfl | hc
  ·rw[B]at e;cases e
  ·rw[B]at hc;cases hc
 rcases t with hk | hk
 ·refine wpAny_storeName_local hk U (λJ W f=>?_) L
  obtain⟨oL,_,_,Y,_⟩:=id U
  refine h _ ⟨I.ok,I.os,I.bare,⟨λb o e n F t=>?_,λb o e n F t=>?_,I.base.free,λb o e t=>?_,I.base.tups,I.base.frzs,I.base.tbls⟩,⟨_,W,λj y Z l C e3=>?_⟩,λy c e=>?_,I.free,I.freeC,λp hp=>?_,g ⟨oL,Y,I.free⟩ f,by simpa using I.len⟩ ⟨_,f,.inl rfl⟩
  ·exact(f.2 b (YA (Yh (Ys e) I.ok.above))).trans (I.base.keep b o e n F t)
  ·obtain⟨sl,l⟩:=I.base.slot b o e n F t
   exact⟨sl,(f.2 b (YA (Yh (Ys e) I.ok.above))).trans l⟩
  ·obtain⟨o',l⟩:=I.base.there b o e t
   exact⟨o',(f.2 b (YA (Yh (Ys e) I.ok.above))).trans l⟩
  ·by_cases hj:j=i
   ·subst hj
    rw[K]at l;cases l
    rw[List.getElem?_set_self D]at C
    cases C
    exact⟨u,r,.inl ⟨hk,by simp⟩⟩
   ·rw [Xb (Va hj)]at C
    obtain⟨u',r',q⟩:=hl j y Z l C e3
    refine⟨u',r',?_⟩
    rcases q with ⟨k,e⟩ | ⟨k,c,e,z⟩
    ·refine .inl ⟨k,?_⟩
     have:y≠x:=λe=>hj (wD hN l (e▸K))
     simp[this,e]
    ·exact .inr ⟨k,c,e,z.sameBut f (cne y c e)⟩
  ·obtain⟨S,z⟩:=I.cell y c e
   exact⟨S,z.sameBut f (cne y c e)⟩
  ·obtain⟨e,n,ne,nf,d⟩:=I.pin p hp
   exact⟨(f.2 p.1 ne).trans e,n,ne,nf,d⟩
 ·have G:X.fn x=true:=by
   rcases hf with z | z
   ·exact z
   ·rw[z]at hk;cases hk
  obtain⟨c,hc⟩:=I.ok.has x (.inl hk)
  obtain⟨S,z⟩:=I.cell x c hc
  refine wpAny_storeName_cell I.ok.kind hk hc z (λJ O f=>?_)
  obtain⟨oc,P,R⟩:=id z
  refine h { s with heap:=J } ⟨I.ok,I.os,I.bare,⟨λb o e n F t=>?_,λb o e n F t=>?_,I.base.free,λb o e t=>?_,I.base.tups,I.base.frzs,I.base.tbls⟩,⟨m,U.sameBut f (Va (cne x c hc)),λj y Z l C e3=>?_⟩,λy T e=>?_,I.free,I.freeC,λp hp=>?_,g ⟨oc,P,I.freeC x c hc⟩ f,by simpa using I.len⟩ ⟨c,f,.inr hc⟩
  ·exact(f.2 b (YA (Yh (Ys e) (I.ok.cab x c G hc)))).trans (I.base.keep b o e n F t)
  ·obtain⟨sl,l⟩:=I.base.slot b o e n F t
   exact⟨sl,(f.2 b (YA (Yh (Ys e) (I.ok.cab x c G hc)))).trans l⟩
  ·obtain⟨o',l⟩:=I.base.there b o e t
   exact⟨o',(f.2 b (YA (Yh (Ys e) (I.ok.cab x c G hc)))).trans l⟩
  ·by_cases hj:j=i
   ·subst hj
    rw[K]at l;cases l
    rw[List.getElem?_set_self D]at C
    cases C
    exact⟨u,r,.inr ⟨.inl hk,c,hc,O⟩⟩
   ·rw [Xb (Va hj)]at C
    obtain⟨u',r',q⟩:=hl j y Z l C e3
    refine⟨u',r',?_⟩
    rcases q with q | ⟨k,T,e,z'⟩
    ·exact .inl q
    ·refine .inr ⟨k,T,e,z'.sameBut f ?_⟩
     rintro rfl
     exact hj (wD hN l (I.ok.inj _ _ _ e hc▸K))
  ·by_cases hcc:T=c
   ·subst hcc;exact⟨_,O⟩
   ·obtain⟨w2,z2⟩:=I.cell y T e
    exact⟨w2,z2.sameBut f hcc⟩
  ·obtain⟨e,n,ne,nf,d⟩:=I.pin p hp
   refine⟨(f.2 p.1 ?_).trans e,n,ne,nf,d⟩
   intro q
   rw[q,P]at e
   have q':oc=p.2:=Yp e
   exact d S (by rw[<-q'];exact R)
theorem pW {M:Model}{A:Around}{E:Value->Shared->Prop}{i:Nat}{x:Str}{v:V}{u:Value}{Q:Unit->Shared->Prop}(I:Inv X pins σ H s)(a:X.N.Nodup)(b:X.N[i]? =some x)(c:Loc X.env.scope x)(r:RelV v u)
  (h:∀s',Inv X pins (σ.set i (some v)) H s'->Q () s') (d:X.fn x=true\/X.env.scope.names.lookup x=some .local:=by first | exact .inl rfl | exact .inr rfl | assumption):wpAny M A (storeName X.env x u) Q E s:=
 rW I a b c r (λs' e _=>h s' e) d
theorem Inv.call' {a:Shared}{ch:List Addr}(I:Inv X pins σ H s)(g:a.os=s.os)(u:Un (frs X.stack) ch H H' s.heap a.heap)(d:HOk X.prog X.w H' a.heap)(h:AllBare a.gens)
  (f:∀b∈ch,(b∈X.ex\/X.s₀.heap.objs.size<=b)/\b≠X.env.locals/\(∀x c,X.env.cells.lookup x=some c->c≠b)/\∀p∈X.pn++pins,p.1≠b):Inv X pins σ H' a:=by
 obtain⟨j,g',d',t',i⟩:=a
 have e:i=s.os:=g
 subst e
 exact I.call (g':=g') (t':=t') (d':=d') u d h f
end
abbrev XK:=Value->Option Addr->Hp->Prop
abbrev St:=List (Option V)
variable {σ:St}
abbrev VK:=V->Hp->Prop
abbrev TE:=St->Hp->VK->Prop
variable {te:TE}{ta:TE}{tb:TE}
abbrev TT:=St->Hp->(Bool->Hp->Prop)->Prop
abbrev TA:=St->Hp->(List V->Hp->Prop)->Prop
variable {t:TA}
structure Ends where
 nx:St->Hp->Prop
 rt:VK
 bk:St->Hp->Prop:=λ_ _=>False
 ct:St->Hp->Prop:=λ_ _=>False
abbrev TS:=Ends->St->Hp->Prop
def EP (X:Cx)(a:List (Addr×Obj))(σ:St)(Q:VK)(u:Value)(b:Shared):Prop:=∃v H',Inv X a σ H' b/\RelV v u/\Q v H'
def TP (X:Cx)(a:List (Addr×Obj))(σ:St)(Q:Bool->Hp->Prop)(b:Bool)(c:Shared):Prop:=∃H',Inv X a σ H' c/\Q b H'
def AP (X:Cx)(a:List (Addr×Obj))(σ:St)(Q:List V->Hp->Prop)(us:List Value)(b:Shared):Prop:=∃vs H',Inv X a σ H' b/\Vals vs us/\Q vs H'
def SP (X:Cx)(pins:List (Addr×Obj))(D:Ends)(f:Flow)(s':Shared):Prop:=
 match f with
 |.next=>∃σ' H',Inv X pins σ' H' s'/\D.nx σ' H'
 |.brk=>∃σ' H',Inv X pins σ' H' s'/\D.bk σ' H'
 |.cont=>∃σ' H',Inv X pins σ' H' s'/\D.ct σ' H'
 |.ret u=>∃v σ' H',Inv X pins σ' H' s'/\RelV v u/\D.rt v H'
def PE (X:Cx)(e:Expr)(t:TE):Prop:=
 ∀(pins:List (Addr×Obj))(s:Shared)(σ:St)(H:Hp)(Q:VK),Inv X pins σ H s->t σ H Q->wpAny (model X.prog X.w) X.A (eval e X.env) (EP X pins σ Q) X.xe s
def PT (X:Cx)(e:Expr)(t:TT):Prop:=
 ∀(pins:List (Addr×Obj))(s:Shared)(σ:St)(H:Hp)(Q:Bool->Hp->Prop),Inv X pins σ H s->t σ H Q->wpAny (model X.prog X.w) X.A (isTrue e X.env (eval e X.env)) (TP X pins σ Q) X.xe s
def PW (X:Cx)(e:Expr)(t:TT):Prop:=
 ∀(whole:Sem Value)(pins:List (Addr×Obj))(s:Shared)(σ:St)(H:Hp)(Q:Bool->Hp->Prop),Inv X pins σ H s->t σ H Q->wpAny (model X.prog X.w) X.A (isTrue e X.env whole) (TP X pins σ Q) X.xe s
def PW.pt {t:TT}(h:PW X e t):PT X e t:=h _
def PA (X:Cx)(a:List Expr)(t:TA):Prop:=
 ∀(pos:Pos)(pins:List (Addr×Obj))(s:Shared)(σ:St)(H:Hp)(Q:List V->Hp->Prop),Inv X pins σ H s->t σ H Q->wpAny (model X.prog X.w) X.A (spliced (backTo pos (starEach a X.env))) (AP X pins σ Q) X.xe s
def PS (X:Cx)(a:Stmt)(t:TS):Prop:=
 ∀(pins:List (Addr×Obj))(s:Shared)(σ:St)(H:Hp)(D:Ends),Inv X pins σ H s->t D σ H->wpAny (model X.prog X.w) X.A (exec a X.env) (SP X pins D) X.xe s
def PSs (X:Cx)(a:List Stmt)(t:TS):Prop:=
 ∀(pins:List (Addr×Obj))(s:Shared)(σ:St)(H:Hp)(D:Ends),Inv X pins σ H s->t D σ H->wpAny (model X.prog X.w) X.A (execs a X.env) (SP X pins D) X.xe s
def thn {b:Type}{t:Sem b}{Q c:b->Shared->Prop}{M:Model}(h:wpAny M A t Q E s)(d:∀a s,Q a s->c a s):wpAny M A t c E s:=Xc h d λ_ _ x=>x
section
theorem bin {a b:Expr}{e g:TE}(j:PE X a e)(k:PE X b g){c:List (Addr×Obj)}{s:Shared}{σ:St}{H:Hp}{R:V->V->Hp->Prop}(I:Inv X c σ H s)(h:e σ H λx H1=>g σ H1 λy H2=>R x y H2)
  {i:Type} {Q:i->Shared->Prop} {f:Value->Value->Sem i}
  (l:∀v u s2 x y H2,Inv X c σ H2 s2->RelV x v->RelV y u->R x y H2->wpAny (model X.prog X.w) X.A (f v u) Q X.xe s2) :
  wpAny (model X.prog X.w) X.A (eval a X.env) (λv s₁=>wpAny (model X.prog X.w) X.A (eval b X.env) (λu s₂=>wpAny (model X.prog X.w) X.A (f v u) Q X.xe s₂) X.xe s₁) X.xe s:=by
 refine thn (j c s σ H _ I h) λv m d=>?_
 obtain⟨x,H1,n,o,p⟩:=d
 refine thn (k c m σ H1 _ n p) λu s2 d=>?_
 obtain⟨y,H2,q,r,t⟩:=d
 exact l v u s2 x y H2 q o r t
def b3H (i:Nat):TE:=λa H Q=>∃v,a[i]? =some (some v)/\Q v H
def tC (v:V):TE:=λ_ H Q=>Q v H
def a6I (g:X.N[i]? =some x)(j:Vis X.env.scope x)(hd:(x == ("__debug__":Str))=false:=by decide)(d:(x == ("__classdict__":Str))=false:=by decide):PE X (.Name x pos) (b3H i):=by
 intro b s k H Q I h
 obtain⟨v,e,h⟩:=h
 obtain⟨m,n,o⟩:=I.loc
 obtain⟨u,r,l⟩:=o i x v g e j
 have fin:EP X b k Q u s:=⟨v,H,I,r,h⟩
 rcases l with ⟨hk,p⟩ | ⟨hk,c,f,a⟩
 ·exact wpAny_Name (wpAny_loadName_local I.ok.kind hk n p fin) hd
 ·rcases hk with hk | hk
  ·exact wpAny_Name (wpAny_loadName_cell I.ok.kind hk f a fin) hd
  ·exact wpAny_Name (wpAny_loadName_free I.ok.kind hk f a fin d) hd
def aG {i j pos}:PE X (.Constant (.int i) j pos) (tC (.int i)):=λ_ _ _ H _ I h=>wpAny_Constant_int ⟨.int i,H,I.tok _,⟨_,rfl⟩,h⟩
def iW {b j pos}:PE X (.Constant (.bool b) j pos) (tC (.bl b)):=λ_ _ _ H _ I h=>Constant_bool ⟨.bl b,H,I,rfl,h⟩
def uB {j pos}:PE X (.Constant .none j pos) (tC .non):=λ_ _ _ H _ I h=>Constant_none ⟨.non,H,I,rfl,h⟩
def bA {x j pos}:PE X (.Constant (.str x) j pos) (tC (.str x)):=λ_ _ _ H _ I h=>Calls.Constant_str ⟨.str x,H,I.tok _,⟨_,rfl⟩,h⟩
def Gl (X:Cx)(x:Str):Prop:=X.env.kindOf x=some .globalImplicit
theorem lQ {E:Value->Shared->Prop}{a:List (Addr×Obj)}{s:Shared}{σ:St}{H:Hp}{x:Str}{u:Value}{b:Pos}{Q:Value->Shared->Prop}(I:Inv X a σ H s)(c:Gl X x)(d:X.mg x=some u)(h:Q u s)
  (hd:(x == ("__debug__":Str))=false:=by decide):wpAny (model X.prog X.w) X.A (eval (.Name x b) X.env) Q E s:=
 Calls.Name_function_global I.ok.kind c (Calls.loadGlobal_global (by rw[I.ok.glob];exact I.mod.glob.keeps I.bk) d h) hd
theorem qL {E:Value->Shared->Prop}{a:List (Addr×Obj)}{s:Shared}{σ:St}{H:Hp}{x:Str}{u:Value}{b:Pos}{Q:Value->Shared->Prop}(I:Inv X a σ H s)(c:Gl X x)(d:X.mg x=none)(e:bootBuiltins x=some u)(h:Q u s)
  (f:x≠"__name__":=by decide) (hd:(x == ("__debug__":Str))=false:=by decide):wpAny (model X.prog X.w) X.A (eval (.Name x b) X.env) Q E s:=by
 obtain⟨j,g,i⟩:=I.mod.blt
 exact Calls.Name_function_global I.ok.kind c (Calls.loadGlobal_builtin (by rw[I.ok.glob];exact I.mod.glob.keeps I.bk) d (by rw[I.ok.blt];exact g.keeps I.bk) ((i x f).trans e) h) hd
def bC {v:V}(a:Gl X x)(b:X.mg x=some u)(r:RelV v u)(hd:(x == ("__debug__":Str))=false:=by decide):PE X (.Name x pos) (tC v):=
 λ_ _ _ H _ I h=>lQ I a b ⟨v,H,I,r,h⟩ hd
variable {a b:Expr}
def PC (X:Cx)(op:CmpOp)(a b:Expr)(t:TE):Prop:=
 ∀ (pins:List (Addr×Obj))(s:Shared)(σ:St)(H:Hp)(Q:VK),Inv X pins σ H s->t σ H Q->
  wpAny (model X.prog X.w) X.A (eval a X.env) (λv c=>wpAny (model X.prog X.w) X.A (eval b X.env) (λu d=>wpAny (model X.prog X.w) X.A (compareOp op v u) (EP X pins σ Q) X.xe d) X.xe c) X.xe s
def tB (t:TE):TT:=λa H Q=>t a H λx b=>∃c,x= .bl c/\Q c b
def c0A {t:TE}(h:PC X op a b t)(f:behindInMarks op b=false:=by first | exact nobehind _ (by decide) (by decide) | rfl):PT X (.Compare a [op] [b] pos) (tB t):=by
 intro e s i H Q I j
 refine wpAny_isTrue_Compare1 (thn (h e s i H _ I j) λv p f=>thn f λu r k=>thn k λc w g=>?_) f
 obtain⟨x,l,m,n,o⟩:=g
 obtain⟨d,rfl,q⟩:=o
 cases n
 exact Xe ⟨l,m,q⟩
def b4B {t:TE}(h:PE X e t)(c:∀whole,isTrue e X.env whole=(do let v<-whole;standAt e.pos;holding [v] (truthy v)):=by intro _;rfl):PT X e (tB t):=by
 intro a s f H Q I g
 refine isTrue_plain (thn (h a s f H _ I g) λv m b=>?_) (c _)
 obtain⟨x,i,j,k,l⟩:=b
 obtain⟨d,rfl,q⟩:=l
 cases k
 exact Xe ⟨i,j,q⟩
variable {tA tB':TT}{rest:List Expr}
def b9R (t u:TT):TT:=λa H Q=>t a H λc b=>if c=true then u a b Q else Q false b
def tOr (t u:TT):TT:=λa H Q=>t a H λc b=>if c=true then Q true b else u a b Q
def b9K (t:TT):TT:=λa H Q=>t a H λc b=>Q (!c) b
def jH (ha:PT X a tA):PW X (.BoolOp .And [a] pos) tA:=by
 intro f b s d H Q I h
 refine isTrue_and (thn (ha b s d H Q I h) λc g e=>?_)
 cases c with
 |true=>exact isTrue_and_nil e
 |false=>exact e
def uA (ha:PT X a tA):PW X (.BoolOp .Or [a] pos) tA:=by
 intro f b s d H Q I h
 refine isTrue_or (thn (ha b s d H Q I h) λc g e=>?_)
 cases c with
 |false=>exact isTrue_or_nil e
 |true=>exact e
def jV (ha:PT X a tA)(hb:PW X (.BoolOp .And (b::rest) pos) tB'):PW X (.BoolOp .And (a::b::rest) pos) (b9R tA tB'):=by
 intro k d s f H Q I h
 refine isTrue_and (thn (ha d s f H _ I h) λc l e=>?_)
 obtain⟨g,i,j⟩:=e
 cases c with
 |true=>exact hb k d l f g Q i j
 |false=>exact⟨g,i,j⟩
def vV (ha:PT X a tA)(hb:PW X (.BoolOp .Or (b::rest) pos) tB'):PW X (.BoolOp .Or (a::b::rest) pos) (tOr tA tB'):=by
 intro k d s f H Q I h
 refine isTrue_or (thn (ha d s f H _ I h) λc l e=>?_)
 obtain⟨g,i,j⟩:=e
 cases c with
 |true=>exact⟨g,i,j⟩
 |false=>exact hb k d l f g Q i j
def gH (d:PT X a tA):PT X (.UnaryOp .Not a pos) (b9K tA):=by
 intro b s e H Q I h
 exact isTrue_not (d b s e H (λc f=>Q (!c) f) I h)
def a4L (d e:TE):TE:=λa H Q=>d a H λx b=>∃c,x= .bl c/\if c=true then e a b Q else Q (.bl false) b
def a4K (a:TE):TE:=λb H Q=>a b H λx d=>∃c,x= .bl c/\Q (.bl (!c)) d
def a6J {op}{t:TE}(h:PE X a t):PE X (.BoolOp op [a] pos) t:=λb s c H Q I d=>BoolOp_one (h b s c H Q I d)
def b4G (ha:PE X a ta)(hb:PE X (.BoolOp .And (b::rest) pos) tb):PE X (.BoolOp .And (a::b::rest) pos) (a4L ta tb):=by
 intro d s g H Q I h
 refine BoolOp_and (thn (ha d s g H _ I h) λv k f=>?_)
 obtain⟨x,i,j,l,e⟩:=f
 obtain⟨c,rfl,e⟩:=e
 cases l
 refine Xe ?_
 cases c with
 |true=>exact hb d k g i Q j e
 |false=>exact⟨.bl false,i,j,rfl,e⟩
def b4E (f:PE X a ta):PE X (.UnaryOp .Not a pos) (a4K ta):=by
 intro b s g H Q I h
 refine UnaryOp_ (thn (f b s g H _ I h) λv l d=>?_)
 obtain⟨x,i,j,k,e⟩:=d
 obtain⟨c,rfl,e⟩:=e
 cases k
 exact not_of (Xe ⟨.bl (!c),i,j,rfl,e⟩)
def tIf (t:TT)(d e:TE):TE:=λa H Q=>t a H λc b=>if c=true then d a b Q else e a b Q
def dF (hc:PT X c tA)(ha:PE X a ta)(hb:PE X b tb):PE X (.IfExp c a b pos) (tIf tA ta tb):=by
 intro e s f H Q I h
 refine wpAny_IfExp (thn (hc e s f H _ I h) λd i g=>?_)
 obtain⟨j,k,l⟩:=g
 cases d with
 |true=>exact ha e i f j Q k l
 |false=>exact hb e i f j Q k l
end
def SqL (K:W.Frag)(H:Hp)(a:Addr)(xs:List V):Prop:=
 Rd H a (.lst xs)\/
  ∃(o:Obj)(its:Array Value)(n:Nat),K.lookup a=some o/\o.cls= .type "list"/\o.dict=none/\o.data= .seq its n/\its.size<=sizeLine/\Vals xs its.toList
def SqT (K:W.Frag)(H:Hp)(a:Addr)(xs:List V):Prop:=
 Rd H a (.tup xs)\/
  ∃(o:Obj)(its:Array Value)(n:Nat),K.lookup a=some o/\o.cls= .type "tuple"/\o.data= .seq its n/\its.size<=sizeLine/\Vals xs its.toList
def c0U:Value->Option V
 |.none=>some .non
 |.bool b=>some (.bl b)
 |.int i _=>some (.int i)
 |.str x _=>some (.str x)
 |.bytes b _=>some (.byt b)
 |.float b _=>some (.flt b)
 |.ref a=>some (.ref a)
 |.type n=>some (.ty n)
 |_=>none
def RelV.abs {x:V}(r:RelV x u):c0U u=some x:=by
 cases x with
 |non=>cases r;rfl
 |bl _=>cases r;rfl
 |int _=>obtain⟨t,rfl⟩:=r;rfl
 |str _=>obtain⟨t,rfl⟩:=r;rfl
 |byt _=>obtain⟨t,rfl⟩:=r;rfl
 |flt _=>obtain⟨t,rfl⟩:=r;rfl
 |ref _=>cases r;rfl
 |ty _=>cases r;rfl
def RelV.inj {x y:V}(r:RelV x u)(q:RelV y u):x=y:=Yp (r.abs.symm.trans q.abs)
theorem Vals.inj:∀{xs ys:List V}{us:List Value},Vals xs us->Vals ys us->xs=ys
 |_,_,_,.nil,.nil=>rfl
 |_,_,_,.cons r t,.cons r' t'=>by rw[r.inj r',Vals.inj t t']
section
variable {xs ys:List V}
def SqL.of (h:H a=some (.lst xs)):SqL K H a xs:= .inl (.inl h)
def Vb:=@SqL.of
def SqT.of (h:H a=some (.tup xs)):SqT K H a xs:= .inl (.inl h)
def Vc:=@SqT.of
def Inv.list (I:Inv X pins σ H s)(h:SqL X.K H a xs):∃its:List Value,Vals xs its/\PlainL s.heap a its.toArray/\xs.length<=sizeLine:=by
 rcases h with h | ⟨o,its,n,b,c,hd,d,f,r⟩
 ·obtain⟨z,its,n,r,e⟩:=h.ok I.hok
  exact⟨its,r,⟨_,n,e,rfl,rfl,rfl⟩,z⟩
 ·refine⟨its.toList,r,⟨o,n,I.kIn a o b,c,hd,by simpa using d⟩,?_⟩
  have e:=r.length
  simp only[XH]at e
  lia
def Inv.tuple (I:Inv X pins σ H s)(h:SqT X.K H a xs):∃its:List Value,Vals xs its/\IsTup s.heap a its.toArray/\xs.length<=sizeLine:=by
 rcases h with h | ⟨o,its,n,b,c,d,f,r⟩
 ·obtain⟨z,its,r,p⟩:=h.ok I.hok
  exact⟨its,r,p,z⟩
 ·refine⟨its.toList,r,⟨o,I.kIn a o b,c,n,by simpa using d⟩,?_⟩
  have e:=r.length
  simp only[XH]at e
  lia
def Inv.list_inj (I:Inv X pins σ H s)(h:SqL X.K H a xs)(h':SqL X.K H a ys):xs=ys:=by
 obtain⟨c,r,⟨o,n,e,_,_,d⟩,_⟩:=I.list h
 obtain⟨b,i,⟨j,k,f,_,_,g⟩,_⟩:=I.list h'
 rw[e]at f;cases f
 rw[d]at g
 injection g with d1 _
 have:c=b:=by simpa using YO Array.toList d1
 subst this
 exact r.inj i
def Inv.tuple_inj (I:Inv X pins σ H s)(h:SqT X.K H a xs)(h':SqT X.K H a ys):xs=ys:=by
 obtain⟨c,r,⟨o,e,_,n,d⟩,_⟩:=I.tuple h
 obtain⟨b,i,⟨j,f,_,k,g⟩,_⟩:=I.tuple h'
 rw[e]at f;cases f
 rw[d]at g
 injection g with d1 _
 have:c=b:=by simpa using YO Array.toList d1
 subst this
 exact r.inj i
end
abbrev Cx.wish (X:Cx)(E:Value->Shared->Prop):Cx:={ X with xe:=E }
abbrev Cx.nox (X:Cx):Cx:=X.wish λ_ _=>False
def Cx.Ok.wish (ok:X.Ok)(E:Value->Shared->Prop):(X.wish E).Ok:=
 ⟨ok.mod,ok.kind,ok.glob,ok.blt,ok.above,ok.inj,ok.has,ok.cab,ok.hd,ok.frames,ok.stk,ok.exf,ok.bs,ok.bsz,ok.noex,ok.exfs,ok.funs,ok.frf⟩
def Cx.Ok.unwish (ok:(X.wish E).Ok):X.Ok:=
 ⟨ok.mod,ok.kind,ok.glob,ok.blt,ok.above,ok.inj,ok.has,ok.cab,ok.hd,ok.frames,ok.stk,ok.exf,ok.bs,ok.bsz,ok.noex,ok.exfs,ok.funs,ok.frf⟩
def Inv.wish (I:Inv X pins σ H s)(E:Value->Shared->Prop):Inv (X.wish E) pins σ H s:=⟨I.ok.wish E,I.os,I.bare,I.base,I.loc,I.cell,I.free,I.freeC,I.pin,I.hok,I.len⟩
def Inv.unwish (I:Inv (X.wish E) pins σ H s):Inv X pins σ H s:=⟨I.ok.unwish,I.os,I.bare,I.base,I.loc,I.cell,I.free,I.freeC,I.pin,I.hok,I.len⟩
def SP.unwish {D:Ends}{f:Flow}{s':Shared}(h:SP (X.wish E) pins D f s'):SP X pins D f s':=by
 cases f with
 |next=>obtain⟨a,b,I,q⟩:=h;exact⟨a,b,I.unwish,q⟩
 |brk=>obtain⟨a,b,I,q⟩:=h;exact⟨a,b,I.unwish,q⟩
 |cont=>obtain⟨a,b,I,q⟩:=h;exact⟨a,b,I.unwish,q⟩
 |ret u=>obtain⟨v,a,b,I,r,q⟩:=h;exact⟨v,a,b,I.unwish,r,q⟩
def PSs.nox {b:List Stmt}{t:TS}(h:PSs X.nox b t):PSs X b t:=λa s c H D I d=>
 Xc (h a s c H D (I.wish _) d) (λ_ _ q=>q.unwish) λ_ _ z=>False.elim z
section
variable {st:Stmt}{rest:List Stmt}{t u:TS}
def b6R:TS:=λD a H=>D.nx a H
def b9I (t u:TS):TS:=λD a H=>t { D with nx:=u D } a H
def aR:PSs X [] b6R:=λ_ _ a H _ I h=>wpAny_execs_nil ⟨a,H,I,h⟩
def aD (h1:PS X st t)(h2:PSs X rest u):PSs X (st::rest) (b9I t u):=by
 intro a s c H D I h
 refine wpAny_execs_cons (thn (h1 a s c H { D with nx:=u D } I h) λf d q=>?_)
 cases f with
 | next=>
  obtain⟨b,e,g,q⟩:=q
  exact h2 a d b e D g q
 |ret v=>exact q
 |brk=>exact q
 |cont=>exact q
def aF (h1:PS X st t):PSs X [st] t:=by
 intro a s b H D I h
 refine wpAny_execs_cons (thn (h1 a s b H D I h) λf c q=>?_)
 cases f with
 |next=>exact wpAny_execs_nil q
 |ret v=>exact q
 |brk=>exact q
 |cont=>exact q
def b3M:TS:=λD a H=>D.bk a H
def b6V:TS:=λD a H=>D.ct a H
def a6G:PS X (.Break pos) b3M:=λ_ _ a H _ I h=>wpAny_Break ⟨a,H,I,h⟩
def vY:PS X (.Continue pos) b6V:=λ_ _ a H _ I h=>wpAny_Continue ⟨a,H,I,h⟩
def Inv.quiet (I:Inv X pins σ H s):interactive X.env=false:=by simp[interactive,I.ok.kind]
def b6S (b:TE):TS:=λD a H=>b a H λ_ c=>D.nx a c
def bD (c:PE X e te)(d:swapsWith e none pos.line X.env=pure false:=by rfl):PS X (.Expr e pos) (b6S te):=by
 intro a s b H D I h
 exact wpAny_Expr_any (thn (c a s b H _ I h) λv j ⟨x,f,g,k,i⟩=>⟨b,f,g,i⟩) I.quiet d
def b9J (a:TE):TS:=λD b H=>a b H D.rt
def aM (c:PE X e te):PS X (.Return (some e) pos) (b9J te):=by
 intro a s b H D I h
 exact wpAny_Return_some (thn (c a s b H _ I h) λv j ⟨x,d,f,g,i⟩=>⟨x,b,d,f,g,i⟩)
def b9M (c:TT)(t u:TS):TS:=λD a H=>c a H λb d=>if b=true then t D a d else u D a d
def bH {a b:List Stmt}{tc:TT}(hc:PT X c tc)(ha:PSs X a t)(hb:PSs X b u):PS X (.If c a b pos) (b9M tc t u):=by
 intro e s f H D I h
 refine wpAny_If (thn (hc e s f H _ I h) λd i g=>?_)
 obtain⟨j,k,l⟩:=g
 cases d with
 |true=>exact ha e i f j D k l
 |false=>exact hb e i f j D k l
end
abbrev TG:=V->St->Hp->(St->Hp->Prop)->Prop
abbrev TGs:=List V->St->Hp->(St->Hp->Prop)->Prop
def PG (X:Cx)(a:Expr)(t:TG):Prop:=
 ∀ (pins:List (Addr×Obj))(s:Shared)(σ:St)(H:Hp)(v:V)(u:Value)(Q:St->Hp->Prop),Inv X pins σ H s->RelV v u->t v σ H Q->
  wpAny (model X.prog X.w) X.A (assign a X.env u) (λ_ b=>∃σ' H',Inv X pins σ' H' b/\Q σ' H') X.xe s
def PGs (X:Cx)(ts:List Expr)(t:TGs):Prop:=
 ∀ (pins:List (Addr×Obj))(s:Shared)(σ:St)(H:Hp)(vs:List V)(us:List Value)(Q:St->Hp->Prop),Inv X pins σ H s->Vals vs us->t vs σ H Q->
  wpAny (model X.prog X.w) X.A (assignInOrder ((assignEach ts X.env).map (·.2)) us) (λ_ a=>∃σ' H',Inv X pins σ' H' a/\Q σ' H') X.xe s
def wU (i:Nat):TG:=λv a H Q=>Q (a.set i (some v)) H
def dN (b:X.N.Nodup)(c:X.N[i]? =some x)(d:Loc X.env.scope x)(e:X.fn x=true\/X.env.scope.names.lookup x=some .local:=by first | exact .inl rfl | exact .inr rfl | assumption):PG X (.Name x pos) (wU i):=by
 intro a s g H v u Q I r h
 exact wpAny_assign_Name (pW I b c d r (λj f=>⟨_,H,f,h⟩) e)
def b8G:TGs:=λa b H Q=>a= []/\Q b H
def a7U (t:TG)(u:TGs):TGs:=λb c H Q=>∃v r,b=v::r/\t v c H λa d=>u r a d Q
def b0I:PGs X [] b8G:=by
 intro a s b H c d Q I r h
 obtain⟨e,h⟩:=h
 subst e
 cases r
 exact assignInOrder_nil ⟨b,H,I,h⟩
theorem vZ {e:Expr}{es:List Expr}{t:TG}{u:TGs}(h1:PG X e t)(h2:PGs X es u)
  (hs:(assignEach (e::es) X.env).map (·.2)=assign e X.env::(assignEach es X.env).map (·.2):=by rfl):PGs X (e::es) (a7U t u):=by
 intro a s d H l m Q I r h
 obtain⟨v,n,f,h⟩:=h
 subst f
 cases r with
 | cons r rr=>
  rw[hs]
  refine assignInOrder_cons (thn (h1 a s d H _ _ _ I r h) λ_ g b=>?_)
  obtain⟨c,i,j,k⟩:=b
  exact h2 a g c i _ _ Q j rr k
def b8F (K:W.Frag)(n:Nat)(t:TGs):TG:=λv b H Q=>∃a xs,v= .ref a/\SqT K H a xs/\xs.length=n/\t xs b H Q
theorem b4C {d:List Expr}{k:Nat}{t:TGs}{n:Nat}(l:X.calm=true)(h:PGs X d t)
  (m:(assignEach d X.env).length=n:=by rfl) (f:(assignEach d X.env).findIdx? (·.1)=none:=by rfl):PG X (.Tuple d k pos) (b8F X.K n t):=by
 intro c s i H v u Q I r g
 obtain⟨a,xs,p,q,w,g⟩:=g
 subst p
 cases r
 obtain⟨x,j,y,C⟩:=I.tuple q
 refine assign_Tuple_tuple (I.ok.hd l) y (by simp[m,<-w,j.length]) f λz A=>?_
 have B:Inv X c i H { s with heap:=z }:=I.kept (t':=s.toks) λb o e=>A b o (YA (Ys e)) e
 exact h c _ i H xs _ Q B (by simpa using j) g
def b6X (b:TE)(g:TG):TS:=λD a H=>b a H λx c=>g x a c D.nx
def aX {a:Pos}(d:X.N.Nodup)(f:X.N[i]? =some x)(g:Loc X.env.scope x)(j:PE X e te)(k:swapsWith e (some (.Name x a)) pos.line X.env=pure false:=by rfl)(l:X.fn x=true\/X.env.scope.names.lookup x=some .local:=by first | exact .inl rfl | exact .inr rfl | assumption):
  PS X (.Assign [.Name x a] e pos) (b6X te (wU i)):=by
 intro b s m H D I h
 refine wpAny_Assign_Name (thn (j b s m H _ I h) λv t c=>?_) k
 obtain⟨y,n,o,p,q⟩:=c
 exact pW o d f g p (λu r=>⟨_,n,r,q⟩) l
def b3G (c:TT)(e:TS):TS:=λD a H=>∃W:Nat->St->Hp->Prop,(∃m,W m a H)/\∀m a H,W m a H->
 c a H λb d=>if b=true then ∃N:St->Hp->Prop,(∀σ' H',N σ' H'->∃m',m'<m/\W m' σ' H')/\e { D with nx:=N,ct:=N,bk:=D.nx } a d else D.nx a d
def a6E {body:List Stmt}{tc:TT}{tb:TS}(hp:PassesOwn (model X.prog X.w) X.A X.env X.xe)(hc:PT X c tc)(hb:PSs X body tb):PS X (.While c body [] pos) (b3G tc tb):=by
 intro a s y H D I h
 obtain⟨W,⟨z,B⟩,turn⟩:=h
 refine wpAny_While (codeAny_whileLoop (λn C=>∃σ' H',Inv X a σ' H' C/\W n σ' H') ?_ z ⟨y,H,I,B⟩)
 rintro n E ⟨e,r,F,G⟩
 refine XD hp (thn (hc a E e r _ F (turn n e r G)) λb J k=>?_)
 obtain⟨t,u,i⟩:=k
 cases b with
 | true=>
  obtain⟨N,x,i⟩:=i
  rw[if_pos rfl]
  refine XD hp (thn (hb a J e t _ u i) λf K j=>?_)
  cases f with
  | next=>
   obtain⟨d,g,l,m⟩:=j
   obtain⟨o,p,q⟩:=x d g m
   exact⟨o,p,d,g,l,q⟩
  | cont=>
   obtain⟨d,g,l,m⟩:=j
   obtain⟨o,p,q⟩:=x d g m
   exact⟨o,p,d,g,l,q⟩
  |brk=>exact j
  |ret v=>exact j
 | false=>
  rw[if_neg Yn]
  exact wpAny_execs_nil ⟨e,t,u,i⟩
structure It where
 go:Nat->Hp->Prop
 yld:Nat->Hp->V->Hp->Prop
 stop:Nat->Hp->Prop
def pC (X:Cx)(a:List (Addr×Obj))(H:Hp)(b:Addr):Prop:=
 H b=none/\b≠X.env.locals/\b∉X.fs/\(b∈X.ex\/X.s₀.heap.objs.size<=b)/\(∀x c,X.env.cells.lookup x=some c->c≠b)/\∀p∈X.pn++a,p.1≠b
def Inv.fpOk (I:Inv X pins σ H s)(a:s.heap.objs.size<=b)(d:H' b=none):pC X pins H' b:=by
 refine⟨d,Nat.ne_of_gt (Yh I.lt a),I.nofs a,.inr (YY I.sz a),λx c e z=>?_,λp f z=>?_⟩
 ·obtain⟨v,q⟩:=I.cell x c e
  exact absurd (Yh q.lt (by rw[z];exact a)) (YZ _)
 ·exact absurd (Yh (Ys (I.pin p f).1) (by rw[z];exact a)) (YZ _)
structure Turn (P:Program)(w:World)(K:W.Frag)(tg:Expr)(J:It)(fp:List Addr)(it:Addr)(tn:Nat->Heap->Prop):Prop where
 mem:it∈fp
 obj:∀i h,tn i h->∀b∈fp,∃o,h.get? b=some o/\∀v,o.data≠ .cell v
 keep:∀i h h',tn i h->(∀b∈fp,∀o,h.get? b=some o->h'.get? b=some o)->tn i h'
 item :∀(X:Cx),X.prog=P->X.w=w->X.K=K->X.calm=true->∀(i:Nat)(pins:List (Addr×Obj))(s:Shared)(σ:St)(H:Hp)(E:Value->Shared->Prop),Inv X pins σ H s->(∀b∈fp,pC X pins H b)->tn i s.heap->J.go i H->
  wpAny (model P w) X.A (pyNext (.ref it)) (λr s1=>∃u,r=some u/\
   wpAny (model P w) X.A (letOwnedTupleGo tg (.ref it) u) (λ_ s2=>∃x H',Inv X pins σ H' s2/\RelV x u/\J.yld i H x H'/\tn (i+1) s2.heap/\∀b∈fp,H' b=none) E s1) E s
 done:∀(X:Cx),X.prog=P->X.w=w->X.K=K->X.calm=true->∀(i:Nat)(pins:List (Addr×Obj))(s:Shared)(σ:St)(H:Hp)(E:Value->Shared->Prop),Inv X pins σ H s->(∀b∈fp,pC X pins H b)->tn i s.heap->J.stop i H->
  wpAny (model P w) X.A (pyNext (.ref it)) (λr s1=>r=none/\Inv X pins σ H s1) E s
 self:∀(A:Around)(i:Nat)(s:Shared)(Q:Value->Shared->Prop)(E:Value->Shared->Prop),tn i s.heap->Q (.ref it) s->wpAny (model P w) A (pyIter (.ref it)) Q E s
abbrev TI:=St->Hp->(It->Hp->Prop)->Prop
def PIE (X:Cx)(a:List (Addr×Obj))(σ:St)(e:Expr)(R:It->Hp->Prop)(c:Value)(d:Shared):Prop:=
 ∃(it:Addr)(fp:List Addr)(tn:Nat->Heap->Prop)(J:It)(H':Hp),c= .ref it/\Inv X a σ H' d/\Turn X.prog X.w X.K e J fp it tn/\tn 0 d.heap/\(∀b∈fp,pC X a H' b)/\R J H'
def PI (X:Cx)(b a:Expr)(c:TI):Prop:=
 ∀ (pins:List (Addr×Obj))(s:Shared)(σ:St)(H:Hp)(R:It->Hp->Prop),Inv X pins σ H s->c σ H R->
  wpAny (model X.prog X.w) X.A (eval a X.env) (λv d=>wpAny (model X.prog X.w) X.A (pyIter v) (PIE X pins σ b R) X.xe d) X.xe s
theorem jO {M:Model}{A:Around}{E:Value->Shared->Prop}{s:Shared}{tg:Expr}{it:Addr}{u:Value}{o:Obj}{n:String}{vs:Array Value}{Q:Unit->Shared->Prop}(ho:s.heap.get? it=some o)(hc:o.cls= .type n)(hd:o.data= .fields vs)
    (hn:["enumerate","zip","dict_itemiterator","dict_reverseitemiterator","odict_iterator","itertools.zip_longest","itertools.pairwise"].contains n=false) (hQ:Q () s):wpAny M A (letOwnedTupleGo tg (.ref it) u) Q E s:=by
  unfold letOwnedTupleGo
  cases tg <;> first
    |exact Xf hQ
    | (cases u <;> first
        |exact Xf hQ
        | (refine Y4 (wpAny_load ho ?_)
           rw[hc,hd]
           show wpAny M A (if (["enumerate","zip","dict_itemiterator","dict_reverseitemiterator","odict_iterator","itertools.zip_longest","itertools.pairwise"].contains n && vs[0]? == some (rawInt _))=true then _ else _) Q E s
           rw[if_neg (by intro h;rw[hn,Bool.false_and]at h;cases h)]
           exact Xf hQ))
def Itl (K:W.Frag)(a:Addr):It:=
 ⟨λi H=>∃xs x,SqL K H a xs/\xs[i]? =some x,λi H x b=>b=H/\∀xs,SqL K H a xs->xs[i]? =some x,λi H=>∃xs,SqL K H a xs/\xs.length<=i⟩
def Itt (K:W.Frag)(a:Addr):It:=
 ⟨λi H=>∃xs x,SqT K H a xs/\xs[i]? =some x,λi H x b=>b=H/\∀xs,SqT K H a xs->xs[i]? =some x,λi H=>∃xs,SqT K H a xs/\xs.length<=i⟩
def Itr (lo:Int)(n:Nat):It:=⟨λi _=>i<n,λi H x a=>a=H/\x= .int (lo+i),λi _=>n<=i⟩
def rP (a it:Addr):Turn P w K tg (Itl K a) [it] it (λi h=>h.IsListIter it a i) where
 mem:=by simp
 obj:=λi h st b hb=>by
  have e:b=it:=by simpa using hb
  subst e
  obtain⟨o,e,c,d⟩:=st
  exact⟨o,e,λv z=>by rw[d]at z;cases z⟩
 keep:=λi h h' st k=>st.at λo e=>k it (by simp) o e
 item:=by
  intro X hP hw hK hc i pins s σ H E I hf st hg
  subst hP hw hK
  obtain⟨xs,x,hq,hx⟩:=hg
  obtain⟨its,rv,p,hz⟩:=I.list hq
  obtain⟨u,hu,ru⟩:=rv.get hx
  obtain⟨f0,f1,f2,f3,f4,f5⟩:=hf it (by simp)
  refine wpAny_pyNext_list_item st p.isList (x:=u) (by simpa using hu) λh' st' sb=>?_
  have I1:Inv X pins σ H { s with heap:=h' }:=I.turned (t':=s.toks) (λb o hb e=>(sb.2 b hb).trans e) f0 f1 f3 f4 f5
  obtain⟨o,e,c,d⟩:=id st'
  exact⟨u,rfl,jO (s:={ s with heap:=h' }) e c d (by decide) ⟨x,H,I1,ru,⟨rfl,λys hy=>by rw[I.list_inj hy hq];exact hx⟩,st',λb hb=>(hf b hb).1⟩⟩
 done:=by
  intro X hP hw hK hc i pins s σ H E I hf st hg
  subst hP hw hK
  obtain⟨xs,hq,hx⟩:=hg
  obtain⟨its,rv,p,hz⟩:=I.list hq
  obtain⟨f0,f1,f2,f3,f4,f5⟩:=hf it (by simp)
  have hl:=rv.length
  exact wpAny_pyNext_list_end (I.ok.hd hc) st p.isList (by simp;lia) λh' eb=>⟨rfl,I.turned (t':=s.toks) (λb o hb e=>eb b o hb e) f0 f1 f3 f4 f5⟩
 self:=λ_ _ _ _ _ st h=>wpAny_pyIter_listiter st h
def xU (a it:Addr):Turn P w K tg (Itt K a) [it] it (λi h=>h.IsTupleIter it a i) where
 mem:=by simp
 obj:=λi h st b hb=>by
  have e:b=it:=by simpa using hb
  subst e
  obtain⟨o,e,c,d⟩:=st
  exact⟨o,e,λv z=>by rw[d]at z;cases z⟩
 keep:=λi h h' st k=>st.at λo e=>k it (by simp) o e
 item:=by
  intro X hP hw hK hc i pins s σ H E I hf st hg
  subst hP hw hK
  obtain⟨xs,x,hq,hx⟩:=hg
  obtain⟨its,rv,p,hz⟩:=I.tuple hq
  obtain⟨u,hu,ru⟩:=rv.get hx
  obtain⟨f0,f1,f2,f3,f4,f5⟩:=hf it (by simp)
  refine wpAny_pyNext_tuple_item st (show s.heap.IsTuple a its.toArray from p) (x:=u) (by simpa using hu) λh' st' sb=>?_
  have I1:Inv X pins σ H { s with heap:=h' }:=I.turned (t':=s.toks) (λb o hb e=>(sb.2 b hb).trans e) f0 f1 f3 f4 f5
  obtain⟨o,e,c,d⟩:=id st'
  exact⟨u,rfl,jO (s:={ s with heap:=h' }) e c d (by decide) ⟨x,H,I1,ru,⟨rfl,λys hy=>by rw[I.tuple_inj hy hq];exact hx⟩,st',λb hb=>(hf b hb).1⟩⟩
 done:=by
  intro X hP hw hK hc i pins s σ H E I hf st hg
  subst hP hw hK
  obtain⟨xs,hq,hx⟩:=hg
  obtain⟨its,rv,p,hz⟩:=I.tuple hq
  obtain⟨f0,f1,f2,f3,f4,f5⟩:=hf it (by simp)
  have hl:=rv.length
  exact wpAny_pyNext_tuple_end (I.ok.hd hc) st (show s.heap.IsTuple a its.toArray from p) (by simp;lia) λh' eb=>⟨rfl,I.turned (t':=s.toks) (λb o hb e=>eb b o hb e) f0 f1 f3 f4 f5⟩
 self:=λ_ _ _ _ _ st h=>wpAny_pyIter_tupleiter st h
def xV (it:Addr)(lo:Int)(n:Nat):Turn P w K tg (Itr lo n) [it] it (λi h=>IsRangeIter h it (lo+(i:Nat)*1) ((n:Int)-(i:Nat)) 1) where
 mem:=by simp
 obj :=λi h st b hb=>by
  have e:b=it:=by simpa using hb
  subst e
  exact⟨_,st,λv z=>by
   have z':Data.fields _=Data.cell v:=z
   cases z'⟩
 keep:=λi h h' st k=>k it (by simp) _ st
 item:=by
  intro X hP hw hK hc i pins s σ H E I hf st hg
  subst hP hw hK
  obtain⟨f0,f1,f2,f3,f4,f5⟩:=hf it (by simp)
  have W:=Walks.range (prog:=X.prog) (w:=X.w) (I.ok.hd hc) it lo 1 n
  refine W.item i s _ _ hg st λv h' tk hv st' kk=>?_
  obtain⟨t,rfl⟩:=hv
  have I1:Inv X pins σ H { s with heap:=h',toks:=tk }:=I.turned (λb o hb e=>kk b o (by simpa using hb) e) f0 f1 f3 f4 f5
  refine⟨_,rfl,jO (s:={ s with heap:=h',toks:=tk }) (n:="range_iterator") st' rfl rfl (by decide) ⟨.int (lo+i),H,I1,⟨t,?_⟩,⟨rfl,rfl⟩,st',λb hb=>(hf b hb).1⟩⟩
  rw[Int.mul_one]
 done:=by
  intro X hP hw hK hc i pins s σ H E I hf st hg
  subst hP hw hK
  obtain⟨f0,f1,f2,f3,f4,f5⟩:=hf it (by simp)
  exact wpAny_pyNext_range_end (I.ok.hd hc) st (by have:n<=i:=hg;lia) λh' eb=>⟨rfl,I.turned (t':=s.toks) (λb o hb e=>eb b o hb e) f0 f1 f3 f4 f5⟩
 self:=λ_ _ _ _ _ st h=>wpAny_pyIter_rangeiter st h
def b8C (K:W.Frag)(c:TE):TI:=λd H R=>c d H λx b=>∃a,x= .ref a/\(∃xs,SqL K b a xs)/\R (Itl K a) b
def b0H {l:Expr}{i:TE}(j:PE X l i):PI X tg l (b8C X.K i):=by
 intro c s k H R I h
 refine thn (j c s k H _ I h) λv d g=>?_
 obtain⟨x,m,f,n,r⟩:=g
 obtain⟨a,e,⟨xs,t⟩,q⟩:=r
 subst e
 cases n
 obtain⟨u,y,p,z⟩:=f.list t
 refine wpAny_pyIter_list p.isList ?_
 refine⟨d.heap.objs.size, [d.heap.objs.size],_,_,m,rfl,f.kept (t':=d.toks) λb o e=>Ym _ e,rP a _,⟨_,Yz _ rfl,rfl,rfl⟩,λb w=>?_,q⟩
 have e:b=d.heap.objs.size:=by simpa using w
 subst e
 exact f.fpOk (Yc _) (f.hok.fresh (Yc _))
theorem a5X {c:List (Addr×Obj)}{σ:St}{H:Hp}{s:Shared}{R:It->Hp->Prop}{E:Value->Shared->Prop}{lo a:Int}{t u v:Tok}{tk:Nat}(I:Inv X c σ H s)(f: -(2 ^ 62)<=lo)(g:lo<2 ^ 62)(h: -(2 ^ 62)<=a)(i:a<2 ^ 62)
  (q:R (Itr lo (a-lo).toNat) H):wpAny (model X.prog X.w) X.A (pyIter (.ref s.heap.objs.size)) (PIE X c σ tg R) E { s with heap:=s.heap.push { cls:= .type "range",data:= .fields #[.int lo t,.int a u,.int 1 v] },toks:=tk }:=by
 refine wpAny_pyIter_range (IsRange.new ..) (small_one f g h i) ?_
 have d:Inv X c σ H { s with heap:=s.heap.push { cls:= .type "range",data:= .fields #[.int lo t,.int a u,.int 1 v] },toks:=tk }:=I.kept λb o e=>Ym _ e
 refine⟨(s.heap.push { cls:= .type "range",data:= .fields #[.int lo t,.int a u,.int 1 v] }).objs.size, [(s.heap.push { cls:= .type "range",data:= .fields #[.int lo t,.int a u,.int 1 v] }).objs.size],_,_,H,rfl,
  d.kept (t':=tk) λb o e=>Ym _ e,xV _ lo (a-lo).toNat,?_,λb j=>?_,q⟩
 ·have k:lo+((0:Nat):Int)*1=lo:=by simp
  have l:(((a-lo).toNat:Nat):Int)-((0:Nat):Int)=Builtin.Range.rangeSize lo a 1:=by rw[rangeSize_one];split <;> lia
  show IsRangeIter _ _ (lo+((0:Nat):Int)*1) ((((a-lo).toNat:Nat):Int)-((0:Nat):Int)) 1
  rw[k,l]
  exact Yz _ rfl
 ·have e:b=(s.heap.push { cls:= .type "range",data:= .fields #[.int lo t,.int a u,.int 1 v] }).objs.size:=by simpa using j
  subst e
  exact d.fpOk (Yc _) (d.hok.fresh (Yc _))
def b8B (a:TA):TI:=λb H R=>a b H λc d=>∃j:Int,c= [.int j]/\ -(2 ^ 62)<=j/\j<2 ^ 62/\R (Itr 0 j.toNat) d
def a2N {a:Expr}{ta:TA}(hg:Gl X "range")(hm:X.mg "range"=none)(ha:PA X [a] ta)(hs:starEach [a] X.env= [(false,eval a X.env)]:=by rfl):PI X tg (.Call (.Name "range" p) [a] [] pos) (b8B ta):=by
 intro b s f H R I h
 refine Call_ (qL I hg hm boot_range (XC (thn (ha pos b s f H _ I h) λl m c=>?_) hs rfl))
 obtain⟨n,o,g,i,d⟩:=c
 obtain⟨j,e,d,k,q⟩:=d
 subst e
 cases i with
 | cons r rr=>
  cases rr
  obtain⟨t,rfl⟩:=r
  exact call_range_1 (a5X g (by lia) (by lia) d k (by simpa using q))
def b9N (c:TI)(g:TG)(d:TS):TS:=λD a H=>c a H λJ e=>∃W:Nat->Nat->St->Hp->Prop,(∃m,W 0 m a e)/\∀i m a H,W i m a H->
 (J.stop i H/\D.nx a H)\/(J.go i H/\∃N:St->Hp->Prop,(∀σ' H',N σ' H'->∃m',m'<m/\W (i+1) m' σ' H')/\∀x H',J.yld i H x H'->g x a H' λb f=>d { D with nx:=N,ct:=N,bk:=D.nx } b f)
def qF (a:List Addr)(h:Heap):List (Addr×Obj):=a.filterMap λb=>(h.get? b).map λo=>(b,o)
def jX {o:Obj}(a:b∈fp)(e:h.get? b=some o):(b,o)∈qF fp h:=List.mem_filterMap.mpr ⟨b,a,by rw[e];rfl⟩
def a2P {p:Addr×Obj}(hp:p∈qF fp h):p.1∈fp/\h.get? p.1=some p.2:=by
 obtain⟨b,a,e⟩:=List.mem_filterMap.mp hp
 cases q:h.get? b with
 |none=>rw[q]at e;cases e
 | some o=>
  rw[q]at e
  have c:(b,o)=p:=Yp e
  subst c
  exact⟨a,q⟩
def Inv.pinned (I:Inv X pins σ H s)(f:∀b∈fp,pC X pins H b)(g:∀b∈fp,∃o,s.heap.get? b=some o/\∀v,o.data≠ .cell v):Inv X (pins++qF fp s.heap) σ H s:=
 I.pins_of λp h=>(YL.mp h).elim (λz=>I.pin p (YT _ z)) λz=>by
  obtain⟨a,e⟩:=a2P z
  obtain⟨i,j,k,_⟩:=f p.1 a
  obtain⟨o,c,d⟩:=g p.1 a
  rw[e]at c;cases c
  exact⟨e,i,j,k,d⟩
def Inv.unpinned {pl:List (Addr×Obj)}(I:Inv X (pins++pl) σ H s):Inv X pins σ H s:=I.pins_of λp a=>I.pin p (YT _ (Xr _ a))
theorem fQ {iter:Expr}{body:List Stmt}{wi:TI}{g:TG}{tb:TS}{pos:Pos}(hp:PassesOwn (model X.prog X.w) X.A X.env X.xe)(hc:X.calm=true)(hi:PI X tg iter wi)(hg:PG X tg g)(hb:PSs X body tb)
  (hs:∀x,foldedSetIterable iter X.env x=pure x:=by intro _;rfl):PS X (.For tg iter body [] pos) (b9N wi g tb):=by
 intro a s S H D I h
 refine wpAny_For (thn (hi a s S H _ I h) λv s1 h1=>thn h1 λa0 s2 h2=>?_) hs
 obtain⟨it,B,U,J,H2,e,I2,T,L,V,W,⟨m0,w0⟩,turn⟩:=h2
 subst e
 have j:∀{H':Hp},(∀b∈B,H' b=none)->∀b∈B,pC X a H' b:=λhn b hb=>⟨hn b hb,(V b hb).2⟩
 refine codeAny_forLoop_any (λn Y=>∃i σ' H',Inv X a σ' H' Y/\U i Y.heap/\(∀b∈B,H' b=none)/\W i n σ' H') ?_ m0 ⟨0,S,H2,I2,L,λb hb=>(V b hb).1,w0⟩
 rintro n Z ⟨i,k,K,I3,C,E,w3⟩
 rcases turn i n k K w3 with ⟨F,qn⟩ | ⟨go,N,hN,step⟩
 ·refine XD hp (thn (T.done X rfl rfl rfl hc i a Z k K X.xe I3 (j E) C F) λr s4 ⟨M,I4⟩=>?_)
  subst M
  exact wpAny_execs_nil ⟨k,K,I4,qn⟩
 ·refine XD hp (thn (T.item X rfl rfl rfl hc i a Z k K X.xe I3 (j E) C go) λr s4 l=>?_)
  obtain⟨u,M,h4⟩:=l
  subst M
  refine XD hp (thn h4 λ_ s5 l=>?_)
  obtain⟨x,H5,I5,r5,y5,z,O⟩:=l
  have P:=I5.pinned (j O) (T.obj _ _ z)
  refine XD hp (thn (hg _ s5 k H5 x u _ P r5 (step x H5 y5)) λ_ s6 l=>?_)
  obtain⟨Q,H6,I6,q6⟩:=l
  refine XD hp (thn (hb _ s6 Q H6 _ I6 q6) λf R y=>?_)
  have p:∀{c:St}{q:Hp},Inv X (a++qF B s5.heap) c q R->N c q->∃m,m<n/\∃i σ' H',Inv X a σ' H' R/\U i R.heap/\(∀b∈B,H' b=none)/\W i m σ' H':=λ{c q} t G=>by
   obtain⟨m',hm,w7⟩:=hN c q G
   refine⟨m',hm,i+1,c,q,t.unpinned,T.keep _ _ _ z λb hb o e=>(t.pin (b,o) (YT _ (YT _ (jX hb e)))).1,λb hb=>?_,w7⟩
   obtain⟨o,e,d⟩:=T.obj _ _ z b hb
   exact(t.pin (b,o) (YT _ (YT _ (jX hb e)))).2.1
  cases f with
  |next=>obtain⟨c,q,t,G⟩:=y;exact p t G
  |cont=>obtain⟨c,q,t,G⟩:=y;exact p t G
  |brk=>obtain⟨c,q,t,y⟩:=y;exact⟨c,q,t.unpinned,y⟩
  |ret v=>obtain⟨x7,c,q,t,r7,y⟩:=y;exact⟨x7,c,q,t.unpinned,r7,y⟩
theorem iD {K:W.Frag}{a:Addr}{xs:List V}{g:TG}{c:TS}{D:Ends}{σ:St}{H:Hp}(b:Nat->St->Hp->Prop)(d:b 0 σ H)(f:∀i σ H,i<=xs.length->b i σ H->SqL K H a xs)
  (h:∀i x σ H,xs[i]? =some x->b i σ H->g x σ H λσ2 H2=>c { D with nx:=b (i+1),ct:=b (i+1),bk:=D.nx } σ2 H2) (hd:∀σ H,b xs.length σ H->D.nx σ H) :
  ∃ W:Nat->Nat->St->Hp->Prop,(∃m,W 0 m σ H)/\∀i m σ H,W i m σ H->
   ((Itl K a).stop i H/\D.nx σ H)\/((Itl K a).go i H/\∃N:St->Hp->Prop,(∀σ' H',N σ' H'->∃m',m'<m/\W (i+1) m' σ' H')/\∀x H',(Itl K a).yld i H x H'->g x σ H' λσ2 H2=>c { D with nx:=N,ct:=N,bk:=D.nx } σ2 H2):=by
 refine⟨λi m σ H=>m=xs.length-i/\i<=xs.length/\b i σ H,⟨xs.length,by simp,YX _,d⟩,?_⟩
 rintro i m σ H ⟨rfl,j,p⟩
 have q:=f i σ H j p
 by_cases hlt:i<xs.length
 ·refine .inr ⟨⟨xs,xs[i],q,by simp[hlt]⟩,b (i+1),λσ' H' k=>⟨xs.length-(i+1),by lia,rfl,hlt,k⟩,λx H' y=>?_⟩
  obtain⟨e,y⟩:=y
  subst e
  exact h i x σ _ (y xs q) p
 ·have e:i=xs.length:=by lia
  subst e
  exact .inl ⟨⟨xs,q,Yc _⟩,hd σ H p⟩
theorem lU {lo:Int}{n:Nat}{g:TG}{b:TS}{D:Ends}{σ:St}{H:Hp}(a:Nat->St->Hp->Prop)(c:a 0 σ H)
  (d:∀i σ H,i<n->a i σ H->g (.int (lo+i)) σ H λσ2 H2=>b { D with nx:=a (i+1),ct:=a (i+1),bk:=D.nx } σ2 H2) (hd:∀σ H,a n σ H->D.nx σ H) :
  ∃ W:Nat->Nat->St->Hp->Prop,(∃m,W 0 m σ H)/\∀i m σ H,W i m σ H->
   ((Itr lo n).stop i H/\D.nx σ H)\/((Itr lo n).go i H/\∃N:St->Hp->Prop,(∀σ' H',N σ' H'->∃m',m'<m/\W (i+1) m' σ' H')/\∀x H',(Itr lo n).yld i H x H'->g x σ H' λσ2 H2=>b { D with nx:=N,ct:=N,bk:=D.nx } σ2 H2):=by
 refine⟨λi m σ H=>m=n-i/\i<=n/\a i σ H,⟨n,by simp,YX _,c⟩,?_⟩
 rintro i m σ H ⟨rfl,h,p⟩
 by_cases hlt:i<n
 ·refine .inr ⟨hlt,a (i+1),λσ' H' f=>⟨n-(i+1),by lia,rfl,hlt,f⟩,λx H' y=>?_⟩
  obtain⟨e,y⟩:=y
  subst e y
  exact d i σ _ hlt p
 ·have e:i=n:=by lia
  subst e
  exact .inl ⟨Yc _,hd σ H p⟩
abbrev R2:=V->V->Hp->VK->Prop
variable {r:R2}
def OpR (X:Cx)(f:Value->Value->Sem Value)(r:R2):Prop:=
 ∀ (pins:List (Addr×Obj))(s:Shared)(σ:St)(H:Hp)(x y:V)(v u:Value)(Q:VK),Inv X pins σ H s->RelV x v->RelV y u->r x y H Q->
  wpAny (model X.prog X.w) X.A (f v u) (EP X pins σ Q) X.xe s
def UnR (X:Cx)(f:Value->Sem Value)(r:V->Hp->VK->Prop):Prop:=
 ∀ (pins:List (Addr×Obj))(s:Shared)(σ:St)(H:Hp)(x:V)(v:Value)(Q:VK),Inv X pins σ H s->RelV x v->r x H Q->
  wpAny (model X.prog X.w) X.A (f v) (EP X pins σ Q) X.xe s
def iH (X:Cx)(f:Value)(r:List V->Hp->VK->Prop):Prop:=
 ∀ (pins:List (Addr×Obj))(s:Shared)(σ:St)(H:Hp)(xs:List V)(us:List Value)(Q:VK),Inv X pins σ H s->Vals xs us->r xs H Q->
  wpAny (model X.prog X.w) X.A (call f us) (EP X pins σ Q) X.xe s
def tOp (r:R2)(b c:TE):TE:=λa H Q=>b a H λx d=>c a d λy e=>r x y e Q
def tUn (r:V->Hp->VK->Prop)(a:TE):TE:=λb H Q=>a b H λx c=>r x c Q
def rI (C:Int->Int->Prop)(g:Int->Int->V):R2:=λx y H Q=>∃i j,x= .int i/\y= .int j/\C i j/\Q (g i j) H
def rI0 (g:Int->Int->V):R2:=λx y H Q=>∃i j,x= .int i/\y= .int j/\Q (g i j) H
def rU (g:Int->V):V->Hp->VK->Prop:=λx H Q=>∃i,x= .int i/\Q (g i) H
section
variable {a b:Expr}{tc:TE}
theorem b6B (e:PE X a ta)(g:PE X b tb){c:List (Addr×Obj)}{s:Shared}{σ:St}{H:Hp}{R:V->V->Hp->Prop}(I:Inv X c σ H s)
  (h:ta σ H λx H1=>tb σ H1 λy H2=>R x y H2) {Q:Value->Shared->Prop} {f:Value->Value->Sem Value}
  (i:∀v u s2 x y H2,Inv X c σ H2 s2->RelV x v->RelV y u->R x y H2->wpAny (model X.prog X.w) X.A (f v u) Q X.xe s2) :
  wpAny (model X.prog X.w) X.A (eval a X.env) (λv s₁=>wpAny (model X.prog X.w) X.A (eval b X.env) (λu s₂=>wpAny (model X.prog X.w) X.A (f v u) Q X.xe s₂) X.xe s₁) X.xe s:=by
 refine thn (e c s σ H _ I h) λv j d=>?_
 obtain⟨x,H1,k,l,m⟩:=d
 refine thn (g c j σ H1 _ k m) λu s2 d=>?_
 obtain⟨y,H2,n,o,p⟩:=d
 exact i v u s2 x y H2 n l o p
def aV {op:Operator}(d:OpR X (binaryOp op) r)(e:PE X a ta)(f:PE X b tb):PE X (.BinOp a op b pos) (tOp r ta tb):=by
 intro c s g H Q I h
 exact wpAny_BinOp (b6B e f I h λv u i x y j k l m q=>d c i g j x y v u Q k l m q)
def a0N {op:UnaryOp}{r:V->Hp->VK->Prop}(d:UnR X (unaryOp op) r)(e:PE X a ta):PE X (.UnaryOp op a pos) (tUn r ta):=by
 intro b s c H Q I h
 exact UnaryOp_ (thn (e b s c H _ I h) λv f ⟨x,g,i,j,k⟩=>d b f c g x v Q i j k)
theorem opI {f:Value->Value->Sem Value}{C:Int->Int->Prop}{g:Int->Int->Int}
  (a:∀(i j:Int)(t u:Tok)(s:Shared)(Q:Value->Shared->Prop)(E:Value->Shared->Prop),C i j->Q (.int (g i j) s.toks) { s with toks:=s.toks+1 }->wpAny (model X.prog X.w) X.A (f (.int i t) (.int j u)) Q E s) :
  OpR X f (rI C λi j=> .int (g i j)):=by
 intro b s l H x y v u Q I c d h
 obtain⟨i,j,rfl,rfl,e,q⟩:=h
 obtain⟨t,rfl⟩:=c
 obtain⟨k,rfl⟩:=d
 exact a i j t k s _ _ e ⟨.int (g i j),H,I.tok _,⟨_,rfl⟩,q⟩
theorem b0N {f:Value->Value->Sem Value}{g:Int->Int->Int}
  (a:∀(i j:Int)(t u:Tok)(s:Shared)(Q:Value->Shared->Prop)(E:Value->Shared->Prop),Q (.int (g i j) s.toks) { s with toks:=s.toks+1 }->wpAny (model X.prog X.w) X.A (f (.int i t) (.int j u)) Q E s) :
  OpR X f (rI0 λi j=> .int (g i j)):=by
 intro b s k H x y v u Q I c d h
 obtain⟨i,j,rfl,rfl,q⟩:=h
 obtain⟨t,rfl⟩:=c
 obtain⟨e,rfl⟩:=d
 exact a i j t e s _ _ ⟨.int (g i j),H,I.tok _,⟨_,rfl⟩,q⟩
theorem b0O {f:Value->Value->Sem Value}{g:Int->Int->Bool}
  (a:∀(i j:Int)(t u:Tok)(s:Shared)(Q:Value->Shared->Prop)(E:Value->Shared->Prop),Q (.bool (g i j)) s->wpAny (model X.prog X.w) X.A (f (.int i t) (.int j u)) Q E s) :
  OpR X f (rI0 λi j=> .bl (g i j)):=by
 intro b s k H x y v u Q I c d h
 obtain⟨i,j,rfl,rfl,q⟩:=h
 obtain⟨t,rfl⟩:=c
 obtain⟨e,rfl⟩:=d
 exact a i j t e s _ _ ⟨.bl (g i j),H,I,rfl,q⟩
def b9C (i j:Int):Prop:=0<j/\j<1073741824
def xR (k:Nat):(0:Int)<=2 ^ k:=by
 rw[two_pow_cast]
 exact Int.natCast_nonneg _
def b4Q:OpR X (binaryOp .Add) (rI0 λi j=> .int (i+j)):=b0N λ_ _ _ _ _ _ _ q=>add_int q
def b4J:OpR X (binaryOp .Sub) (rI0 λi j=> .int (i-j)):=b0N λ_ _ _ _ _ _ _ q=>sub_int q
def b0M:OpR X (binaryOp .FloorDiv) (rI b9C λi j=> .int (i / j)):=opI λi j _ _ _ _ _ a q=>by
 have b:(0:Int)<j:=a.1
 have c:j<1073741824:=a.2
 exact floordiv_int (by lia) (by rw[Int.fdiv_eq_ediv_of_nonneg i (by lia)];exact q) (.inl (PyProof.noPylong_small (by lia)))
def b4M:OpR X (binaryOp .Mod) (rI (λ_ j=>0<j) λi j=> .int (i % j)):=opI λi j _ _ _ _ _ a q=>by
 have b:(0:Int)<j:=a
 exact mod_int' (by lia) (by rw[Int.fmod_eq_emod_of_nonneg i (by lia)];exact q)
def b4K:OpR X (binaryOp .RShift) (rI (λ_ j=>0<=j) λi j=> .int (i / 2 ^ j.toNat)):=opI λi j _ _ _ _ _ a q=>
 rshift_int a (by rw[Int.fdiv_eq_ediv_of_nonneg i (xR _)];exact q)
def b4P:OpR X (binaryOp .BitAnd) (rI0 λi j=> .int (Builtin.bitAnd i j)):=b0N λ_ _ _ _ _ _ _ q=>and_int q
def b4I:OpR X (binaryOp .BitXor) (rI0 λi j=> .int (Builtin.bitXor i j)):=b0N λ_ _ _ _ _ _ _ q=>xor_int q
theorem unI {f:Value->Sem Value}{g:Int->Int}
  (a:∀(i:Int)(t:Tok)(s:Shared)(Q:Value->Shared->Prop)(E:Value->Shared->Prop),Q (.int (g i) s.toks) { s with toks:=s.toks+1 }->wpAny (model X.prog X.w) X.A (f (.int i t)) Q E s) :
  UnR X f (rU λi=> .int (g i)):=by
 intro b s d H x v Q I c h
 obtain⟨i,rfl,q⟩:=h
 obtain⟨t,rfl⟩:=c
 exact a i t s _ _ ⟨.int (g i),H,I.tok _,⟨_,rfl⟩,q⟩
def b3F:UnR X (unaryOp .USub) (rU λi=> .int (-i)):=unI λ_ _ _ _ _ q=>neg_int q
end
def b3W:V->V->Bool
 |.non,.non=>true | .non,.int _=>true | .int _,.non=>true | .non,.bl _=>true | .bl _,.non=>true | .non,.str _=>true | .str _,.non=>true
 |.int _,.int _=>true | .bl _,.bl _=>true | .str _,.str _=>true | .byt _,.byt _=>true
 |.int _,.str _=>true | .str _,.int _=>true | .bl _,.str _=>true | .str _,.bl _=>true
 |_,_=>false
def rEq:R2:=λx y H Q=>b3W x y=true/\Q (.bl (decide (x=y))) H
def rNe:R2:=λx y H Q=>b3W x y=true/\Q (.bl (!decide (x=y))) H
def a1J {i j:Int}:decide (V.int i=V.int j)=(i == j):=by
 rw[XZ]
 simp
def a8B {i j:Bool}:decide (V.bl i=V.bl j)=(i == j):=by
 rw[XZ]
 simp
def a1I {i j:Str}:decide (V.str i=V.str j)=(i == j):=by
 rw[XZ]
 simp
def a1K {i j:Array UInt8}:decide (V.byt i=V.byt j)=(i.toList == j.toList):=by
 rw[XZ]
 cases i
 cases j
 simp
section
variable {a b:Expr}{tc:TE}
def bY {Q:VK}{k a:Bool}(I:Inv X pins σ H s)(q:Q (.bl k) H)(e:k=a):EP X pins σ Q (.bool a) s:=by
 subst e
 exact⟨.bl k,H,I,rfl,q⟩
def b7N:OpR X (compareOp .Eq) rEq:=by
 intro e s f H x y v u Q I d a h
 obtain⟨c,q⟩:=h
 cases x with
 | non=>
  cases d
  cases y with
  |non=>cases a;exact PySem.EqNone.eq_none_none (bY I q (by simp))
  |bl j=>cases a;exact PySem.EqNone.eq_none_bool (bY I q (by simp))
  |int j=>obtain⟨b,rfl⟩:=a;exact PySem.EqNone.eq_none_int (bY I q (by simp))
  |str j=>obtain⟨b,rfl⟩:=a;exact PySem.EqNone.eq_none_str (bY I q (by simp))
  |_=>exact absurd (show false=true from c) Yn
 | bl i=>
  cases d
  cases y with
  |non=>cases a;exact PySem.EqNone.eq_bool_none (bY I q (by simp))
  |bl j=>cases a;exact eq_bool (bY I q a8B)
  |str j=>obtain⟨b,rfl⟩:=a;exact PySem.EqMixed.eq_bool_str (bY I q (by simp))
  |_=>exact absurd (show false=true from c) Yn
 | int i=>
  obtain⟨t,rfl⟩:=d
  cases y with
  |non=>cases a;exact PySem.EqNone.eq_int_none (bY I q (by simp))
  |int j=>obtain⟨b,rfl⟩:=a;exact eq_int (bY I q a1J)
  |str j=>obtain⟨b,rfl⟩:=a;exact PySem.EqMixed.eq_int_str (bY I q (by simp))
  |_=>exact absurd (show false=true from c) Yn
 | str i=>
  obtain⟨t,rfl⟩:=d
  cases y with
  |non=>cases a;exact PySem.EqNone.eq_str_none (bY I q (by simp))
  |bl j=>cases a;exact PySem.EqMixed.eq_str_bool (bY I q (by simp))
  |int j=>obtain⟨b,rfl⟩:=a;exact PySem.EqMixed.eq_str_int (bY I q (by simp))
  |str j=>obtain⟨b,rfl⟩:=a;exact eq_str (bY I q a1I)
  |_=>exact absurd (show false=true from c) Yn
 | byt i=>
  obtain⟨t,rfl⟩:=d
  cases y with
  |byt j=>obtain⟨b,rfl⟩:=a;exact W.eq_bytes (bY I q a1K)
  |_=>exact absurd (show false=true from c) Yn
 |_=>cases y <;> exact absurd (show false=true from c) Yn
def b7I:OpR X (compareOp .NotEq) rNe:=by
 intro e s f H x y v u Q I d a h
 obtain⟨c,q⟩:=h
 cases x with
 | non=>
  cases d
  cases y with
  |non=>cases a;exact PySem.EqNone.ne_none_none (bY I q (by simp))
  |bl j=>cases a;exact PySem.EqNone.ne_none_bool (bY I q (by simp))
  |int j=>obtain⟨b,rfl⟩:=a;exact PySem.EqNone.ne_none_int (bY I q (by simp))
  |str j=>obtain⟨b,rfl⟩:=a;exact PySem.EqNone.ne_none_str (bY I q (by simp))
  |_=>exact absurd (show false=true from c) Yn
 | bl i=>
  cases d
  cases y with
  |non=>cases a;exact PySem.EqNone.ne_bool_none (bY I q (by simp))
  |bl j=>cases a;exact ne_bool (bY I q (YO not a8B))
  |str j=>obtain⟨b,rfl⟩:=a;exact PySem.EqMixed.ne_bool_str (bY I q (by simp))
  |_=>exact absurd (show false=true from c) Yn
 | int i=>
  obtain⟨t,rfl⟩:=d
  cases y with
  |non=>cases a;exact PySem.EqNone.ne_int_none (bY I q (by simp))
  |int j=>obtain⟨b,rfl⟩:=a;exact ne_int (bY I q (YO not a1J))
  |str j=>obtain⟨b,rfl⟩:=a;exact PySem.EqMixed.ne_int_str (bY I q (by simp))
  |_=>exact absurd (show false=true from c) Yn
 | str i=>
  obtain⟨t,rfl⟩:=d
  cases y with
  |non=>cases a;exact PySem.EqNone.ne_str_none (bY I q (by simp))
  |bl j=>cases a;exact PySem.EqMixed.ne_str_bool (bY I q (by simp))
  |int j=>obtain⟨b,rfl⟩:=a;exact PySem.EqMixed.ne_str_int (bY I q (by simp))
  |str j=>obtain⟨b,rfl⟩:=a;exact ne_str (bY I q (YO not a1I))
  |_=>exact absurd (show false=true from c) Yn
 | byt i=>
  obtain⟨t,rfl⟩:=d
  cases y with
  |byt j=>obtain⟨b,rfl⟩:=a;exact W.ne_bytes (bY I q (YO not a1K))
  |_=>exact absurd (show false=true from c) Yn
 |_=>cases y <;> exact absurd (show false=true from c) Yn
def b7J:OpR X (compareOp .Lt) (rI0 λi j=> .bl (decide (i<j))):=b0O λ_ _ _ _ _ _ _ q=>lt_int q
def b7K:OpR X (compareOp .LtE) (rI0 λi j=> .bl (decide (i<=j))):=b0O λ_ _ _ _ _ _ _ q=>le_int q
def b7L:OpR X (compareOp .Gt) (rI0 λi j=> .bl (decide (j<i))):=b0O λ_ _ _ _ _ _ _ q=>gt_int q
def b7M:OpR X (compareOp .GtE) (rI0 λi j=> .bl (decide (j<=i))):=b0O λ_ _ _ _ _ _ _ q=>ge_int q
def b4N:OpR X (compareOp .Is) (λx y H Q=>y= .non/\Q (.bl (decide (x= .non))) H):=by
 intro a s d H x y v u Q I b c h
 obtain⟨rfl,q⟩:=h
 cases c
 refine is_none_gen (bY I q ?_)
 cases x <;> first
  |(cases b;rfl)
  |(obtain⟨t,rfl⟩:=b;rfl)
def aU (b:Expr)(h:op≠ .In:=by decide)(a:op≠ .NotIn:=by decide):behindInMarks op b=false:=by
 have c:(op == CmpOp.In)=false:=by cases op <;> first | rfl | exact absurd rfl h
 have d:(op == CmpOp.NotIn)=false:=by cases op <;> first | rfl | exact absurd rfl a
 cases b <;> simp[behindInMarks,c,d]
def fM (d:OpR X (compareOp op) r)(e:PE X a ta)(f:PE X b tb)(g:behindInMarks op b=false):PE X (.Compare a [op] [b] pos) (tOp r ta tb):=by
 intro c s i H Q I h
 exact wpAny_Compare1 (b6B e f I h λv u j x y k l m n q=>d c j i k x y v u Q l m n q) g
def a0F (t:TE):TT:=λa H Q=>t a H λx b=>∃k,x= .bl k/\Q k b
def b0A (g:OpR X (compareOp op) r)(i:PE X a ta)(j:PE X b tb)(l:behindInMarks op b=false):PT X (.Compare a [op] [b] pos) (a0F (tOp r ta tb)):=by
 intro d s f H Q I h
 refine wpAny_isTrue_Compare1 (thn (i d s f H _ I h) λv m ⟨x,n,o,p,q⟩=>thn (j d m f n _ o q) λu t ⟨y,w,A,B,C⟩=>
  thn (g d t f w x y v u _ A p B C) λc J ⟨z,D,E,F,k,e,G⟩=>?_) l
 subst e
 cases F
 exact Xe ⟨D,E,G⟩
def tW (r c:R2)(d e tc:TE):TE:=λa H Q=>d a H λx f=>e a f λy g=>r x y g λz b=>∃k,z= .bl k/\
 (if k=true then tc a b λh i=>c y h i Q else Q (.bl false) b)
theorem a6P {op op':CmpOp}{r r':R2}(ho:OpR X (compareOp op) r)(ho':OpR X (compareOp op') r')(ha:PE X a ta)(hb:PE X b tb)(hc:PE X c tc)
  (hm:lastMarks [op,op'] [b,c]=false:=by with_unfolding_all rfl):PE X (.Compare a [op,op'] [b,c] pos) (tW r r' ta tb tc):=by
 intro f s g H Q I h
 refine Compare_chain (thn (ha f s g H _ I h) λv n ⟨x,o,p,q,t⟩=>chain_link (thn (hb f n g o _ p t) λu w ⟨y,A,B,i,C⟩=>
  thn (ho f w g A x y v u _ B q i C) λd D ⟨z,j,l,E,k,e,m⟩=>?_)) hm
 subst e
 cases E
 refine Xe ?_
 cases k with
 |false=>exact ite_ff ⟨.bl false,j,l,rfl,m⟩
 |true=>exact ite_tt (chain_last (thn (hc f D g j _ l m) λF G ⟨J,K,L,M,N⟩=>ho' f G g K y J u F Q L i M N))
theorem a6D {op op':CmpOp}{r r':R2}(ho:OpR X (compareOp op) r)(ho':OpR X (compareOp op') r')(ha:PE X a ta)(hb:PE X b tb)(hc:PE X c tc)
  (hm:lastMarks [op,op'] [b,c]=false:=by with_unfolding_all rfl):PT X (.Compare a [op,op'] [b,c] pos) (a0F (tW r r' ta tb tc)):=by
 intro f s g H Q I h
 refine isTrue_chain (thn (ha f s g H _ I h) λv n ⟨x,o,p,q,t⟩=>test_link (thn (hb f n g o _ p t) λu w ⟨y,A,B,i,C⟩=>
  thn (ho f w g A x y v u _ B q i C) λd D ⟨z,j,l,E,k,e,m⟩=>?_)) hm
 subst e
 cases E
 refine Xe ?_
 cases k with
 | false=>
  obtain⟨W,F,G⟩:=m
  cases F
  exact ite_ff ⟨j,l,G⟩
 | true=>
  refine ite_tt (test_last (thn (hc f D g j _ l m) λJ K ⟨L,M,N,O,P⟩=>thn (ho' f K g M y L u J _ N i O P) λY Z ⟨z2,R,S,T,k2,U,V⟩=>?_))
  subst U
  cases T
  exact Xe ⟨R,S,V⟩
def yP:(sizeLine:Nat)<2 ^ 63:=by rw[sizeLine_eq];decide
def vals1 {x:V}(r:Vals [x] us):∃u,us= [u]/\RelV x u:=by
 cases r with
 |cons r1 r2=>cases r2;exact⟨_,rfl,r1⟩
def vals2 {x y:V}(r:Vals [x,y] us):∃u w',us= [u,w']/\RelV x u/\RelV y w':=by
 cases r with
 | cons r1 r2=>
  cases r2 with
  |cons r3 r4=>cases r4;exact⟨_,_,rfl,r1,r3⟩
def a3N (b:X.calm=true):iH X (.builtin "max") (λxs H Q=>∃i j,xs= [.int i,.int j]/\Q (.int (if j > i then j else i)) H):=by
 intro a s c H xs d Q I r h
 obtain⟨i,j,rfl,q⟩:=h
 obtain⟨u,e,rfl,⟨t,rfl⟩,⟨f,rfl⟩⟩:=vals2 r
 refine max_two_ints (I.ok.hd b) λg l k=>⟨_,H,I.kept k,?_,q⟩
 by_cases hj:j > i
 ·rw[if_pos hj,if_pos hj];exact⟨_,rfl⟩
 ·rw[if_neg hj,if_neg hj];exact⟨_,rfl⟩
end
structure zQ (h:Heap)(x dx C:Addr)(mA:Str->Option Value):Prop where
 obj:h.get? x=some (W.instObj C dx)
 ns:h.Ns1 dx mA
 ne:dx≠x
def a2Z (n:h.Ns1 dx mA):∃od,h.get? dx=some od/\∀name,W.lookIn name od=some (mA name):=by
 obtain⟨o,c,k,d,hd,f,_,g⟩:=n
 refine⟨o,d,λname=>?_⟩
 have e:=g name
 unfold nsFind findBy at e
 rw[<-Array.find?_toList]at e
 unfold W.lookIn
 rw[hd]
 dsimp only
 split
 ·rename_i y q
  rw[q]at e
  exact YO some e
 ·rename_i q
  rw[q]at e
  have a:c.toList.any (·.refKey)=false:=by
   rw[List.any_eq_false]
   intro y i
   obtain⟨z,t,b⟩:=f y (Array.mem_toList_iff.mp i)
   simp[DictEntry.refKey,b]
  have j:¬ c.toList.any (·.refKey)=true:=by rw[a];exact Yn
  rw[if_neg j]
  exact YO some e
def zQ.look {x:Addr}(I:zQ h x dx C mA):∃od,W.InstAt h x (W.instObj C dx) C (some od)/\∀name,W.lookIn name od=some (mA name):=
 let ⟨od,ho,hl⟩:=a2Z I.ns
 ⟨od,⟨I.obj,rfl,rfl,ho⟩,hl⟩
section
variable {prog:Program}{x:Addr}{name:Str}
theorem b1G {a:Bool}{Q:Value->Shared->Prop}(X:K.In s.heap)(I:zQ s.heap x dx C mA)(c:W.plainGet K C name=true)(d:W.hasDictIn K C=true)
  (e:W.findIn K (.ref C) name=some none) (f:mA name=some v) (b:W.handedIn v=true) (h:Q v { s with toks:=s.toks+1 }) :
  wpAny (model prog w) A (getAttr (.ref x) name a) Q E s:=by
 obtain⟨i,J,g⟩:=I.look
 exact W.get_value X J (W.plainGet_of c).1 (W.findObj_own d e rfl (by rw[g,f])) b h
theorem a7S {pl:Sem Bool}{Q:Value×List Value->Shared->Prop}(X:K.In s.heap)(I:zQ s.heap x dx C mA)(a:W.plainGet K C name=true)
  (b:W.findIn K (.ref C) name=some (some (.ref f))) (c:W.isFn K (.ref f)=true) (d:mA name=none) (h:Q (.ref f, [.ref x]) s) :
  wpAny (model prog w) A (getMethod (.ref x) name pl) Q E s:=by
 obtain⟨e,J,g⟩:=I.look
 exact W.method_fn X J (W.plainGet_of a).1 (W.plainGet_of a).2 b (XV.mp c) (by show (W.lookIn name e).map (·.isSome)=some false;rw[g,d];rfl) h
theorem a9S {ns:List Str}{Q:Unit->Shared->Prop}(X:K.In s.heap)(I:zQ s.heap x dx C mA)
  (i:W.findIn K (.ref C) "__setattr__"=some (some (.builtin "object.__setattr__"))) (j:W.plainOver K C=true) (k:W.takerIn K C name=some none) (l:W.hasDictIn K C=true)
  (m:PySem.Within mA ns) (hsz:ns.length<=sizeLine)
  (h:∀h',zQ h' x dx C (λy=>if y=name then some v else mA y)->Heap.SameBut dx s.heap h'->Q () { s with heap:=h',toks:=s.toks+2 }) :
  wpAny (model prog w) A (setAttr (.ref x) name v) Q E s:=by
 obtain⟨t,J,u⟩:=I.look
 refine W.set_plain X J i (W.osa_open (s:={ s with toks:=s.toks+1 }) (r:=none) X J j k λb=>?_)
 obtain⟨z,n,e⟩:=W.any_some l
 have o:s.heap.get? x=some ⟨.ref C,some dx,.plain, #[]⟩:=I.obj
 refine Y4 (Xf (Y4 (Y4 (wpAny_loadPart o (Y4 (W.Looks.here (s:={ s with toks:=s.toks+1 }) (W.looks_clsIn X n) ?_))))))
 rw[e]
 refine Xf (a:=some dx) (Y4 (Xf (Y4 ?_)))
 refine wpAny_nsSet1 (s:={ s with toks:=s.toks+1 }) I.ns λh' c d=>?_
 obtain⟨B,p,q,f,hdD,g⟩:=c.count (PySem.Within.cons name v m)
 refine Y4 (wpAny_lookBehind f (by rw[hdD];exact pastItsLine_dict (YY g (by rw[YM];lia))) ?_)
 exact Xf (h _ ⟨(d.2 _ (Va I.ne)).trans I.obj,c,I.ne⟩ d)
theorem a7F {R:Result->Shared->Prop}{vs:List Value}{a:List (Str×Value)}(X:K.In s.heap)(b:W.makesIn K C=true)
  (c:W.findIn K (.ref C) "__init__"=some (some (.ref f))) (e:W.typeIn K (.ref f)=some (.type "function"))
  (h :codeAny (model prog w) (A.under (.builtin "type.__call__" ⟨.ref C::vs,a⟩)) (.call (.ref f) ⟨.ref (s.heap.objs.size+1)::vs,a⟩) (W.InitBack (s.heap.objs.size+1) R)
   { s with heap:=(s.heap.push W.emptyDict).push (W.instObj C s.heap.objs.size) }) :
  codeAny (model prog w) A (.call (.ref C) ⟨vs,a⟩) R s:=by
 obtain⟨i,g,d,t,j⟩:=s
 exact W.make_core (W.makes_of X b) (W.looks_findIn X c) (λself=>W.bind_fn X self e) (.inl rfl) h
theorem a2W {R:Result->Shared->Prop}(X:K.In s.heap)(a:W.makesIn K C=true)
  (b:W.findIn K (.ref C) "__init__"=some (some (.builtin "object.__init__")))
  (c:∀self,W.Looks (model prog w) s.heap (bindSpecial (.builtin "object.__init__") self) (.builtin "object.__init__", [self]))
  (h :codeAny (model prog w) (A.under (.builtin "type.__call__" ⟨[.ref C], []⟩)) (.call (.builtin "object.__init__") ⟨[.ref (s.heap.objs.size+1)], []⟩) (W.InitBack (s.heap.objs.size+1) R)
   { s with heap:=(s.heap.push W.emptyDict).push (W.instObj C s.heap.objs.size) }) :
  codeAny (model prog w) A (.call (.ref C) ⟨[], []⟩) R s:=by
 obtain⟨e,g,d,t,f⟩:=s
 exact W.make_core (W.makes_of X a) (W.looks_findIn X b) c (.inr ⟨rfl,rfl⟩) h
end
def fJ (f:Str)(v:V):List (Str×V)->List (Str×V)
 |[]=>[(f,v)]
 |(g,x)::r=>if g=f then (g,v)::r else (g,x)::fJ f v r
theorem oW (f g:Str)(v:V):∀fs:List (Str×V),(fJ f v fs).lookup g=if g=f then some v else fs.lookup g
 | [] =>by
  show List.lookup g [(f,v)]=_
  by_cases h:g=f
  ·have hb:(g == f)=true:=XV.mpr h
   simp only[List.lookup,hb,if_pos h]
  ·have hb:(g == f)=false:=Y5.mpr h
   simp only[List.lookup,hb,if_neg h]
 | (k, x)::r=>by
  have ih:=oW f g v r
  rw[show fJ f v ((k,x)::r)=(if k=f then (k,v)::r else (k,x)::fJ f v r) from rfl]
  by_cases hk:k=f
  ·rw [if_pos hk]
   by_cases h:g=k
   ·have hb:(g == k)=true:=XV.mpr h
    simp only[List.lookup,hb,if_pos (h.trans hk)]
   ·have hb:(g == k)=false:=Y5.mpr h
    simp only[List.lookup,hb,if_neg (λe:g=f=>h (e.trans hk.symm))]
  ·rw [if_neg hk]
   by_cases h:g=k
   ·have hb:(g == k)=true:=XV.mpr h
    simp only[List.lookup,hb,if_neg (λe:g=f=>hk (h.symm.trans e))]
   ·have hb:(g == k)=false:=Y5.mpr h
    simp only[List.lookup,hb]
    exact ih
theorem oM (f:Str)(v:V):∀fs:List (Str×V),f∈(fJ f v fs).map (·.1)/\∀g,g∈fs.map (·.1)->g∈(fJ f v fs).map (·.1)
 |[]=>⟨by simp[fJ],λg h=>by simp at h⟩
 | (k, x)::r=>by
  obtain⟨i1,i2⟩:=oM f v r
  rw[show fJ f v ((k,x)::r)=(if k=f then (k,v)::r else (k,x)::fJ f v r) from rfl]
  by_cases hk:k=f
  ·rw[if_pos hk]
   subst hk
   exact⟨by simp,λg h=>by simpa using h⟩
  ·rw [if_neg hk]
   refine⟨?_,λg h=>?_⟩
   ·rw[YE]
    exact Yw _ i1
   ·rw[YE]at h ⊢
    rcases YI.mp h with e | e
    ·exact YI.mpr (.inl e)
    ·exact Yw _ (i2 g e)
theorem oY (f:Str)(v:V):∀fs:List (Str×V),(fJ f v fs).length<=fs.length+1
 |[]=>by simp[fJ]
 | (k,x)::r=>by
  have ih:=oY f v r
  rw[show fJ f v ((k,x)::r)=(if k=f then (k,v)::r else (k,x)::fJ f v r) from rfl]
  by_cases hk:k=f
  ·rw[if_pos hk,YM,YM];lia
  ·rw[if_neg hk,YM,YM];lia
def lZ.some_of {v:V}{o:Option Value}(r:lZ (some v) o):∃u,o=some u/\RelV v u:=by
 cases o with
 |none=>exact(show False from r).elim
 |some u=>exact⟨u,rfl,r⟩
def lZ.none_of {o:Option Value}(r:lZ none o):o=none:=by
 cases o with
 |none=>rfl
 |some u=>exact(show False from r).elim
def a3H {v:V}(r:RelV v u):W.handedIn u=true:=by
 cases v with
 |non=>cases (show u=Value.none from r);rfl
 |bl b=>cases (show u=Value.bool b from r);rfl
 |int i=>obtain⟨t,e⟩:=(show ∃t,u=Value.int i t from r);cases e;rfl
 |str x=>obtain⟨t,e⟩:=(show ∃t,u=Value.str x t from r);cases e;rfl
 |byt b=>obtain⟨t,e⟩:=(show ∃t,u=Value.bytes b t from r);cases e;rfl
 |flt b=>obtain⟨t,e⟩:=(show ∃t,u=Value.float b t from r);cases e;rfl
 |ref a=>cases (show u=Value.ref a from r);rfl
 |ty n=>cases (show u=Value.type n from r);rfl
section
variable {fs fs':List (Str×V)}
def uI (b:HOk P w H h)(e:H a=some (.ins C dx fs)):∃mA,zQ h a dx C mA/\(∀f,lZ (fs.lookup f) (mA f))/\PySem.Within mA (fs.map (·.1))/\fs.length<=1000/\H dx=some (.own a):=by
 obtain⟨d,z,ne,c,mA,n,r,q⟩:=(show fG P w H h a (.ins C dx fs) from b a _ e)
 exact⟨mA,⟨c,n,ne⟩,r,q,z,d⟩
end
structure Cls (K:W.Frag)(C:Addr):Prop where
 pg:W.plainGet K C Str.empty=true
 hd:W.hasDictIn K C=true
 po:W.plainOver K C=true
 sa:W.findIn K (.ref C) "__setattr__"=some (some (.builtin "object.__setattr__"))
def Cls.get (c:Cls K C)(f:Str):W.plainGet K C f=true:=c.pg
def bF (K:W.Frag)(C:Addr)(f:Str):Prop:=W.findIn K (.ref C) f=some none
def bF.taker {f:Str}(n:bF K C f):W.takerIn K C f=some none:=by
 unfold W.takerIn
 rw[show W.findIn K (.ref C) f=some none from n]
 rfl
structure Meth (K:W.Frag)(C:Addr)(m:Str)(f:Addr):Prop where
 at_:W.findIn K (.ref C) m=some (some (.ref f))
 fn:W.isFn K (.ref f)=true
 kp:W.keepIn K (.ref f)=true
section
variable {fs:List (Str×V)}{f:Str}{v:V}
theorem yZ {b:Bool}{Q:Value->Shared->Prop}(I:Inv X pins σ H s)(e:H a=some (.ins C dx fs))(c:Cls X.K C)(n:bF X.K C f)(l:fs.lookup f=some v)
  (h:∀u s',Inv X pins σ H s'->RelV v u->Q u s'):wpAny (model X.prog X.w) A (getAttr (.ref a) f b) Q E s:=by
 obtain⟨g,O,r,_,_,_⟩:=uI I.hok e
 obtain⟨u,i,d⟩:=lZ.some_of (v:=v) (o:=g f) (by rw[<-l];exact r f)
 exact b1G I.kIn O (c.get f) c.hd n i (a3H d) (h u _ (I.tok _) d)
theorem eV {m:Str}{g:Addr}{pl:Sem Bool}{Q:Value×List Value->Shared->Prop}(I:Inv X pins σ H s)(e:H a=some (.ins C dx fs))(c:Cls X.K C)(k:Meth X.K C m g)(l:fs.lookup m=none)
  (h:Q (.ref g, [.ref a]) s):wpAny (model X.prog X.w) A (getMethod (.ref a) m pl) Q E s:=by
 obtain⟨b,O,r,_,_,_⟩:=uI I.hok e
 have d:b m=none:=lZ.none_of (by rw[<-l];exact r m)
 exact a7S I.kIn O (c.get m) k.at_ k.fn d h
theorem yJ {y:V}{u:Value}{Q:Unit->Shared->Prop}(I:Inv X pins σ H s)(e:H a=some (.ins C dx fs))(c:Cls X.K C)(n:bF X.K C f)(D:fs.length<1000)(l:RelV y u)
  (h:∀s',Inv X pins σ (upd H a (.ins C dx (fJ f y fs))) s'->Q () s'):wpAny (model X.prog X.w) A (setAttr (.ref a) f u) Q E s:=by
 obtain⟨i,O,r,j,_,k⟩:=uI I.hok e
 have m:(fs.map (·.1)).length<=sizeLine:=by rw[Ya,sizeLine_eq];lia
 refine a9S I.kIn O c.sa c.po n.taker c.hd j m λp d t=>h _ ?_
 have hd:∃o,p.get? dx=some o:=let ⟨o,_,_,e',_⟩:=d.ns;⟨o,e'⟩
 refine I.write (x:=a) (e:=dx) (by rw[e];exact True.intro) (.inr k) (λb q v z=>(t.2 b v).trans z) hd ?_
 refine⟨by rw[aH O.ne];exact k,?_,O.ne,d.obj,_,d.ns,λg=>?_,λg B=>?_⟩
 ·have:=oY f y fs;lia
 ·show lZ ((fJ f y fs).lookup g) (if g=f then some u else i g)
  rw[oW]
  by_cases q:g=f
  ·rw[if_pos q,if_pos q];exact l
  ·rw[if_neg q,if_neg q];exact r g
 ·by_cases q:g=f
  ·rw[q];exact(oM f y fs).1
  ·refine(oM f y fs).2 g (j g λz=>B ?_)
   show (if g=f then some u else i g)=none
   rw[if_neg q];exact z
def Inv.made (I:Inv X pins σ H s):Inv X pins σ (upd (upd H s.heap.objs.size (.own (s.heap.objs.size+1))) (s.heap.objs.size+1) (.ins C s.heap.objs.size []))
  { s with heap:=(s.heap.push W.emptyDict).push (W.instObj C s.heap.objs.size) }:=by
 have c:(s.heap.push W.emptyDict).get? s.heap.objs.size=some W.emptyDict:=Yz s.heap rfl
 have d:((s.heap.push W.emptyDict).push (W.instObj C s.heap.objs.size)).get? (s.heap.objs.size+1)=some (W.instObj C s.heap.objs.size):=by
  have:=Yz (s.heap.push W.emptyDict) (o:=W.instObj C s.heap.objs.size) rfl
  rwa [Heap.size_push]at this
 have f:(s.heap.push W.emptyDict).Ns s.heap.objs.size (λ_=>none):=⟨W.emptyDict, #[],_,c,rfl,(λe g=>absurd g (by simp)),λ_=>rfl⟩
 have h:=I.laid (a:=s.heap.objs.size) (o:= .own (s.heap.objs.size+1)) (h':=s.heap.push W.emptyDict) (t':=s.toks) (λb u q=>Ym _ q) (Yc _) ⟨_,c⟩
 refine h.laid (a:=s.heap.objs.size+1) (o:= .ins C s.heap.objs.size []) (t':=s.toks) (λb u q=>Ym _ q) (Nat.le_of_eq (Heap.size_push _ _)) ?_
 have ne:s.heap.objs.size≠s.heap.objs.size+1:=YA (Xo _)
 refine⟨by rw[aH ne,aB],YX _,ne,d,λ_=>none,(Heap.Ns1.of_empty f).at λo q=>Ym _ q,λ_=>True.intro,λy i=>absurd rfl i⟩
theorem b1S {prog:Program}{w:World}{env:Env}{e:Expr}{f:Str}{a:Pos}{s:Shared}{Q:Value->Shared->Prop}(b:attributeBase e f env (eval e env)=eval e env)
  (h:wpAny (model prog w) A (eval e env) (λo s₁=>wpAny (model prog w) A (getAttr o f true) Q E s₁) E s):wpAny (model prog w) A (eval (.Attribute e f a) env) Q E s:=
 Attribute_any_ h (by rw[arm_eval_Attribute,b])
end
def b9O (K:W.Frag)(c:TE)(f:Str):TE:=λd H Q=>c d H λx b=>∃a C dx fs v,x= .ref a/\b a=some (.ins C dx fs)/\Cls K C/\bF K C f/\fs.lookup f=some v/\Q v b
def b9U (K:W.Frag)(d e:TE)(f:Str):TS:=λD b H=>e b H λy g=>d b g λx c=>∃a C dx fs,x= .ref a/\c a=some (.ins C dx fs)/\Cls K C/\bF K C f/\fs.length<1000/\
 D.nx b (upd c a (.ins C dx (fJ f y fs)))
section
variable {o value:Expr}{f:Str}{pos' tpos:Pos}{tv:TE}
def a6M (g:PE X e ta)(i:attributeBase e f X.env (eval e X.env)=eval e X.env):PE X (.Attribute e f pos) (b9O X.K ta f):=by
 intro b s j H Q I h
 refine b1S i (thn (g b s j H _ I h) λu w d=>?_)
 obtain⟨x,k,m,o,a,C,y,fs,v,ex,p,c,n,l,q⟩:=d
 subst ex
 obtain rfl:u=Value.ref a:=o
 exact yZ m p c n l λz A r t=>⟨v,k,r,t,q⟩
def a6F (e:PE X o ta)(g:PE X value tv)(i:swapsWith value (some (.Attribute o f pos')) pos.line X.env=pure false):PS X (.Assign [.Attribute o f pos'] value pos) (b9U X.K ta tv f):=by
 intro b s d H D I h
 refine plainObj_wpAny_Assign_Attribute (thn (g b s d H _ I h) λu j ⟨y,k,m,p,q⟩=>thn (e b j d k _ m q) λr B ⟨x,E,t,v,a,C,F,fs,ex,w,c,n,l,z⟩=>?_) i
 subst ex
 obtain rfl:r=Value.ref a:=v
 exact yJ t w c n l p λG A=>⟨d,_,A,z⟩
theorem b2O {pl:Sem Bool}{m:Str}{d:Pos}{b:List Expr}{i:List (Addr×Obj)}{s:Shared}{σ:St}{H:Hp}{Q:Value->Shared->Prop}{n:TE}(p:PE X e n)(I:Inv X i σ H s)
  (h :n σ H λx H1=>∃a C dx fs g,x= .ref a/\H1 a=some (.ins C dx fs)/\Cls X.K C/\Meth X.K C m g/\fs.lookup m=none/\
   ∀s1,Inv X i σ H1 s1->wpAny (model X.prog X.w) X.A (callWith pos (.ref g) [.ref a] (backTo pos (starEach b X.env)) (backToKw pos (keywordEach [] X.env))) Q X.xe s1)
  (r:eval (.Call (.Attribute e m d) b [] pos) X.env=(do
   let ov<-eval e X.env
   standAt d.atName
   let (f,first)<-holding [ov] (getMethod ov m pl)
   callWith pos f first (backTo pos (starEach b X.env)) (backToKw pos (keywordEach [] X.env)))) :
  wpAny (model X.prog X.w) X.A (eval (.Call (.Attribute e m d) b [] pos) X.env) Q X.xe s:=by
 refine Xp (pl:=pl) (thn (p i s σ H _ I h) λu s1 j=>?_) r
 obtain⟨x,H1,o,t,a,C,dx,fs,g,ex,v,c,k,l,q⟩:=j
 subst ex
 obtain rfl:u=Value.ref a:=t
 exact eV o v c k l (q s1 o)
end
section
variable {Q:Value->Shared->Prop}{c:Value}{b:Bool}
end
structure cV (k:Nat)(A:Around):Prop where
 hd:A.handled=none
 dp:A.depth+3*k+5<recursionLimit
 un:A.units+16*k+200<cLine
def cV.mono (r:cV k A)(h:j<=k):cV j A:=⟨r.hd,by have:=r.dp;lia,by have:=r.un;lia⟩
def cV.deeper (r:cV (k+1) A)(env:Env):cV k (A.deeper env):=
 ⟨r.hd,by have:=r.dp;show A.depth+1+3*k+5<_;lia,by have:=r.un;show A.units+3+16*k+200<_;lia⟩
def yO {a:List (Str×Value)}:(A.under (.builtin "type.__call__" ⟨.ref C::us,a⟩)).depth=A.depth+1:=by
 first | rfl | simp[Around.under,Code.weight,Code.isCreation,Code.isGuard,Code.isCaller,Code.frames,Code.isFrame,guardIds]
def yN {a:List (Str×Value)}:(A.under (.builtin "type.__call__" ⟨.ref C::us,a⟩)).units=A.units+1:=by
 first | rfl | simp[Around.under,Code.cUnits,Code.frames,Code.isFrame]
def cV.make (r:cV (k+1) A)(C:Addr)(us:List Value)(a:List (Str×Value)):cV k (A.under (.builtin "type.__call__" ⟨.ref C::us,a⟩)):=
 ⟨r.hd,by have:=r.dp;rw[yO];lia,by have:=r.un;rw[yN];lia⟩
def cV.depth (r:cV k A):A.depth<recursionLimit:=by have:=r.dp;lia
def cV.units (r:cV k A):A.units+64<cLine:=by have:=r.un;lia
def xW:TA:=λ_ H Q=>Q [] H
def b6W (b:TE)(c:TA):TA:=λa H Q=>b a H λx d=>c a d λxs e=>Q (x::xs) e
def aC:PA X [] xW:=λ_ _ _ _ H Q I h=>Calls.spliced_nil ⟨[],H,I,.nil,h⟩
def aA (f:PE X e te)(g:PA X es t)(i:starEach (e::es) X.env=(false,eval e X.env)::starEach es X.env:=by rfl):PA X (e::es) (b6W te t):=by
 intro b a s d H Q I h
 rw[i]
 show wpAny _ _ (spliced ((false,eval e X.env)::backTo b (starEach es X.env))) _ _ s
 refine Calls.spliced_cons (thn (f a s d H _ I h) λu j c=>?_)
 obtain⟨x,k,l,m,n⟩:=c
 exact thn (g b a j d k _ l n) λv w ⟨xs,o,p,q,r⟩=>⟨x::xs,o,p,.cons m q,r⟩
def b9H (t:TA):TE:=λb H Q=>t b H λxs a=>xs.length<=sizeLine/\∀p,a p=none->Q (.ref p) (upd a p (.tup xs))
def b9L (t:TA):TE:=λb H Q=>t b H λxs a=>xs.length<=sizeLine/\∀p,a p=none->Q (.ref p) (upd a p (.lst xs))
def bO {x1}(h:PA X es t):PE X (.Tuple es x1 pos) (b9H t):=by
 intro a s g H Q I i
 refine wpAny_Tuple_spliced (thn (h pos a s g H _ I i) λj c ⟨xs,d,f,r,z,q⟩=>⟨by rw[<-r.length];exact z,?_⟩)
 have k:d c.heap.objs.size=none:=f.hok.fresh (Yc _)
 refine⟨.ref c.heap.objs.size,upd d c.heap.objs.size (.tup xs),f.laid (t':=c.toks) (λb u e=>Ym _ e) (Yc _) ?_,rfl,q _ k⟩
 exact⟨z,j,r,⟨_,Yz _ rfl,rfl,_,rfl⟩⟩
def cY (h:PA X es t):PE X (.List es pos) (b9L t):=by
 intro a s g H Q I i
 refine wpAny_List_spliced (thn (h pos a s g H _ I i) λj c ⟨xs,d,f,r,z,q⟩=>⟨by rw[<-r.length];exact z,?_⟩)
 have k:d c.heap.objs.size=none:=f.hok.fresh (Yc _)
 refine⟨.ref c.heap.objs.size,upd d c.heap.objs.size (.lst xs),f.laid (t':=c.toks) (λb u e=>Ym _ e) (Yc _) ?_,rfl,q _ k⟩
 exact⟨z,j,0,r,Yz _ rfl⟩
abbrev Sp:=List V->Hp->VK->XK->Prop
variable {sp:Sp}
abbrev CXT:=List Env->Hp->Shared->XK->Value->Shared->Prop
variable {CX:CXT}
structure rE (P:Program)(w:World)(K:W.Frag)(mg:Str->Option Value)(base:Heap)(A:Around)(outer:List Env)(s:Shared)(H:Hp):Prop where
 frames:A.frames=some outer
 mod:Mod K mg base
 bs:∀b o,base.get? b=some o->s.heap.get? b=some o/\H b=none
 bsz:base.objs.size<=s.heap.objs.size
 funs:s.heap.FunFrames base outer
 frf:∀b∈frs outer,H b=none
 hok:HOk P w H s.heap
 bare:AllBare s.gens
def CE (a:List Env)(P:Program)(w:World)(H:Hp)(s:Shared)(Q:VK)(u:Value)(b:Shared):Prop:=
 ∃v H',b.os=s.os/\AllBare b.gens/\Un (frs a) [] H H' s.heap b.heap/\HOk P w H' b.heap/\RelV v u/\Q v H'
def CR (CX:CXT)(outer:List Env)(P:Program)(w:World)(H:Hp)(s:Shared)(Q:VK)(E:XK)(r:Result)(s':Shared):Prop:=
 match r with
 |.ok (.ret u)=>CE outer P w H s Q u s'
 |.ok _=>False
 |.error e=>CX outer H s E e s'
structure gD (P:Program)(w:World)(K:W.Frag)(mg:Str->Option Value)(base:Heap)(CX:CXT)(k:Nat)(f:Addr)(fd:FuncData)(ps:List Str)(sp:Sp):Prop where
 len:∀vs H Q E,sp vs H Q E->vs.length=ps.length
 run:∀(A:Around)(outer:List Env)(s:Shared)(H:Hp)(args:Args)(us:List Value)(vs:List V)(Q:VK)(E:XK),cV k A->rE P w K mg base A outer s H->BindsTo s fd args (ps.zip us)->Vals vs us->sp vs H Q E->
  codeAny (model P w) A (.call (.ref f) args) (CR CX outer P w H s Q E) s
theorem gD.mono {mg:Str->Option Value}{base:Heap}(F:gD P w K mg base CX j f fd ps sp)(h:j<=k):
  gD P w K mg base CX k f fd ps sp:=⟨F.len,λA a s H b c d Q E e=>F.run A a s H b c d Q E (e.mono h)⟩
theorem rE.make {mg:Str->Option Value}{base:Heap}{a:List Env}(e:rE P w K mg base A a s H)(C:Addr)(us:List Value)(b:List (Str×Value)):
  rE P w K mg base (A.under (.builtin "type.__call__" ⟨.ref C::us,b⟩)) a s H:=⟨by first | exact e.frames | (simpa [Around.under,Code.envs,Code.isFrame,pushEnvs] using e.frames),e.mod,e.bs,e.bsz,e.funs,e.frf,e.hok,e.bare⟩
section
variable {s':Shared}
def Inv.env0 (I:Inv X pins σ H s):rE X.prog X.w X.K X.mg X.base X.A X.stack s H:=
 ⟨I.ok.frames,I.ok.mod,I.bs,YY I.ok.bsz I.sz,I.stack,I.stkFree,I.hok,I.bare⟩
def Inv.after {Q:VK}(I:Inv X pins σ H s)(h:CE X.stack X.prog X.w H s Q u s'):EP X pins σ Q u s':=by
 obtain⟨v,f,i,a,un,c,r,q⟩:=h
 obtain⟨j,g,d,t,e⟩:=s'
 obtain rfl:e=s.os:=i
 exact⟨v,f,I.call (h':=j) (g':=g) (d':=d) (t':=t) (ch:=[]) un c a (λb z=>absurd z (by simp)),r,q⟩
end
def b2G (sp:Sp)(dvs:List V)(E:XK)(t:TA):TE:=λa H Q=>t a H λb c=>sp (b++dvs) c Q E
def b2D (C:Addr)(m:Str)(sp:Sp)(dvs:List V)(E:XK)(d:TE)(t:TA):TE:=λb H Q=>d b H λx c=>∃a dx fs,x= .ref a/\c a=some (.ins C dx fs)/\fs.lookup m=none/\
 t b c λe f=>sp (x::(e++dvs)) f Q E
def b2E (C:Addr)(sp:Sp)(dvs:List V)(E:XK)(t:TA):TE:=λb H Q=>t b H λc a=>∀x dx,a x=none->a dx=none->dx≠x->
 sp (.ref x::(c++dvs)) (upd (upd a dx (.own x)) x (.ins C dx [])) (λv d=>v= .non/\Q (.ref x) d) E
def Binds (K:W.Frag)(b:FuncData)(a:List Str)(ds:List Value):Prop:=
 ∀(s:Shared)(us:List Value),K.In s.heap->(us++ds).length=a.length->BindsTo s b ⟨us, []⟩ (a.zip (us++ds))
def Binds.all (h:∀us:List Value,us.length=ps.length->bindArgs fd ⟨us, []⟩=pure (ps.zip us)):Binds K fd ps []:=λs us _ a=>by
 rw[YH]at a ⊢
 exact .of_eq (h us a)
def fK (CX:CXT)(X:Cx)(E:XK):Prop:=∀(pins:List (Addr×Obj))(σ:St)(H:Hp)(s:Shared)(e:Value)(s':Shared),Inv X pins σ H s->CX X.stack H s E e s'->X.xe e s'
section
variable {dvs:List V}{ds:List Value}{E:XK}{m:Str}{apos:Pos}{o:Expr}
theorem jU {pins:List (Addr×Obj)}{σ:St}{H:Hp}{s:Shared}{Q:VK}{us:List Value}{vs:List V}(F:gD X.prog X.w X.K X.mg X.base CX k f fd ps sp)(hr:cV k X.A)(hb:Binds X.K fd ps ds)(hd:Vals dvs ds)(hx:fK CX X E)
  (I:Inv X pins σ H s) (r:Vals vs us) (h:sp (vs++dvs) H Q E):wpAny (model X.prog X.w) X.A (call (.ref f) us) (EP X pins σ Q) X.xe s:=by
 have b:Vals (vs++dvs) (us++ds):=r.append hd
 have c:(us++ds).length=ps.length:=by rw[<-b.length];exact F.len _ _ _ _ h
 refine wpAny_call (Jb (F.run X.A X.stack s H ⟨us, []⟩ (us++ds) (vs++dvs) Q E hr I.env0 (hb s us I.kIn c) b h) λr d a=>?_)
 cases r with
 |error e=>exact hx pins σ H s e d I a
 | ok fl=>
  cases fl with
  |ret u=>exact I.after a
  |next=>exact False.elim a
  |brk=>exact False.elim a
  |cont=>exact False.elim a
theorem aQ (F:gD X.prog X.w X.K X.mg X.base CX k f fd ps sp)(g:cV k X.A)(i:Gl X x)(j:X.mg x=some (.ref f))(l:W.keepIn X.K (.ref f)=true)(m:Binds X.K fd ps ds)(hd:Vals dvs ds)(n:fK CX X E)
  (o:PA X (e::es) t) (b:(x == ("__debug__":Str))=false:=by decide) (u:starEach (e::es) X.env=(false,eval e X.env)::starEach es X.env:=by rfl) (c:(backTo pos (starEach es X.env)).any (·.1)=false:=by rfl) :
  PE X (.Call (.Name x p) (e::es) [] pos) (b2G sp dvs E t):=by
 intro a s v H Q I h
 refine Xk (lQ I i j ?_ b)
 refine XX (h₀:=X.base) I.ok.mod.kin l (thn (o pos a s v H _ I h) λy z ⟨B,C,d,r,q⟩=>⟨d.kIn,?_⟩) u c
 exact jU F g m hd n d r q
theorem wA (F:gD X.prog X.w X.K X.mg X.base CX k f fd ps sp)(c:cV k X.A)(d:Gl X x)(e:X.mg x=some (.ref f))(g:W.keepIn X.K (.ref f)=true)(i:Binds X.K fd ps ds)(hd:Vals dvs ds)(j:fK CX X E)
  (a:(x == ("__debug__":Str))=false:=by decide):PE X (.Call (.Name x p) [] [] pos) (b2G sp dvs E xW):=by
 intro b s l H Q I h
 refine Xk (lQ I d e ?_ a)
 exact X6 I.kIn g (jU (us:=[]) F c i hd j I .nil h)
theorem b0J {pl:Sem Bool}(y:PE X o ta)(c:Cls X.K C)(j:Meth X.K C m f)(F:gD X.prog X.w X.K X.mg X.base CX k f fd ps sp)(z:cV k X.A)(B:Binds X.K fd ps ds)(hd:Vals dvs ds)(D:fK CX X E)(G:PA X (e::es) t)
  (d:starEach (e::es) X.env=(false,eval e X.env)::starEach es X.env:=by rfl) (g:(backTo pos (starEach es X.env)).any (·.1)=false:=by rfl)
  (J:eval (.Call (.Attribute o m apos) (e::es) [] pos) X.env=(do
   let ov<-eval o X.env
   standAt apos.atName
   let (f,first)<-holding [ov] (getMethod ov m pl)
   callWith pos f first (backTo pos (starEach (e::es) X.env)) (backToKw pos (keywordEach [] X.env))):=by rfl) :
  PE X (.Call (.Attribute o m apos) (e::es) [] pos) (b2D C m sp dvs E ta t):=by
 intro b s n H Q I h
 refine Xp (pl:=pl) (thn (y b s n H _ I h) λu L i=>?_) J
 obtain⟨x,M,p,N,a,R,fs,ex,O,l,q⟩:=i
 subst ex
 obtain rfl:u=Value.ref a:=N
 refine eV p O c j l ?_
 refine XX (first:=[.ref a]) (h₀:=X.base) I.ok.mod.kin j.kp (thn (G pos b L n M _ p q) λus S ⟨vs,T,v,r,P⟩=>⟨v.kIn,?_⟩) d g
 exact jU (us:= .ref a::us) (vs:= .ref a::vs) F z B hd D v (.cons rfl r) P
theorem a6K {pl:Sem Bool}(i:PE X o ta)(c:Cls X.K C)(g:Meth X.K C m f)(F:gD X.prog X.w X.K X.mg X.base CX k f fd ps sp)(j:cV k X.A)(n:Binds X.K fd ps ds)(hd:Vals dvs ds)(p:fK CX X E)
  (r:eval (.Call (.Attribute o m apos) [] [] pos) X.env=(do
   let ov<-eval o X.env
   standAt apos.atName
   let (f,first)<-holding [ov] (getMethod ov m pl)
   callWith pos f first (backTo pos (starEach [] X.env)) (backToKw pos (keywordEach [] X.env))):=by rfl) :
  PE X (.Call (.Attribute o m apos) [] [] pos) (b2D C m sp dvs E ta xW):=by
 intro b s t H Q I h
 refine Xp (pl:=pl) (thn (i b s t H _ I h) λu z d=>?_) r
 obtain⟨x,B,e,v,a,D,fs,ex,y,l,q⟩:=d
 subst ex
 obtain rfl:u=Value.ref a:=v
 refine eV e y c g l ?_
 exact X6 (first:=[.ref a]) e.kIn g.kp (jU (us:=[.ref a]) (vs:=[.ref a]) F j n hd p e (.cons rfl .nil) q)
structure Mk (K:W.Frag)(C f:Addr):Prop where
 makes:W.makesIn K C=true
 init:W.findIn K (.ref C) "__init__"=some (some (.ref f))
 fn:W.isFn K (.ref f)=true
 kp:W.keepIn K (.ref C)=true
theorem vU {pins:List (Addr×Obj)}{σ:St}{H:Hp}{s:Shared}{Q:VK}{us:List Value}{vs:List V}(M:Mk X.K C f)(F:gD X.prog X.w X.K X.mg X.base CX k f fd ps sp)(hr:cV (k+1) X.A)(hb:Binds X.K fd ps ds)(hd:Vals dvs ds)
  (hx:fK CX X E) (I:Inv X pins σ H s) (r:Vals vs us)
  (h:∀x dx,H x=none->H dx=none->dx≠x->sp (.ref x::(vs++dvs)) (upd (upd H dx (.own x)) x (.ins C dx [])) (λv H2=>v= .non/\Q (.ref x) H2) E) :
  wpAny (model X.prog X.w) X.A (call (.ref C) us) (EP X pins σ Q) X.xe s:=by
 have c:=h (s.heap.objs.size+1) s.heap.objs.size (I.hok.fresh (XE _)) (I.hok.fresh (Yc _)) (YA (Xo _))
 have b:=Inv.made (C:=C) I
 have d:Vals (V.ref (s.heap.objs.size+1)::(vs++dvs)) (Value.ref (s.heap.objs.size+1)::(us++ds)):= .cons rfl (r.append hd)
 have g:(Value.ref (s.heap.objs.size+1)::us++ds).length=ps.length:=by
  have e:=d.length
  rw[F.len _ _ _ _ c]at e
  exact e.symm
 refine wpAny_call (a7F (f:=f) I.kIn M.makes M.init (XV.mp M.fn) (Jb (F.run _ X.stack _ _ ⟨Value.ref (s.heap.objs.size+1)::us, []⟩ (Value.ref (s.heap.objs.size+1)::(us++ds)) _ _ E (hr.make C us [])
  (b.env0.make C us []) (hb _ (Value.ref (s.heap.objs.size+1)::us) b.kIn g) d c) λr i a=>?_))
 cases r with
 |error e=>exact hx pins σ _ _ e i b a
 | ok fl=>
  cases fl with
  | ret u=>
   obtain⟨v,j,l,m,n,o⟩:=b.after a
   subst n
   exact⟨m,⟨V.ref (s.heap.objs.size+1),j,l,rfl,o⟩⟩
  |next=>exact False.elim a
  |brk=>exact False.elim a
  |cont=>exact False.elim a
theorem cF (M:Mk X.K C f)(F:gD X.prog X.w X.K X.mg X.base CX k f fd ps sp)(g:cV (k+1) X.A)(i:Gl X x)(j:X.mg x=some (.ref C))(l:Binds X.K fd ps ds)(hd:Vals dvs ds)(m:fK CX X E)
  (n:PA X (e::es) t) (b:(x == ("__debug__":Str))=false:=by decide) (o:starEach (e::es) X.env=(false,eval e X.env)::starEach es X.env:=by rfl) (c:(backTo pos (starEach es X.env)).any (·.1)=false:=by rfl) :
  PE X (.Call (.Name x p) (e::es) [] pos) (b2E C sp dvs E t):=by
 intro a s u H Q I h
 refine Xk (lQ I i j ?_ b)
 refine XX (h₀:=X.base) I.ok.mod.kin M.kp (thn (n pos a s u H _ I h) λv y ⟨z,B,d,r,q⟩=>⟨d.kIn,?_⟩) o c
 exact vU M F g l hd m d r q
theorem mW (M:Mk X.K C f)(F:gD X.prog X.w X.K X.mg X.base CX k f fd ps sp)(c:cV (k+1) X.A)(d:Gl X x)(e:X.mg x=some (.ref C))(g:Binds X.K fd ps ds)(hd:Vals dvs ds)(i:fK CX X E)
  (a:(x == ("__debug__":Str))=false:=by decide):PE X (.Call (.Name x p) [] [] pos) (b2E C sp dvs E xW):=by
 intro b s j H Q I h
 refine Xk (lQ I d e ?_ a)
 exact X6 I.kIn M.kp (vU (us:=[]) M F c g hd i I .nil h)
end
section
variable {ks:List Str}{E:XK}{m:Str}{apos kpos:Pos}{o:Expr}{kws:List Keyword}{tk:TA}{nm:Option Str}{g:List Value->List Value->List Value}{gV:List V->List V->List V}
end
structure iM (N P:List Str)(sc:Scope):Prop where
 kind:sc.kind= .function
 co:sc.isCoroutine=false
 gen:sc.isGenerator=false
 nd:N.Nodup
 pre:N.take P.length=P
 par:∀x∈P,sc.names.lookup x=some .local\/sc.names.lookup x=some .cell
 nofree:∀y∈sc.names,y.2≠ .free
theorem tH:∀{binds:List (Str×Value)}{m:Str->Option Value},(∀v,(x,v)∉binds)->bindL kindOf binds m x=m x
 |[],_,_=>rfl
 | (n,v)::r,m,h=>by
  unfold bindL
  rw[tH λw hw=>h w (Yw _ hw)]
  split
  ·have:x≠n:=by rintro rfl;exact h v Yy
   simp[this]
  ·rfl
theorem tL:∀{binds:List (Str×Value)}{m:Str->Option Value},(∀v,(x,v)∉binds)->bindC kindOf binds m x=m x
 |[],_,_=>rfl
 | (n,v)::r,m,h=>by
  unfold bindC
  rw[tL λw hw=>h w (Yw _ hw)]
  split
  ·rfl
  ·have:x≠n:=by rintro rfl;exact h v Yy
   simp[this]
theorem tK:∀{P:List Str}{vs:List Value}{i:Nat}{m:Str->Option Value},P.Nodup->P[i]? =some x->vs[i]? =some v->kindOf x=some .local->
  bindL kindOf (P.zip vs) m x=some v
 |[],_,_,_,_,h,_,_=>by simp at h
 |_::_, [],_,_,_,_,h,_=>by simp at h
 | p::P,w::vs,0,m,nd,h1,h2,hk=>by
  simp at h1 h2;subst h1;subst h2
  show bindL kindOf ((p,w)::P.zip vs) m p=_
  unfold bindL
  rw[tH λv hv=>(Xd.mp nd).1 (X0 hv).1,if_pos hk]
  simp
 | p::P,w::vs,i+1,m,nd,h1,h2,hk=>by
  show bindL kindOf ((p,w)::P.zip vs) m x=_
  unfold bindL
  exact tK (i:=i) (Xd.mp nd).2 (by simpa using h1) (by simpa using h2) hk
theorem tM:∀{P:List Str}{vs:List Value}{i:Nat}{m:Str->Option Value},P.Nodup->P[i]? =some x->vs[i]? =some v->kindOf x≠some .local->
  bindC kindOf (P.zip vs) m x=some v
 |[],_,_,_,_,h,_,_=>by simp at h
 |_::_, [],_,_,_,_,h,_=>by simp at h
 | p::P,w::vs,0,m,nd,h1,h2,hk=>by
  simp at h1 h2;subst h1;subst h2
  show bindC kindOf ((p,w)::P.zip vs) m p=_
  unfold bindC
  rw[tL λv hv=>(Xd.mp nd).1 (X0 hv).1,if_neg hk]
  simp
 | p::P,w::vs,i+1,m,nd,h1,h2,hk=>by
  show bindC kindOf ((p,w)::P.zip vs) m x=_
  unfold bindC
  exact tM (i:=i) (Xd.mp nd).2 (by simpa using h1) (by simpa using h2) hk
def start (N:List Str)(vs:List V):St:=vs.map some++List.replicate (N.length-vs.length) none
def qU (CX:CXT)(P:Program)(w:World)(K:W.Frag)(mg:Str->Option Value)(base:Heap)(N:List Str)(qual:Str)(scope:Scope)(f:Addr)(cd:Value)(A:Around)(outer:List Env)(s:Shared)(H:Hp)(E:XK):Cx where
 prog:=P
 w:=w
 K:=K
 mg:=mg
 base:=base
 A:=A.deeper (envOfC qual scope s.heap.objs.size f cd)
 N:=N
 s₀:=s
 H₀:=H
 env:=envOfC qual scope s.heap.objs.size f cd
 outer:=outer
 stack:=envOfC qual scope s.heap.objs.size f cd::outer
 ex:=[]
 calm:=true
 fn:=λ_=>true
 pn:=[]
 xe:=λe s'=>wpAny (model P w) (A.deeper (envOfC qual scope s.heap.objs.size f cd)) (leaving (envOfC qual scope s.heap.objs.size f cd) e) (λ_ s''=>CX outer H s E e s'') (λe' s''=>CX outer H s E e' s'') s'
def xH {a:Scope}{n:Nat}(h:a.names.lookup x=some .cell):∃c,(cellsFrom n a.names []).lookup x=some c:=by
 have q:=W.cellsFrom_some a.names n [] (.inl h)
 exact Option.isSome_iff_exists.mp q
theorem sW {CX:CXT}{P:Program}{w:World}{K:W.Frag}{mg:Str->Option Value}{base:Heap}{N ps:List Str}{qual:Str}{scope:Scope}{f:Addr}{cd:Value}{A:Around}{outer:List Env}{s s1:Shared}{H:Hp}{E:XK}{us:List Value}{vs:List V}
  (S:iM N ps scope) (hd:A.handled=none) (e0:rE P w K mg base A outer s H) (hl:vs.length=ps.length) (r:Vals vs us)
  (x:InCallC s s.heap.objs.size (bindL (envOfC qual scope s.heap.objs.size f cd).kindOf (ps.zip us) λ_=>none) (cellsFrom (s.heap.objs.size+1) scope.names []) (bindC (envOfC qual scope s.heap.objs.size f cd).kindOf (ps.zip us) λ_=>none) s1) :
  Inv (qU CX P w K mg base N qual scope f cd A outer s H E) [] (start N vs) H s1:=by
 have C:ps.length<=N.length:=by have:=YO List.length S.pre;rw[Yq]at this;lia
 obtain⟨m,G,rfl,t⟩:=x.done
 have g:∀b:Addr,b∉(qU CX P w K mg base N qual scope f cd A outer s H E).ex:=λb z=>absurd (show b∈([]:List Addr) from z) (by simp)
 refine⟨⟨e0.mod,S.kind,rfl,rfl,Yc _,λy z c m d=>?_,λy hy=>?_,λy c _ h=>?_,λ_=>hd,Around.frames_deeper e0.frames,.inr ⟨rfl,rfl⟩,λb z=>absurd z (g b),e0.bs,e0.bsz,λb _ _=>g b,λb z=>absurd z (g b),e0.funs,e0.frf⟩,
  rfl,e0.bare,Un.kept t,⟨_,x.toInCall.ns,λi y v m d I=>?_⟩,λy c h=>⟨_,x.cell y c h⟩,e0.hok.fresh (Yc _),λy c h=>?_,λp j=>absurd (show p∈([]:List (Addr×Obj)) from j) (by simp),e0.hok.kept t,?_⟩
 ·exact name_of_addr x.apart (Y0 m) (Y0 d)
 ·have hy:scope.names.lookup y=some .cell\/scope.names.lookup y=some .free:=hy
  rcases hy with hy | hy
  ·exact xH hy
  ·exact absurd rfl (S.nofree _ (Y0 hy))
 ·exact Xx (x.above y c (Y0 h))
 ·have o:i<vs.length:=by
   unfold start at d
   by_cases o:i<vs.length
   ·exact o
   ·rw[YF (by simpa using o)]at d
    rw[List.getElem?_replicate]at d
    split at d <;> cases d
  have D:vs[i]? =some v:=by
   unfold start at d
   rw[YS (by simpa using o),Yo]at d
   cases e:vs[i]? with
   |none=>rw[e]at d;cases d
   |some a=>rw[e]at d;cases d;rfl
  obtain⟨u,B,F⟩:=r.get D
  have j:ps[i]? =some y:=by
   rw[<-S.pre,Y9 (by lia)];exact m
  have l:ps.Nodup:=by rw[<-S.pre];exact S.nd.sublist (List.take_sublist _ _)
  refine⟨u,F,?_⟩
  rcases S.par y (Yu j) with k | k
  ·exact .inl ⟨k,tK l j B k⟩
  ·obtain⟨c,e⟩:=xH (n:=s.heap.objs.size+1) k
   refine .inr ⟨.inl k,c,e,?_⟩
   have q:=x.cell y c e
   rw[tM l j B (by show scope.names.lookup y≠_;rw[k];decide)]at q
   exact q
 ·exact e0.hok.fresh (Xx (x.above y c (Y0 h)))
 ·unfold start
  show _=N.length
  rw[Yd,Ya,YD]
  lia
theorem b8H {CX:CXT}{P:Program}{w:World}{K:W.Frag}{mg:Str->Option Value}{base:Heap}{k:Nat}{f:Addr}{name qual:Str}{params:Arguments}{body:List Stmt}{scope:Scope}{dV kV doc pm cdv ct oc:Value}{an od:Option Addr}
  {osl:Array (Option Value)} {N ps:List Str} {sp:Sp} (lk:K.lookup f=some ⟨oc,od,.func (W.fnOf name qual params body scope dV kV doc pm an cdv ct),osl⟩) (hcd:W.codeIn K cdv qual=true) (S:iM N ps scope)
  (len:∀vs H Q E,sp vs H Q E->vs.length=ps.length)
  (hbody:∀(A:Around)(outer:List Env)(s:Shared)(H:Hp)(vs:List V)(Q:VK)(E:XK),cV k (A.deeper (envOfC qual scope s.heap.objs.size f cdv))->sp vs H Q E->
   ∃t,PSs (qU CX P w K mg base N qual scope f cdv A outer s H E) body t/\t { nx:=λ_ H'=>Q .non H',rt:=Q } (start N vs) H) :
  gD P w K mg base CX (k+1) f (W.fnOf name qual params body scope dV kV doc pm an cdv ct) ps sp:=by
 refine⟨len,λA outer s H p C vs Q E i g D r h=>?_⟩
 have F:=len _ _ _ _ h
 have z:K.In s.heap:=g.mod.kin.keeps λb o e=>(g.bs b o e).1
 have j:s.heap.NoLimit:=g.mod.nolimit.keeps λb o e=>(g.bs b o e).1
 have c:∀y∈ps.zip C,scope.names.lookup y.1=some .local\/(scope.names.lookup y.1=some .cell/\((cellsFrom (s.heap.objs.size+1) scope.names []).lookup y.1).isSome=true):=λ⟨n,v⟩ G=>by
  rcases S.par n (X0 G).1 with q | q
  ·exact .inl q
  ·exact .inr ⟨q,W.cellsFrom_some _ _ _ (.inl q)⟩
 refine codeAny_call_function i.depth (z _ _ lk) rfl S.co S.gen rfl (W.codeRec_of z hcd) (D _ _ _ _ ?_)
 refine wpAny_newFunctionEnv_cells S.kind c λL M B x=>?_
 subst M
 refine⟨j.keeps x.toInCall.keep,codeAny_func ?_⟩
 obtain⟨t,O,R⟩:=hbody A outer s H vs Q E (i.deeper _) h
 have I:Inv (qU CX P w K mg base N qual scope f cdv A outer s H E) [] (start N vs) H B:=sW S i.hd g F r x
 refine Xc (O [] B (start N vs) H _ I R) (λT l d=>?_) λe l d=>d
 have fin:∀{a:St}{H':Hp}{v:V}{u:Value},Inv (qU CX P w K mg base N qual scope f cdv A outer s H E) [] a H' l->RelV v u->Q v H'->CE outer P w H s Q u l:=
  λ{a H' v u} J m q=>⟨v,H',J.os,J.bare,J.base,J.hok,m,q⟩
 cases T with
 | ret u=>
  obtain⟨v,a,H',J,m,q⟩:=d
  exact fin J m q
 | next=>
  obtain⟨a,H',J,q⟩:=d
  exact fin (v:=V.non) (u:=Value.none) J rfl q
 | brk=>
  obtain⟨_,_,_,q⟩:=d
  exact False.elim q
 | cont=>
  obtain⟨_,_,_,q⟩:=d
  exact False.elim q
section
variable {id T:String}{r:List V->Hp->VK->Prop}
def tCB (r:List V->Hp->VK->Prop)(t:TA):TE:=λa H Q=>t a H λb c=>r b c Q
theorem bI (f:iH X (.builtin id) r)(g:Gl X x)(i:X.mg x=none)(j:bootBuiltins x=some (.builtin id))(k:PA X (e::es) t)(l:x≠"__name__":=by decide)(b:(x == ("__debug__":Str))=false:=by decide)
  (m:starEach (e::es) X.env=(false,eval e X.env)::starEach es X.env:=by rfl) (c:(backTo pos (starEach es X.env)).any (·.1)=false:=by rfl):PE X (.Call (.Name x p) (e::es) [] pos) (tCB r t):=by
 intro a s d H Q I h
 refine Xk (qL I g i j ?_ l b)
 exact PyProof.Rows.callWith_builtin1 (thn (k pos a s d H _ I h) λn o ⟨q,u,v,w,y⟩=>f a o d u q n Q v w y) m c
theorem gJ (f:iH X (.type T) r)(g:Gl X x)(i:X.mg x=none)(j:bootBuiltins x=some (.type T))(k:PA X (e::es) t)(l:x≠"__name__":=by decide)(b:(x == ("__debug__":Str))=false:=by decide)
  (m:starEach (e::es) X.env=(false,eval e X.env)::starEach es X.env:=by rfl) (c:(backTo pos (starEach es X.env)).any (·.1)=false:=by rfl):PE X (.Call (.Name x p) (e::es) [] pos) (tCB r t):=by
 intro a s d H Q I h
 refine Xk (qL I g i j ?_ l b)
 exact XC (thn (k pos a s d H _ I h) λn o ⟨q,u,v,w,y⟩=>f a o d u q n Q v w y) m c
end
end L2
namespace HT
open PySem PyProof.Rows
section
open PySem.SeqAt
open PySem.AutoSeq1 (wpAny_loadPart')
open PySem.MeetsSeq PySem.MeetsSeq2 PySem.MeetsSeq3
end
section
variable {prog:Program}{w:World}{A:Around}{E:Value->Shared->Prop}{s:Shared}
def sIx (n d:Nat):Option Int->Nat
 |none=>d
 |some v=>if v<0 then (v+(n:Int)).toNat else min v.toNat n
def sIx_none (n d:Nat):sIx n d none=d:=rfl
def sIx_nat (n d k:Nat):sIx n d (some (k:Int))=min k n:=by
 show (if (k:Int)<0 then ((k:Int)+(n:Int)).toNat else min (k:Int).toNat n)=min k n
 rw[if_neg (by lia),YJ]
end
end HT
namespace L2
open PySem PySem.Spec PyProof.Rows
variable {α:Type}{A:Around}{s:Shared}{x:V}{v:Value}{X:Cx}
abbrev TO:=St->Hp->(Option Int->Hp->Prop)->Prop
def PO (X:Cx)(e:Option Expr)(t:TO):Prop:=
 ∀ (pins:List (Addr×Obj))(s:Shared)(σ:St)(H:Hp)(Q:Option Int->Hp->Prop),Inv X pins σ H s->t σ H Q->
  wpAny (model X.prog X.w) X.A (evalPart e X.env) (λu a=>∃o H',Inv X pins σ H' a/\IsPart u o/\Q o H') X.xe s
def a8Z:TO:=λ_ H Q=>Q none H
def b6Q (t:TE):TO:=λa H Q=>t a H λx b=>∃i,x= .int i/\Q (some i) b
def intsAre_of {ns:List Int}:∀{us:List Value},Vals (ns.map V.int) us->IntsAre us ns:=by
 induction ns with
 |nil=>intro us r;rw[List.map_nil]at r;cases r;exact .nil
 | cons n ns ih=>
  intro us r
  rw[YE]at r
  cases r with
  | cons r1 r2=>
   obtain⟨t,e⟩:=r1
   subst e
   exact .cons n t (ih r2)
section
variable {e:Expr}{te:TE}{lo hi:Option Expr}{tl th:TO}{pos p2:Pos}
def b0G:PO X none a8Z:=by
 intro a s b H Q I h
 rw[evalPart_none]
 exact Xf ⟨none,H,I,.none,h⟩
def b0F (h:PE X e te):PO X (some e) (b6Q te):=by
 intro a s c H Q I d
 rw[evalPart_some]
 refine thn (h a s c H _ I d) λu l b=>?_
 obtain⟨x,f,g,j,k⟩:=b
 obtain⟨i,rfl,q⟩:=k
 obtain⟨t,rfl⟩:=j
 exact⟨some i,f,g,.int i t,q⟩
def SlR (X:Cx)(r:V->Option Int->Option Int->Hp->VK->Prop):Prop:=
 ∀ (pins:List (Addr×Obj))(s:Shared)(σ:St)(H:Hp)(x:V)(v vl vu:Value)(lo hi:Option Int)(sl:Addr)(Q:VK),Inv X pins σ H s->RelV x v->s.heap.IsSliceOf sl vl vu .none->IsPart vl lo->IsPart vu hi->r x lo hi H Q->
  ∃T id,typeLookup (.type T) "__getitem__"=pure (some (.builtin id))/\s.TypeIs v T/\wpAny (model X.prog X.w) X.A (getItem v (.ref sl)) (EP X pins σ Q) X.xe s
def tSl (r:V->Option Int->Option Int->Hp->VK->Prop)(b:TE)(c d:TO):TE:=λa H Q=>b a H λx e=>c a e λl f=>d a f λu g=>r x l u g Q
def mV {r:V->Option Int->Option Int->Hp->VK->Prop}(k:SlR X r)(m:PE X e te)(n:PO X lo tl)(o:PO X hi th):PE X (.Subscript e (.Slice lo hi none p2) pos) (tSl r te tl th):=by
 intro a s d H Q I h
 refine Subscript_ (thn (m a s d H _ I h) λv p i=>?_)
 obtain⟨x,t,y,z,B⟩:=i
 refine wpAny_Slice (thn (n a p d t _ y B) λf C ⟨l,D,E,pl,F⟩=>thn (o a C d D _ E F) λg c ⟨u,j,G,J,K⟩=>?_)
 rw[evalPart_none]
 refine Xf ?_
 have L:Inv X a d j { c with heap:=c.heap.push { cls:= .type "slice",data:= .fields #[f,g,.none] } }:=G.kept (t':=c.toks) λb P q=>Ym _ q
 obtain⟨T,R,M,N,O⟩:=k a { c with heap:=c.heap.push { cls:= .type "slice",data:= .fields #[f,g,.none] } } d j x v f g l u c.heap.objs.size Q L z (Heap.IsSliceOf.new ..) pl J K
 show wpAny (model X.prog X.w) X.A (subscriptTail e (.Slice lo hi none p2) v (.ref c.heap.objs.size)) (EP X a d Q) X.xe { c with heap:=c.heap.push { cls:= .type "slice",data:= .fields #[f,g,.none] } }
 exact tail_any (ops:=[.ref c.heap.objs.size,v]) N M O (by with_unfolding_all rfl)
def lY (xs:List V)(lo a:Option Int):List V:=(xs.drop (HT.sIx xs.length 0 lo)).take (HT.sIx xs.length xs.length a-HT.sIx xs.length 0 lo)
def xG (xs:List V)(lo a:Option Int):(lY xs lo a).length<=xs.length:=by
 unfold lY
 rw[Yq,Xu]
 lia
end
def ixN (n:Nat)(i:Int):Option Nat:=if 0<=i then (if i<n then some i.toNat else none) else if -(n:Int)<=i then some (i+n).toNat else none
def atI {a:Type}(xs:List a)(i:Int):Option a:=(ixN xs.length i).bind λj=>xs[j]?
def b1C {n:Nat}{i:Int}{j:Nat}(h:ixN n i=some j):seqIndex? i n=some j/\j<n/\ -(n:Int)<=i/\i<n:=by
 unfold ixN at h
 by_cases h0:0<=i
 ·rw [if_pos h0]at h
  by_cases h1:i<n
  ·rw[if_pos h1]at h
   have e:i.toNat=j:=Yp h
   exact⟨by rw[seqIndex_of h0 h1,e],by lia,by lia,h1⟩
  ·rw[if_neg h1]at h;cases h
 ·rw [if_neg h0]at h
  by_cases h1: -(n:Int)<=i
  ·rw[if_pos h1]at h
   have e:(i+n).toNat=j:=Yp h
   exact⟨by rw[seqIndex_neg (by lia) h1,e],by lia,h1,by lia⟩
  ·rw[if_neg h1]at h;cases h
def a1Q {xs:List α}{i:Int}{v:α}(h:atI xs i=some v):∃j,seqIndex? i xs.length=some j/\xs[j]? =some v/\j<xs.length/\ -(xs.length:Int)<=i/\i<xs.length:=by
 unfold atI at h
 cases e:ixN xs.length i with
 |none=>rw[e]at h;cases h
 | some j=>
  rw[e]at h
  obtain⟨a,b,c,d⟩:=b1C e
  exact⟨j,a,h,b,c,d⟩
def gZ {xs:List α}{j:Nat}{v:α}(h:xs[j]? =some v):atI xs (j:Int)=some v:=by
 have a:j<xs.length:=(Ye.mp h).1
 have e:ixN xs.length (j:Int)=some j:=by
  unfold ixN
  rw[if_pos (by lia),if_pos (by lia)];simp
 unfold atI;rw[e];exact h
def b1U (b:Expr):Prop:=∀o i,subscripted b false o i=operate [o,i] (getItem o i)
def IxR (X:Cx)(r:R2):Prop:=
 ∀ (value slice:Expr)(pins:List (Addr×Obj))(s:Shared)(σ:St)(H:Hp)(x y:V)(v u:Value)(Q:VK),Inv X pins σ H s->RelV x v->RelV y u->r x y H Q->
  subscripted slice false v u=operate [v,u] (getItem v u)->wpAny (model X.prog X.w) X.A (subscriptTail value slice v u) (EP X pins σ Q) X.xe s
def MtR (X:Cx)(a:String)(r:V->List V->Hp->VK->Prop):Prop:=
 ∀ (pins:List (Addr×Obj))(s:Shared)(σ:St)(H:Hp)(x:V)(xs:List V)(v:Value)(us:List Value)(Q:VK),Inv X pins σ H s->RelV x v->Vals xs us->r x xs H Q->
  wpAny (model X.prog X.w) X.A (call (.builtin a) (v::us)) (EP X pins σ Q) X.xe s
section
variable {a b:Expr}{ta tb:TE}{pos:Pos}
def cC {r:R2}(d:IxR X r)(e:PE X a ta)(f:PE X b tb)(g:b1U b):PE X (.Subscript a b pos) (tOp r ta tb):=by
 intro c s i H Q I h
 exact Subscript_ (b6B e f I h λv u j x y k l m n q=>d a b c j i k x y v u Q l m n q (g _ _))
def b9Y (K:W.Frag):R2:=λx y H Q=>∃p xs i v,x= .ref p/\y= .int i/\SqL K H p xs/\atI xs i=some v/\Q v H
def b9X (K:W.Frag):R2:=λx y H Q=>∃p xs i v,x= .ref p/\y= .int i/\SqT K H p xs/\atI xs i=some v/\Q v H
def b1B:IxR X (b9Y X.K):=by
 intro c d a s k H x y v u Q I n o h l
 obtain⟨p,xs,i,z,rfl,rfl,A,B,q⟩:=h
 cases n
 obtain⟨t,rfl⟩:=o
 obtain⟨e,r,pl,J⟩:=I.list A
 obtain⟨j,b,C,L,D,E⟩:=a1Q B
 obtain⟨w,m,f⟩:=r.get C
 have F:=r.length
 have M:=yP
 have fin:EP X a k Q w s:=⟨z,H,I,f,q⟩
 by_cases h0:0<=i
 ·have g:i.toNat=j:=by
   rw[seqIndex_of h0 E]at b
   exact Yp b
  exact item_listR pl.isList h0 (by lia) (by rw[g];simpa using m) fin l
 ·have g:(i+(e.toArray.size:Int)).toNat=j:=by
   rw[seqIndex_neg (by lia) D]at b
   rw[Yx,<-F]
   exact Yp b
  exact subscriptTail_builtinR (x:=w) pl.isList.typeIs slot_list_getitem.lookup
   (wpAny_getItem_list_neg (Q:=λr G=>r=w/\EP X a k Q r G) pl.isList (by lia) (by rw[Yx] <;> lia) (by lia) (by rw[g];simpa using m) ⟨rfl,fin⟩) l
def b5G:IxR X (b9X X.K):=by
 intro b c a s e H x y v u Q I f g h k
 obtain⟨p,xs,i,z,rfl,rfl,l,m,q⟩:=h
 cases f
 obtain⟨t,rfl⟩:=g
 obtain⟨n,r,pl,E⟩:=I.tuple l
 obtain⟨j,o,A,F,G,J⟩:=a1Q m
 obtain⟨w,B,d⟩:=r.get A
 have C:=r.length
 have L:=yP
 have fin:EP X a e Q w s:=⟨z,H,I,d,q⟩
 exact subscriptTail_builtinR (x:=w) pl.typeIs slot_tuple_getitem.lookup
  (getItem_tuple (j:=j) (Q:=λr D=>r=w/\EP X a e Q r D) pl (by lia) (by lia) (by rw[Yx,<-C];exact o) (by simpa using B) ⟨rfl,fin⟩) k
def tZ (lo hi:Option Int)(n:Nat):(sliceBounds lo hi none n).1=((HT.sIx n 0 lo:Nat):Int)/\(sliceBounds lo hi none n).2.1=((HT.sIx n n hi:Nat):Int)/\(sliceBounds lo hi none n).2.2=1:=by
 refine⟨?_,?_,rfl⟩
 ·cases lo with
  |none=>simp[sliceBounds,HT.sIx]
  | some i=>
   simp only[sliceBounds,HT.sIx,Option.getD_none,show (1:Int) > 0 by decide,if_true]
   by_cases h:i<0
   ·simp only[h,if_true] <;> lia
   ·simp only[h,if_false] <;> lia
 ·cases hi with
  |none=>simp[sliceBounds,HT.sIx]
  | some i=>
   simp only[sliceBounds,HT.sIx,Option.getD_none,show (1:Int) > 0 by decide,if_true]
   by_cases h:i<0
   ·simp only[h,if_true] <;> lia
   ·simp only[h,if_false] <;> lia
def rG (a:List Value)(lo b:Option Int):slicePick a.toArray lo b none=((a.drop (HT.sIx a.length 0 lo)).take (HT.sIx a.length a.length b-HT.sIx a.length 0 lo)).toArray:=by
 obtain⟨c,d,e⟩:=tZ lo b a.toArray.size
 unfold slicePick
 rw[c,d,e]
 simp only[sliceRange_one,pick_run,Yx] <;> rfl
def b9V (K:W.Frag):V->Option Int->Option Int->Hp->VK->Prop:=λx b c H Q=>∃a xs,x= .ref a/\SqL K H a xs/\∀p,H p=none->Q (.ref p) (upd H p (.lst (lY xs b c)))
def a9P:SlR X (b9V X.K):=by
 intro f s p H x v t u d e w Q I i j pl k h
 obtain⟨a,xs,rfl,l,q⟩:=h
 cases i
 obtain⟨m,r,g,n⟩:=I.list l
 have c:=r.length
 refine⟨"list",_,slot_list_getitem.lookup,g.isList.typeIs,?_⟩
 refine wpAny_getItem_list_slice g.isList j pl k .none (by simp) ?_ (by rw[Yx] <;> lia)
 rw[rG,<-c]
 refine⟨.ref s.heap.objs.size,_,I.laid (t':=s.toks) (o:= .lst (lY xs d e)) (λb y q=>Ym _ q) (Yc _) ?_,rfl,q _ (I.hok.fresh (Yc _))⟩
 exact⟨YY (xG xs d e) n,_,0,(r.drop (HT.sIx xs.length 0 d)).take (HT.sIx xs.length xs.length e-HT.sIx xs.length 0 d),Yz _ rfl⟩
def nO:V->Bool
 |.non=>true
 |.bl _=>true
 |.int _=>true
 |.str _=>true
 |_=>false
def eqV:V->V->Bool
 |.non,.non=>true
 |.bl a,.bl b=>a == b
 |.bl a,.int b=>(if a then 1 else 0) == b
 |.int a,.bl b=>a == (if b then 1 else 0)
 |.int a,.int b=>a == b
 |.str a,.str b=>a == b
 |_,_=>false
def b5O {y:V}{u:Value}(ry:RelV y u)(rx:RelV x v)(fy:nO y=true)(fx:nO x=true):SeqAt.EqAt A s u v (eqV y x):=by
 cases y with
 | non=>
  cases ry
  cases x with
  |non=>cases rx;exact SeqAt.EqAt.same _
  |bl b=>cases rx;exact SeqAt.EqAt.none_bool b
  |int b=>obtain⟨t,rfl⟩:=rx;exact SeqAt.EqAt.none_int b t
  |str b=>obtain⟨t,rfl⟩:=rx;exact SeqAt.EqAt.none_str b t
  |_=>exact absurd (show false=true from fx) Yn
 | bl a=>
  cases ry
  cases x with
  |non=>cases rx;exact SeqAt.EqAt.bool_none a
  |bl b=>cases rx;exact SeqAt.EqAt.bool_bool a b
  |int b=>obtain⟨t,rfl⟩:=rx;exact SeqAt.EqAt.bool_int a b t
  |str b=>obtain⟨t,rfl⟩:=rx;exact SeqAt.EqAt.bool_str a b t
  |_=>exact absurd (show false=true from fx) Yn
 | int a=>
  obtain⟨c,rfl⟩:=ry
  cases x with
  |non=>cases rx;exact SeqAt.EqAt.int_none a c
  |bl b=>cases rx;exact SeqAt.EqAt.int_bool a c b
  |int b=>obtain⟨t,rfl⟩:=rx;exact SeqAt.EqAt.int_int a c b t
  |str b=>obtain⟨t,rfl⟩:=rx;exact SeqAt.EqAt.int_str a c b t
  |_=>exact absurd (show false=true from fx) Yn
 | str a=>
  obtain⟨c,rfl⟩:=ry
  cases x with
  |non=>cases rx;exact SeqAt.EqAt.str_none a c
  |bl b=>cases rx;exact SeqAt.EqAt.str_bool a c b
  |int b=>obtain⟨t,rfl⟩:=rx;exact SeqAt.EqAt.str_int a c b t
  |str b=>obtain⟨t,rfl⟩:=rx;exact SeqAt.EqAt.str_str a c b t
  |_=>exact absurd (show false=true from fx) Yn
 |_=>exact absurd (show false=true from fy) Yn
def eqU (x:V)(u:Value):Bool:=match u with
 |.none=>eqV .non x
 |.bool b=>eqV (.bl b) x
 |.int i _=>eqV (.int i) x
 |.str z _=>eqV (.str z) x
 |_=>false
def a7W {y:V}{u:Value}(r:RelV y u)(f:nO y=true):eqU x u=eqV y x:=by
 cases y with
 |non=>cases r;rfl
 |bl b=>cases r;rfl
 |int i=>obtain⟨t,rfl⟩:=r;rfl
 |str z=>obtain⟨t,rfl⟩:=r;rfl
 |_=>exact absurd (show false=true from f) Yn
theorem oA:∀{xs:List V}{us:List Value},Vals xs us->xs.all nO=true->us.any (eqU x)=xs.any λy=>eqV y x
 |_,_,.nil,_=>rfl
 | y::xs,u::us,.cons r t,f=>by
  rw[XJ,Xv]at f
  rw[XA,XA,a7W r f.1,oA t f.2]
theorem lB (rx:RelV x v)(fx:nO x=true):∀{xs:List V}{us:List Value},Vals xs us->xs.all nO=true->∀u∈us,SeqAt.EqAt A s u v (eqU x u)
 |_,_,.nil,_=>λu hu=>by cases hu
 | y::xs,u::us,.cons r t,f=>λu' hu=>by
  rw[XJ,Xv]at f
  rcases YI.mp hu with rfl | hu
  ·rw[a7W r f.1];exact b5O r rx f.1 fx
  ·exact lB rx fx t f.2 u' hu
def inV (x:V)(xs:List V):Bool:=xs.any λy=>eqV y x
def rIn (K:W.Frag)(a:Bool):R2:=λx y H Q=>∃p xs,y= .ref p/\(SqL K H p xs\/SqT K H p xs)/\nO x=true/\xs.all nO=true/\Q (.bl (if a then !inV x xs else inV x xs)) H
def a2O:OpR X (compareOp .In) (rIn X.K false):=by
 intro c s i H x y v u Q I d f h
 obtain⟨p,xs,rfl,hq,e,fs,q⟩:=h
 cases f
 rcases hq with hq | hq
 ·obtain⟨a,r,pl,g⟩:=I.list hq
  refine SeqAt.in_listAt (eqU x) pl.isList (λw b=>lB d e r fs w (by simpa using b)) ⟨.bl _,H,I,rfl,?_⟩
  rw[show a.toArray.any (eqU x)=a.any (eqU x) by simp,oA r fs]
  exact q
 ·obtain⟨a,r,pl,g⟩:=I.tuple hq
  refine SeqAt.in_tupleAt (eqU x) pl (λw b=>lB d e r fs w (by simpa using b)) ⟨.bl _,H,I,rfl,?_⟩
  rw[show a.toArray.any (eqU x)=a.any (eqU x) by simp,oA r fs]
  exact q
def uC:OpR X (compareOp .NotIn) (rIn X.K true):=by
 intro c s i H x y v u Q I d f h
 obtain⟨p,xs,rfl,hq,e,fs,q⟩:=h
 cases f
 rcases hq with hq | hq
 ·obtain⟨a,r,pl,g⟩:=I.list hq
  refine SeqAt.notIn_listAt (eqU x) pl.isList (λw b=>lB d e r fs w (by simpa using b)) ⟨.bl _,H,I,rfl,?_⟩
  rw[show a.toArray.any (eqU x)=a.any (eqU x) by simp,oA r fs]
  exact q
 ·obtain⟨a,r,pl,g⟩:=I.tuple hq
  refine SeqAt.notIn_tupleAt (eqU x) pl (λw b=>lB d e r fs w (by simpa using b)) ⟨.bl _,H,I,rfl,?_⟩
  rw[show a.toArray.any (eqU x)=a.any (eqU x) by simp,oA r fs]
  exact q
def uQ:iH X (.builtin "len") (λxs H Q=>∃p ys,xs= [.ref p]/\(SqL X.K H p ys\/SqT X.K H p ys)/\Q (.int ys.length) H):=by
 intro d s g H xs i Q I r h
 obtain⟨p,ys,rfl,hq,q⟩:=h
 obtain⟨u,rfl,e⟩:=vals1 r
 cases e
 have j:=yP
 rcases hq with hq | hq
 ·obtain⟨b,c,pl,f⟩:=I.list hq
  have a:=c.length
  exact Calls.call_len_list pl.isList (by simp only[Yx] <;> lia) ⟨.int ys.length,H,I.tok _,⟨s.toks+1,by rw[Yx,a]⟩,q⟩
 ·obtain⟨b,c,pl,f⟩:=I.tuple hq
  have a:=c.length
  exact len_tuple pl (by simp only[Yx] <;> lia) ⟨.int ys.length,H,I.tok _,⟨s.toks+1,by rw[Yx,a]⟩,q⟩
def uP:iH X (.type "list") (λxs H Q=>∃p ys,xs= [.ref p]/\(SqL X.K H p ys\/SqT X.K H p ys)/\∀l,H l=none->Q (.ref l) (upd H l (.lst ys))):=by
  intro g s t H xs x Q I r h
  obtain⟨p,ys,rfl,hq,q⟩:=h
  obtain⟨u,rfl,v⟩:=vals1 r
  cases v
  have fin:∀(a:List Value),Vals ys a->ys.length<=sizeLine->∀(c:Heap)(d:Nat),(∀b o',s.heap.get? b=some o'->c.get? b=some o')->
      c.get? s.heap.objs.size=some { cls:= .type "list",dict:=none,data:= .seq a.toArray d,slots:=#[] }->EP X g t Q (.ref s.heap.objs.size) { s with heap:=c }:=λa f i c d kp e=>
    ⟨.ref s.heap.objs.size,_,I.laid (t':=s.toks) kp (Yc _) (show fG X.prog X.w _ c _ (.lst ys) from ⟨i,a,d,f,e⟩),rfl,q _ (I.hok.fresh (Yc _))⟩
  rcases hq with hq | hq
  · obtain⟨a,f,pl,i⟩:=I.list hq
    have j:=f.length
    obtain⟨o,k,m,n,hd⟩:=pl.isList
    exact call_list_seq p (.inl rfl) k m hd (λc d kp e=>fin a f i c d kp e) (by simp only[Yx] <;> lia)
  · obtain⟨a,f,pl,i⟩:=I.tuple hq
    have j:=f.length
    obtain⟨o,k,m,n,hd⟩:=pl
    exact call_list_seq p (.inr rfl) k m hd (λc d kp e=>fin a f i c d kp e) (by simp only[Yx] <;> lia)
def tyV (K:W.Frag)(T:String)(x:V)(H:Hp):Prop:=match x with
  |.str _=>T="str"
  |.int _=>T="int"
  | .ref p=>(T="list"/\∃xs,SqL K H p xs)\/(T="tuple"/\∃o,K.lookup p=some o/\o.cls= .type "tuple"/\o.dict=none)\/
      (T="dict"/\((∃kvs,H p=some (.dK kvs))\/∃kvs,H p=some (.dT kvs)))\/(T="set"/\∃S n,H p=some (.set S n))
  |_=>False
def a4E {pins:List (Addr×Obj)}{σ:St}{H:Hp}{T:String}(I:Inv X pins σ H s)(r:RelV x v)(ty:tyV X.K T x H):
  s.TypeIs v T/\∀a,v= .ref a->∃ob,s.heap.get? a=some ob/\ob.dict=none:=by
 cases x with
 | str z=>
  obtain⟨t,rfl⟩:=r
  cases (show T="str" from ty)
  exact⟨typeIs_str s z t,λ_ e=>nomatch e⟩
 | int i=>
  obtain⟨t,rfl⟩:=r
  cases (show T="int" from ty)
  exact⟨typeIs_int s i t,λ_ e=>nomatch e⟩
 | ref p =>
  cases r
  rcases ty with ⟨rfl,xs,g⟩ | ⟨rfl,o,b,h,hd⟩ | ⟨rfl,b⟩ | ⟨rfl,S,n,b⟩
  ·obtain⟨j,_,pl,_⟩:=I.list g
   refine⟨pl.isList.typeIs,λa e=>?_⟩
   cases e
   obtain⟨o,n,e,c,hd,_⟩:=pl
   exact⟨o,e,hd⟩
  ·refine⟨⟨o,I.kIn p o b,h⟩,λa e=>?_⟩
   cases e
   exact⟨o,I.kIn _ o b,hd⟩
  ·have z:∃o,s.heap.get? p=some o/\o.ExactDict:=by
    rcases b with ⟨d,b⟩ | ⟨d,b⟩
    ·obtain⟨_,_,_,_,o,_,_,e,ex,_⟩:=I.hok p _ b
     exact⟨o,e,ex⟩
    ·obtain⟨_,_,_,_,o,_,_,e,ex,_⟩:=I.hok p _ b
     exact⟨o,e,ex⟩
   obtain⟨o,e,ex⟩:=z
   refine⟨⟨o,e,ex.1⟩,λa f=>?_⟩
   cases f
   exact⟨o,e,ex.2.1⟩
  ·obtain⟨o,_,_,_,e,ex,_⟩:=I.hok p _ b
   refine⟨⟨o,e,ex.1⟩,λa f=>?_⟩
   cases f
   exact⟨o,e,ex.2.1⟩
 |_=>exact False.elim ty
def b9Q (K:W.Frag)(T:String)(r:V->List V->Hp->VK->Prop)(to:TE):TE:=λb H Q=>to b H λx a=>tyV K T x a/\r x [] a Q
def tBM (K:W.Frag)(T:String)(r:V->List V->Hp->VK->Prop)(to:TE)(t:TA):TE:=λa H Q=>to a H λx b=>tyV K T x b/\t a b λxs c=>r x xs c Q
variable {o e:Expr}{es:List Expr}{to:TE}{t:TA}{name:Str}{apos cpos:Pos}{T id:String}{r:V->List V->Hp->VK->Prop}
theorem b4F (k:PlainAttrs T)(d:Slot T name id)(e:typeOf (.builtin id)=pure (.type "method_descriptor"))(l:MtR X id r)(m:PE X o to)
  (b:attributeBase o name X.env (eval o X.env)=eval o X.env:=by rfl) (c:(apos.endLine == cpos.line)=true:=by rfl):PE X (.Call (.Attribute o name apos) [] [] cpos) (b9Q X.K T r to):=by
 intro a s g H Q I h
 refine wpAny_Call_method0_late b c (thn (m a s g H _ I h) λv n f=>?_)
 obtain⟨x,p,i,j,q,t⟩:=f
 obtain⟨u,w⟩:=a4E i j q
 exact⟨T,id,k,d,e,u,w,Calls.callWith_builtin rfl (PySem.evalArgs_none (l a n g p x [] v [] Q i j .nil t))⟩
theorem a6R (p:PlainAttrs T)(f:Slot T name id)(i:typeOf (.builtin id)=pure (.type "method_descriptor"))(q:MtR X id r)(u:PE X o to)(w:PA X (e::es) t)
  (c:attributeBase o name X.env (eval o X.env)=eval o X.env:=by rfl)
  (g:((backTo cpos (starEach (e::es) X.env)).all (λx=>!x.1) && (backToKw cpos (keywordEach [] X.env)).all (λx=>x.1.isSome)
   && decide ((e::es).length+([]:List Keyword).length+(if ([]:List Keyword).isEmpty then 0 else 1)<30))=true:=by rfl)
  (d:(apos.endLine == cpos.line)=true:=by rfl) (y:starEach (e::es) X.env=(false,eval e X.env)::starEach es X.env:=by rfl) (b:(backTo cpos (starEach es X.env)).any (·.1)=false:=by rfl) :
  PE X (.Call (.Attribute o name apos) (e::es) [] cpos) (tBM X.K T r to t):=by
 intro a s j H Q I h
 refine wpAny_Call_method_late c g d rfl (thn (u a s j H _ I h) λv z k=>?_)
 obtain⟨x,A,l,m,B,C⟩:=k
 obtain⟨D,E⟩:=a4E l m B
 refine⟨T,id,p,f,i,D,E,?_⟩
 have n:=w cpos a z j A _ l C
 rw[y]at n ⊢
 refine Calls.callWith_builtin (by show (false || (backTo cpos (starEach es X.env)).any (·.1))=false;rw[b] <;> rfl) (Calls.evalArgs_plain ?_)
 exact thn n λF G ⟨J,L,M,N,O⟩=>q a G j L x J v F Q M m N O
end
def MtM (X:Cx)(a:String)(r:V->List V->Hp->VK->Prop):Prop:=
 ∀ (pins:List (Addr×Obj))(s:Shared)(σ:St)(H:Hp)(x:V)(xs:List V)(v:Value)(us:List Value)(Q:VK),Inv X pins σ H s->RelV x v->Vals xs us->r x xs H Q->
  wpAny (model X.prog X.w) X.A (call (.builtin a) (v::us)) (EP X pins σ Q) X.xe s
theorem Vals.one:∀{x:V}{us:List Value},Vals [x] us->∃u,us= [u]/\RelV x u
 |_,_,.cons r .nil=>⟨_,rfl,r⟩
theorem Vals.eraseIdx:∀{xs:List V}{us:List Value}(i:Nat),Vals xs us->Vals (xs.eraseIdx i) (us.eraseIdx i)
 |_,_,_,.nil=> .nil
 |_,_,0,.cons _ t=>t
 |_,_,i+1,.cons r t=> .cons r (Vals.eraseIdx i t)
theorem Vals.rep {xs:List V}{us:List Value}(h:Vals xs us):∀k:Nat,Vals (List.replicate k xs).flatten (List.replicate k us).flatten
 |0=> .nil
 | k+1=>by
  rw[Y1,Y1,Y6,Y6]
  exact Vals.append h (Vals.rep h k)
theorem sS:∀(l:List α)(i:Nat),(l.eraseIdx i).length<=l.length
 |[],_=>Yc _
 |_::_,0=>XE _
 |_::r,i+1=>Nat.succ_le_succ (sS r i)
theorem foldl_rep (its:List Value):∀(k:Nat)(acc:List Value),
  List.foldl (λx1 x2=>x1++x2) acc.toArray (List.replicate k its.toArray)=(acc++(List.replicate k its).flatten).toArray
 |0,acc=>by simp
 | k +1,acc=>by
  have e:acc.toArray++its.toArray=(acc++its).toArray:=by simp
  have e2:(acc++its)++(List.replicate k its).flatten=acc++(List.replicate (k+1) its).flatten:=by
   rw[Y1,Y6,YC]
  rw[<-e2,<-foldl_rep its k (acc++its),<-e,Y1,XN]
section
variable {pins:List (Addr×Obj)}{σ:St}{H:Hp}{l b:Addr}{xs ys zs:List V}
theorem Inv.lset {a its':List Value}{n:Nat}{f:Array Value->Array Value}{t':Nat}(I:Inv X pins σ H s)(b:H l=some (.lst xs))
  (e:s.heap.get? l=some { cls:= .type "list",data:= .seq a.toArray n }) (c:f a.toArray=its'.toArray) (d:Vals ys its') (g:ys.length<=sizeLine) :
  Inv X pins σ (upd H l (.lst ys)) { s with heap:=s.heap.update l (Obj.mapSeq f),toks:=t' }:=by
 have q:=PySem.IsL.update e f
 rw[c]at q
 refine I.write (x:=l) (e:=l) (by rw[b];exact trivial) (.inl rfl) (λj u h i=>(Heap.get?_update_other s.heap (Obj.mapSeq f) (Va h)).trans i) ⟨_,q⟩ ?_
 exact⟨g,its',_,d,q⟩
def Inv.lnew {a:List Value}{t':Nat}(I:Inv X pins σ H s)(b:Vals ys a)(c:ys.length<=sizeLine):
  Inv X pins σ (upd H s.heap.objs.size (.lst ys)) { s with heap:=s.heap.push { cls:= .type "list",data:= .seq a.toArray },toks:=t' }:=
 I.laid (λ_ _ q=>Ym _ q) (Yc _) ⟨c,a,0,b,Yz _ rfl⟩
def Inv.fresh (I:Inv X pins σ H s):H s.heap.objs.size=none:=I.hok.fresh (Yc _)
def Inv.lstM (I:Inv X pins σ H s)(a:H l=some (.lst xs)):xs.length<=sizeLine/\∃(its:List Value)(n:Nat),Vals xs its/\xs.length=its.length/\s.heap.get? l=some { cls:= .type "list",data:= .seq its.toArray n }:=by
 obtain⟨z,its,n,r,e⟩:=I.hok l _ a
 exact⟨z,its,n,r,r.length,e⟩
def wC {n:Nat}(h:n<=sizeLine):Builtin.List.listTooLong n=false:=by
 unfold Builtin.List.listTooLong
 exact Yl (by lia)
end
def a9X:V->List V->Hp->VK->Prop:=λx a H Q=>∃l xs y,x= .ref l/\a= [y]/\H l=some (.lst xs)/\xs.length<sizeLine/\Q .non (upd H l (.lst (xs++[y])))
def a2T:MtM X "list.append" a9X:=by
 intro b s i H x j v k Q I d f h
 obtain⟨l,xs,y,rfl,rfl,c,m,q⟩:=h
 cases d
 obtain⟨u,rfl,g⟩:=f.one
 obtain⟨z,a,n,r,o,e⟩:=I.lstM c
 refine call_meets F.slot_list_append ⟨_,e,rfl⟩ F.entry_list_append (F.args_list_append_2 _ _) (PySem.list_append l a.toArray n u (by rw[Yx];lia)) ⟨e,?_⟩
 refine⟨.non,_,I.lset (its':=a++[u]) c e (by simp) (r.append (.cons g .nil)) ?_,rfl,q⟩
 rw[Yd,Yt]
 lia
def a9W:V->List V->Hp->VK->Prop:=λx a H Q=>∃l b xs zs,x= .ref l/\a= [.ref b]/\H l=some (.lst xs)/\H b=some (.lst zs)/\xs.length+zs.length<=sizeLine/\Q .non (upd H l (.lst (xs++zs)))
def a2S:MtM X "list.extend" a9W:=by
 intro g s A H x B v C Q I j k h
 obtain⟨l,b,xs,zs,rfl,rfl,i,m,D,q⟩:=h
 cases j
 obtain⟨u,rfl,o⟩:=k.one
 cases o
 obtain⟨z,c,n,r,E,e⟩:=I.lstM i
 obtain⟨G,a,p,t,w,y⟩:=I.lstM m
 have f:c.toArray.size+a.toArray.size<=sizeLine:=by rw[Yx,Yx];lia
 have d:¬ (!c.toArray.isEmpty && Builtin.List.listTooLong (c.toArray.size+a.toArray.size))=true:=by
  rw[wC f,Bool.and_false]
  exact Yn
 refine call_meets F.slot_list_extend ⟨_,e,rfl⟩ F.entry_list_extend (F.args_list_extend_2 _ _)
  (AutoSeq1.list_extend_list_list_0 l c.toArray n b a.toArray p d (by rw[Yx];lia) (by lia)) ⟨e,y,?_⟩
 refine⟨.non,_,I.lset (its':=c++a) i e (by simp) (r.append t) ?_,rfl,q⟩
 rw[Yd]
 lia
def b4A:V->List V->Hp->VK->Prop:=λx a H Q=>∃l xs i k y,x= .ref l/\a= [.int i]/\H l=some (.lst xs)/\ -(2 ^ 63)<=i/\i<2 ^ 63/\seqIndex? i xs.length=some k/\xs[k]? =some y/\Q y (upd H l (.lst (xs.eraseIdx k)))
def a7C:MtM X "list.pop" b4A:=by
 intro c s D H x E v G Q I f g h
 obtain⟨l,xs,i,k,y,rfl,rfl,d,j,m,o,p,q⟩:=h
 cases f
 obtain⟨u,rfl,A⟩:=g.one
 obtain⟨t,rfl⟩:=A
 obtain⟨z,a,n,r,B,e⟩:=I.lstM d
 obtain⟨w,C,b⟩:=r.get p
 refine call_meets F.slot_list_pop ⟨_,e,rfl⟩ F.entry_list_pop (F.args_list_pop_2 _ _)
  (MeetsSeq.list_pop_at l a.toArray n i t k w (fitsIndex_both j m) (by rw[Yx,<-B];exact o) (by rw[<-Array.getElem?_toList];exact C) (by rw[Yx];lia)) ⟨e,?_⟩
 refine⟨y,_,I.lset (its':=a.eraseIdx k) d e ?_ (r.eraseIdx k) ?_,b,q⟩
 ·show a.toArray.eraseIdxIfInBounds k=(a.eraseIdx k).toArray
  rw[List.eraseIdxIfInBounds_toArray]
 ·have:=sS xs k
  lia
def b9Z:R2:=λx y H Q=>∃l b xs zs,x= .ref l/\y= .ref b/\H l=some (.lst xs)/\H b=some (.lst zs)/\xs.length+zs.length<=sizeLine/\∀p,H p=none->Q (.ref p) (upd H p (.lst (xs++zs)))
def b4O:OpR X (binaryOp .Add) b9Z:=by
 intro d s t H x y v u Q I f g h
 obtain⟨l,b,xs,zs,rfl,rfl,i,j,w,q⟩:=h
 cases f
 cases g
 obtain⟨z,c,n,r,A,e⟩:=I.lstM i
 obtain⟨B,a,C,k,m,o⟩:=I.lstM j
 refine PySem.P.add_list e o ?_ (by rw[Yx,Yx];lia)
 have p:c.toArray++a.toArray=(c++a).toArray:=by simp
 rw[p]
 exact⟨.ref _,_,I.lnew (t':=s.toks) (r.append k) (by rw[Yd];lia),rfl,q _ I.fresh⟩
def b9W:R2:=λx y H Q=>∃l k xs,x= .ref l/\y= .int k/\H l=some (.lst xs)/\ -(2 ^ 63)<=k/\k<2 ^ 63/\xs.length*k.toNat<=sizeLine/\
 ∀p,H p=none->Q (.ref p) (upd H p (.lst (List.replicate k.toNat xs).flatten))
def len_rep (xs:List α)(k:Nat):(List.replicate k xs).flatten.length=k*xs.length:=by
 induction k with
 |zero=>simp
 |succ k ih=>rw[Y1,Y6,Yd,ih,Nat.succ_mul,Nat.add_comm]
def b4L:OpR X (binaryOp .Mult) b9W:=by
 intro p s L H x y v u Q I A B h
 obtain⟨l,k,xs,rfl,rfl,C,D,E,w,q⟩:=h
 cases A
 obtain⟨t,rfl⟩:=B
 obtain⟨z,b,n,r,G,e⟩:=I.lstM C
 have d:b.toArray.size*k.toNat<=sizeLine:=by rw[Yx,<-G];exact w
 have f:¬ b.toArray.size*k.toNat > (2 ^ 63-1) / 8:=by
  have:(sizeLine:Nat)<=(2 ^ 63-1) / 8:=by decide
  lia
 have g:¬ (!Builtin.List.listFitsIndex k)=true:=by
  rw[fitsIndex_both D E]
  exact Yn
 have c:¬ Builtin.List.listTooLong (b.toArray.size*k.toNat)=true:=by
  rw[wC d]
  exact Yn
 have i:List.foldl (λj o=>j++o) #[] (List.replicate (if b.toArray.isEmpty=true then 0 else k.toNat) b.toArray)=(List.replicate k.toNat b).flatten.toArray:=by
  have J:∀m:Nat,List.foldl (λj o=>j++o) #[] (List.replicate m b.toArray)=(List.replicate m b).flatten.toArray:=λm=>by
   have:=foldl_rep b m []
   rw[List.nil_append]at this
   exact this
  rw[J]
  cases b with
  |nil=>simp
  |cons a r'=>rw[if_neg (by simp)]
 refine wpAny_binaryOp_repeat_ref (T:="list") (U:="int") (by decide) ⟨_,e,rfl⟩ (λK=>typeIs_int K k t) noFill_list_mul F.fills_int_mul F.slot_int_rmul repeat_list F.slot_int_index.lookup
  (call_meets F.slot_int_rmul (typeIs_int s k t) F.entry_int_rmul (F.args_int_rmul_2 _ _) (int___rmul___int_list k t l b.toArray n)
   ⟨e,rfl,⟨_,e,rfl⟩,call_meets F.slot_list_mul ⟨_,e,rfl⟩ F.entry_list_mul (F.args_list_mul_2 _ _) (AutoListH.list___mul___list_int_3 l b.toArray n k t g f c) ⟨e,?_⟩⟩)
 rw[i]
 exact⟨.ref _,_,I.lnew (t':=s.toks) (r.rep k.toNat) (by rw[len_rep,XT];exact w),rfl,q _ I.fresh⟩
section
variable {prog:Program}{w:World}{E:Value->Shared->Prop}
end
end L2
namespace Att
open PySem PySem.W PySem.Calls PyProof.Rows
def pA {P:Params}{h:Heap}:∀(ns:List Int)(vs:List Value),WellAll P h vs (ns.map WData.int)->IntsAre vs ns:=by
 intro ns
 induction ns with
 | nil=>
  intro vs w
  rw[List.map_nil]at w
  cases w
  exact .nil
 | cons n ns ih=>
  intro vs w
  rw[YE]at w
  cases w with
  | cons a b=>
   cases a
   exact .cons _ _ (ih _ b)
theorem a2K {l:OpenLaw}{n:Nat}(hn:l.most=some n){P:Params}{h:Heap}{args:List WData}{vals:List Value}
  (hpre:l.row.toRowW.claim.pre args=true) (hwl:WellAll P h vals args) :
  ∃a vs ns,vals= [Value.ref a]/\args= [WData.list (ns.map WData.int)]/\h.get? a=some { cls:= .type "list",data:= .seq vs.toArray }/\IntsAre vs ns/\ns.length<=n:=by
 have f:WShape.hasAll [] args [.list .int]=true:=(pre_splitW hpre).1
 have g:l.pre.holds [] { args:=args }=true:=(pre_splitW hpre).2
 obtain⟨d,r,rfl,i,j⟩:=hasAllW_cons f
 obtain rfl:=hasAllW_nil j
 obtain⟨xs,rfl,k⟩:=hasW_list i
 obtain⟨ns,rfl⟩:=items_int k
 have b:ns.length<=n:=by
  unfold OpenLaw.pre at g
  have c:(WTm.not (.lt (.lit (.int (n:Int))) (.len (.arg 0)))).holds [] { args:=[.list (ns.map .int)] }=true:=by
   have c:=(holds_andW g).1
   rw[hn]at c
   exact c
  have e:=condW_of c (w_not (w_lt w_lit (w_len_list (w_arg rfl))))
  rw[Ya]at e
  refine Nat.le_of_not_lt λq=>?_
  have m:(n:Int)<((ns.length:Nat):Int):=by lia
  first
   |(rw[Yj m]at e;exact absurd e (by decide))
   |(simp at e;lia)
 cases hwl with
 | cons w1 w2=>
  cases w2
  cases w1 with
  |list ho hall=>exact⟨_,_,ns,rfl,rfl,ho,pA ns _ hall,b⟩
def a2M (l:OpenLaw)(args:List WData):l.row.toRowW.claim.post args (.bool true) args=true:=
 postW_of (r:=l.row.toRowW) (X:=(true == true))
  (show WShape.has [] (.bool true) .bool=true by first | rfl | decide | simp[WShape.has,WShape.arms,WShape.armsAll])
  (show (WTm.eq .res (.lit (.bool true))).value [] { args:=args,res:=some (.bool true),after:=args }=some (.bool (true == true)) from w_eq_bool (w_res rfl) w_lit) rfl
theorem attach_call {l:OpenLaw}{n:Nat}{q:Program}{loose:List Str}{XP:(Str->Option Value)->Heap->Prop}{YP:World->Heap->Prop}{d:DefRec}
  (B:l.most=some n) (m:d.params.defaults= [])
  (call:∀(w:World)(c b:Shared)(mg p:Str->Option Value)(h:Addr)(o:Obj)(s cd e:Value)(a:Addr)(vs:List Value)(ns:List Int),
   Ground q loose [] XP w c mg p b.heap->YP w b.heap->
   b.heap.get? h=some o->o.data= .func (docDef d.name d.params d.body d.scope s cd e)->b.heap.CodeRec cd d.name->mg d.name=some (.ref h)->
   b.heap.get? a=some { cls:= .type "list",data:= .seq vs.toArray }->IntsAre vs ns->ns.length<=n->b.gens=#[]->
   codeAny (model l.prog w) callerA (.call (.ref h) ⟨[.ref a], []⟩) (λr s'=>r= .ok (.ret (.bool true))/\OldK b.heap s'.heap/\s'.os=b.os/\AllBare s'.gens) b) :
  WalkO q loose XP YP l.row.toRowW d [] (λf vs=>PySem.call f vs):=by
 intro w c b mg p G Y h o s cd e C kV D hd t x u E y z as i A hrd v F
 obtain rfl:C= .none:=Dflts.none x m
 obtain rfl:kV= .none:=Dflts.noKw x
 obtain⟨a,vs,ns,rfl,rfl,j,g,k⟩:=a2K B i v
 refine enter_call (Jb (call w c b mg p h o s cd e a vs ns G Y D (fd_plain hd) t u j g k E) λr s' H=>?_)
 obtain⟨rfl,I,J,K⟩:=H
 exact⟨.inl ⟨.bool true,.bool true, [],rfl,λ_=>rfl,.bool true,a2M l _,λ_=>⟨List.Pairwise.nil,λ_ L=>(nomatch L)⟩⟩,I,J,K⟩
section
variable {prog:Program}{w:World}{A:Around}{E:Value->Shared->Prop}{s:Shared}{K:Frag}
end
end Att
namespace L2
open PySem PySem.Spec PyProof.Rows
variable {X:Cx}{A:Around}{n:Nat}{B:Prop}{H:Hp}{K:W.Frag}{a:Nat}{i:Int}{b:Nat}{z:Int}{e:Expr}{r:R2}{x:V}{es:List Expr}{t:TA}{pos:Pos}{scope:Scope}{env:Env}{y:Str}{s:Shared}{N:List Str}{ix:List Nat}{P:Program}{w:World}{mg:Str->Option Value}{base:Heap}{outer:List Env}{f:Addr}{E:XK}{C:Addr}
theorem rM:∀{vs:List Value}{ns:List Int},IntsAre vs ns->Vals (ns.map V.int) vs
 |_,_,.nil=> .nil
 |_,_,.cons n t h=> .cons ⟨t,rfl⟩ (rM h)
def lV (s:Stmt):Arguments:=match s with
 |.FunctionDef _ a _ _ _ _ _ _ _ _=>a
 |_=>{ posonlyargs:=[],args:=[],vararg:=none,kwonlyargs:=[],kw_defaults:=[],kwarg:=none,defaults:=[] }
def gA (s:Stmt):List Stmt:=match s with
 |.FunctionDef _ _ b _ _ _ _ _ _ _=>b
 |_=>[]
def bM (s:Stmt):Scope:=match s with
 |.FunctionDef _ _ _ _ _ _ sc _ _ _=>sc
 |_=>{ kind:= .function,names:=[],isGenerator:=false,isCoroutine:=false }
abbrev CX0:CXT:=λ_ _ _ _ _ _=>False
abbrev E0:XK:=λ_ _ _=>False
def aK:fK CX0 X E0:=λ_ _ _ _ _ _ _ h=>h.elim
structure Fun (K:W.Frag)(x qual:Str)(st:Stmt)(f:Addr)(fd:FuncData):Prop where
 ex :∃(oc:Value)(od:Option Addr)(kV doc pm:Value)(an:Option Addr)(cdv ct:Value)(osl:Array (Option Value)),
  fd=W.fnOf x qual (lV st) (gA st) (bM st) .none kV doc pm an cdv ct/\K.lookup f=some ⟨oc,od,.func fd,osl⟩/\W.codeIn K cdv qual=true
 kp:W.keepIn K (.ref f)=true
theorem Fun.ok {x qual:Str}{d:Stmt}{f:Addr}{j:FuncData}{N e:List Str}{k:Nat}{sp:Sp}(F:Fun K x qual d f j)(S:iM N e (bM d))(len:∀vs H Q E,sp vs H Q E->vs.length=e.length)
  (c:∀(b:Value)(A:Around)(a:List Env)(s:Shared)(H:Hp)(vs:List V)(Q:VK)(E:XK),cV k (A.deeper (envOfC qual (bM d) s.heap.objs.size f b))->sp vs H Q E->
   ∃t,PSs (qU CX0 P w K mg base N qual (bM d) f b A a s H E).nox (gA d) t/\t { nx:=λ_ H'=>Q .non H',rt:=Q } (start N vs) H):gD P w K mg base CX0 (k+1) f j e sp:=by
 obtain⟨p,r,kV,l,u,v,b,y,m,rfl,n,g⟩:=F.ex
 refine b8H n g S len λA a s H vs Q E o i=>?_
 obtain⟨t,h,q⟩:=c b A a s H vs Q E o i
 exact⟨t,h.nox,q⟩
theorem Fun.binds {x qual:Str}{c:Stmt}{f:Addr}{j:FuncData}{d:List Str}(F:Fun K x qual c f j)
  (h:∀(kV a e:Value)(g:Option Addr)(b i:Value)(us:List Value),us.length=d.length->bindArgs (W.fnOf x qual (lV c) (gA c) (bM c) .none kV a e g b i) ⟨us, []⟩=pure (d.zip us)):Binds K j d []:=by
 obtain⟨m,n,kV,a,e,g,b,i,k,rfl,o,l⟩:=F.ex
 exact .all (h kV a e g b i)
theorem zF {x qual:Str}{b:Stmt}{f:Addr}{j:Value}{m g:Option Addr}{e:Array (Option Value)}{kV d h a i:Value}(l:K.lookup f=some ⟨j,m,.func (W.fnOf x qual (lV b) (gA b) (bM b) .none kV d h g a i),e⟩)
  (c:W.codeIn K a qual=true) (k:W.keepIn K (.ref f)=true):Fun K x qual b f (W.fnOf x qual (lV b) (gA b) (bM b) .none kV d h g a i):=⟨⟨j,m,kV,d,h,g,a,i,e,rfl,l,c⟩,k⟩
def b2Q {k:Nat}(a:cV k A):A.units+1<cLine:=XS (Nat.add_le_add_left (by decide:1<=64) _) a.units
def rY (h:n<=1000):n<sizeLine:=XS h (by decide)
theorem pv (i:Nat){x:Str}{a:Pos}(c:X.N[i]? =some x:=by rfl)(d:Vis X.env.scope x:=by first | exact Or.inl rfl | exact Or.inr (Or.inl rfl) | exact Or.inr (Or.inr rfl))(hd:(x == ("__debug__":Str))=false:=by decide)
  (b:(x == ("__classdict__":Str))=false:=by decide):PE X (.Name x a) (b3H i):=a6I c d hd b
def yU {A:Prop}(h:B):if false=true then A else B:=by
 rw[if_neg Yn]
 exact h
def bL {c A:Prop}[Decidable c](a:c->A)(b:¬ c->B):if c then A else B:=by
 by_cases h:c
 ·rw[if_pos h]
  exact a h
 ·rw[if_neg h]
  exact b h
def b8A {c A:Prop}[Decidable c](a:c)(h:B):if (!decide c)=true then A else B:=by
 rw[Yj a]
 exact yU h
def Same (H H':Hp):Prop:=∀b o,H b=some o->H' b=some o
def Same.refl (H:Hp):Same H H:=λ_ _ h=>h
def Vd:=@Same.refl
def Same.trans {d e:Hp}(a:Same H d)(b:Same d e):Same H e:=λc o h=>b c o (a c o h)
def Same.seq {H':Hp}{a:Addr}{xs:List V}(e:Same H H')(h:SqL K H a xs):SqL K H' a xs:=by
 rcases h with (h | ⟨o,h⟩) | h
 ·exact .inl (.inl (e _ _ h))
 ·exact .inl (.inr ⟨o,e _ _ h⟩)
 ·exact .inr h
def cU:bootBuiltins "len"=some (.builtin "len"):=by decide +kernel
def b5X:bootBuiltins "min"=some (.builtin "min"):=by decide +kernel
def b5Y:bootBuiltins "max"=some (.builtin "max"):=by decide +kernel
def a8K:bootBuiltins "sum"=some (.builtin "sum"):=by decide +kernel
def kE:bootBuiltins "list"=some (.type "list"):=by decide +kernel
def qZ (a:Nat):Builtin.Int.intBits (a:Int)=if a=0 then 0 else a.log2+1:=by
 unfold Builtin.Int.intBits
 by_cases h:a=0
 ·subst h;rfl
 ·have b:¬ ((a:Int) == 0)=true:=by
   intro q
   have:=XV.mp q
   lia
  rw[if_neg b,if_neg h]
  rfl
def bits_le (h:a<2 ^ n):Builtin.Int.intBits (a:Int)<=n:=by
 rw[qZ]
 split
 ·exact YX _
 ·rename_i h0
  exact(Nat.log2_lt h0).mpr h
def b1Q (a:Nat):a<2 ^ Builtin.Int.intBits (a:Int):=by
 rw[qZ]
 split
 ·rename_i h;subst h;exact Nat.one_pos
 ·exact Nat.lt_log2_self
def rA (h:i.natAbs<2 ^ n):Builtin.Int.intBits i<=n:=by
 unfold Builtin.Int.intBits
 split
 ·exact YX _
 ·rename_i h0
  have a:i.natAbs≠0:=by
   intro q
   apply h0
   have:i=0:=by lia
   subst this;rfl
  exact(Nat.log2_lt a).mpr h
def a1U {X Y:Nat}(e:a / 2+b / 2=X / 2+2*(Y / 2))(c:X % 2=(a % 2+b % 2) % 2)(f:Y % 2=(a % 2)*(b % 2)):a+b=X+2*Y:=by
 have d:=Nat.div_add_mod
 rw[<-d a 2,<-d b 2,<-d X 2,<-d Y 2,c,f]
 generalize a / 2=p at *
 generalize b / 2=q at *
 generalize X / 2=x at *
 generalize Y / 2=y at *
 clear c f d
 rcases XF a with h | h <;> rcases XF b with h' | h' <;> rw[h,h'] <;> clear h h' <;> simp only[Nat.reduceMul,Nat.reduceAdd,Nat.reduceMod] <;> lia
theorem rD:∀(n a b:Nat),a<2 ^ n->b<2 ^ n->a+b=(a ^^^ b)+2*(a &&& b)
 |0,a,b,ha,hb=>by rw[Nat.lt_one_iff.mp ha,Nat.lt_one_iff.mp hb];rfl
 | n+1,a,b,ha,hb=>by
  have e:=rD n (a / 2) (b / 2) (Nat.div_lt_of_lt_mul (by rw[XT,<-Xm];exact ha)) (Nat.div_lt_of_lt_mul (by rw[XT,<-Xm];exact hb))
  rw[<-Nat.xor_div_two,<-Nat.and_div_two]at e
  have x1:=Nat.xor_mod_two_pow (a:=a) (b:=b) (n:=1)
  have x2:=Nat.and_mod_two_pow (a:=a) (b:=b) (n:=1)
  rw[Nat.pow_one]at x1 x2
  refine a1U e (x1.trans ?_) (x2.trans ?_) <;> (rcases XF a with h | h <;> rcases XF b with h' | h' <;> rw[h,h'] <;> rfl)
def a8R (h:a<2 ^ (n+1))(j:b<2 ^ (n+1))(c:2 ^ n<=a)(d:2 ^ n<=b):a ^^^ b<2 ^ n:=by
 apply Nat.lt_pow_two_of_testBit
 intro i k
 rw[XO]
 by_cases e:i=n
 ·subst e
  have f:a.testBit i=true:=by
   rw[YV]
   have:a / 2 ^ i=1:=by
    apply X2
    ·simpa using c
    ·rw[Xm]at h;lia
   rw[this];rfl
  have g:b.testBit i=true:=by
   rw[YV]
   have:b / 2 ^ i=1:=by
    apply X2
    ·simpa using d
    ·rw[Xm]at j;lia
   rw[this];rfl
  rw[f,g];rfl
 ·have f:a.testBit i=false:=Y3 (Yh h (Yv (by decide) (by lia)))
  have g:b.testBit i=false:=Y3 (Yh j (Yv (by decide) (by lia)))
  rw[f,g];rfl
def band (a b:Nat):Builtin.bitAnd (a:Int) (b:Int)=((a &&& b:Nat):Int):=by
 rw[PyProof.Rows.bitAnd_pp (by lia) (by lia)];rfl
def bxor (a b:Nat):Builtin.bitXor (a:Int) (b:Int)=((a ^^^ b:Nat):Int):=by
 have h:=rD (a+b) a b (XS (Nat.le_add_right a b) Nat.lt_two_pow_self) (XS (Nat.le_add_left b a) Nat.lt_two_pow_self)
 unfold Builtin.bitXor
 rw[PyProof.Rows.bitOr_and,band]
 lia
def qD (k:Nat):(2:Int) ^ ((k:Int)).toNat=((2 ^ k:Nat):Int):=by
 rw[YJ];simp
def c0K (a k:Nat):(a:Int)*2 ^ ((k:Int)).toNat=((a <<< k:Nat):Int):=by
 rw[qD,Xh];simp
def c0J (a k:Nat):(a:Int) / 2 ^ ((k:Int)).toNat=((a >>> k:Nat):Int):=by
 rw[qD,Nat.shiftRight_eq_div_pow];rfl
def bit_at (b k:Nat):(((b >>> k:Nat) &&& 1:Nat):Int)=1↔b.testBit k=true:=by
 unfold Nat.testBit
 rw[Nat.and_comm]
 have h:1 &&& b >>> k=(b >>> k) % 2:=by rw[Nat.and_comm];exact Nat.and_one_is_mod _
 rw[h]
 have:(b >>> k) % 2=0\/(b >>> k) % 2=1:=by lia
 rcases this with h | h <;> rw[h] <;> decide
def rN (C:Nat->Nat->Prop)(g:Nat->Nat->Nat):R2:=λx y H Q=>∃a b:Nat,x= .int a/\y= .int b/\C a b/\Q (.int ((g a b:Nat):Int)) H
theorem opN {f:Value->Value->Sem Value}{C:Nat->Nat->Prop}{g:Nat->Nat->Nat}
  (a:∀(i j:Nat)(t u:Tok)(s:Shared)(Q:Value->Shared->Prop)(E:Value->Shared->Prop),C i j->Q (.int ((g i j:Nat):Int) s.toks) { s with toks:=s.toks+1 }->wpAny (model X.prog X.w) X.A (f (.int i t) (.int j u)) Q E s) :
  OpR X f (rN C g):=by
 intro b s l H x y v u Q I c d h
 obtain⟨i,j,rfl,rfl,e,q⟩:=h
 obtain⟨t,rfl⟩:=c
 obtain⟨k,rfl⟩:=d
 exact a i j t k s _ _ e ⟨.int ((g i j:Nat):Int),H,I.tok _,⟨_,rfl⟩,q⟩
def a0O:OpR X (binaryOp .BitXor) (rN (λ_ _=>True) λa b=>a ^^^ b):=opN λi j _ _ _ _ _ _ q=>by
 refine xor_int ?_
 rw[bxor];exact q
def a0P:OpR X (binaryOp .LShift) (rN (λa k=>a<2 ^ 4000/\k<=4000) λa k=>a <<< k):=opN λa k _ _ _ _ _ b q=>by
 refine lshift_int (by lia) ?_ ?_
 ·have:=bits_le b.1
  lia
 ·rw[c0K];exact q
def b9B (i j:Int):Prop:=0<=j/\j<=4000/\i.natAbs<2 ^ 4000
def b0K:OpR X (binaryOp .LShift) (rI b9B λi j=> .int (i*2 ^ j.toNat)):=opI λi j _ _ _ _ _ a q=>by
 refine lshift_int a.1 ?_ q
 have:=rA a.2.2
 have:=a.2.1
 lia
def a1S (i j:Int):Prop:=i.natAbs<2 ^ 4000/\j.natAbs<2 ^ 4000
def a1S.ok {j:Int}(h:a1S i j):IntMulOk i j:=by
 unfold IntMulOk
 have b:=rA h.1
 have c:=rA h.2
 have a:Builtin.Int.intTooBig ((Builtin.Int.intBits i:Int)+(Builtin.Int.intBits j:Int))=false:=by
  unfold Builtin.Int.intTooBig
  apply Yl
  have:(8000:Int)<=bitsLine:=by decide
  lia
 simp only[a,Bool.and_false]
 decide
def b0L:OpR X (binaryOp .Mult) (rI a1S λi j=> .int (i*j)):=opI λ_ _ _ _ _ _ _ a q=>mul_int q a.ok
def b7S:MtR X "int.bit_length" (λx vs H Q=>∃i,x= .int i/\vs= []/\Q (.int ((Builtin.Int.intBits i:Nat):Int)) H):=by
 intro a s d H x xs v e Q I b c h
 obtain⟨i,rfl,rfl,q⟩:=h
 obtain⟨t,rfl⟩:=b
 cases c
 exact call_int_bit_length ⟨.int _,H,I.tok _,⟨_,rfl⟩,q⟩
section
variable {te:TE}{st:Stmt}{ts:TS}
def b9P (t:TE):TE:=λa H Q=>∃P:VK,t a H P/\∀x H',P x H'->Q x H'
def bZ (h:PE X e te):PE X e (b9P te):=by
 intro a s c H Q I d
 obtain⟨P,f,g⟩:=d
 exact thn (h a s c H P I f) λv j ⟨x,b,i,r,q⟩=>⟨x,b,i,r,g x b q⟩
def b6T (t:TS):TS:=λD a H=>∃N:St->Hp->Prop,t { D with nx:=N } a H/\∀σ' H',N σ' H'->D.nx σ' H'
def iV (h:PS X st ts):PS X st (b6T ts):=by
 intro a s d H D I e
 obtain⟨N,g,i⟩:=e
 refine thn (h a s d H { D with nx:=N } I g) λf k q=>?_
 cases f with
 |next=>obtain⟨b,c,j,q⟩:=q;exact⟨b,c,j,i b c q⟩
 |ret v=>exact q
 |brk=>exact q
 |cont=>exact q
end
def dec_true {p:Prop}[Decidable p](h:decide p=true):p:=YK h
def dec_false {p:Prop}[Decidable p](h:¬ decide p=true):¬ p:=λq=>h (Yj q)
def a2R (a:0<=z)(b:z<2 ^ n):z.natAbs<2 ^ n:=by
 obtain⟨k,rfl⟩:=YQ a
 have:(k:Int)<((2 ^ n:Nat):Int):=by simpa using b
 lia
def rC (h:z.natAbs<2 ^ n)(a:n<=4000:=by decide):z.natAbs<2 ^ 4000:=Yh h (Yv (by decide) a)
def jA (a: -18446744073709551616<z)(b:z<18446744073709551616):z.natAbs<2 ^ 4000:=rC (n:=64) (by lia)
def xT (h:a<=b):(2:Int) ^ a<=2 ^ b:=by
 have:=Yv (n:=2) (by decide) h
 exact_mod_cast this
def a7I (h:a<2 ^ n)(b:n<=4000:=by decide):a<2 ^ 4000:=Yh h (Yv (by decide) b)
def b6C {ns:List Int}{k:Int}(h:0<ns.length):∃v:Int,atI (ns.map V.int) (k % (((ns.map V.int).length:Nat):Int))=some (.int v):=by
 rw[Ya]
 have a:0<=k % ((ns.length:Nat):Int):=Int.emod_nonneg _ (by lia)
 have b:k % ((ns.length:Nat):Int)<((ns.length:Nat):Int):=X7 _ (by lia)
 generalize k % ((ns.length:Nat):Int)=j at a b
 have c:j.toNat<ns.length:=by lia
 refine⟨ns[j.toNat],?_⟩
 have q:atI (ns.map V.int) ((j.toNat:Nat):Int)=some (.int ns[j.toNat]):=gZ (by rw[Yo,Yb c] <;> rfl)
 have e:((j.toNat:Nat):Int)=j:=by lia
 rw[e]at q
 exact q
def b3U (K:W.Frag):Sp:=λb H Q _=>∃(a:Addr)(ns:List Int)(k m:Int),b= [.ref a,.int k,.int m]/\SqL K H a (ns.map V.int)/\ns.length<=63/\0<=k/\k<=100000/\0<m/\∀d:Int,0<=d->d<m->Q (.int d) H
section
variable {M:Model}{E:Value->Shared->Prop}{B:Heap}{l:List Env}{L e:Addr}{k a0:Value}{od:Option Addr}
end
section
variable {qual:Str}{cd:Value}
end
section
variable {qual:Str}{cd:Value}
end
section
variable {tx:St->Hp->VK->XK->Prop}{p1 np hpos:Pos}{n:Str}{i:Nat}{b₀:Stmt}{suite:List Stmt}{ts:TS}
end
section
variable {CX:CXT}{k:Nat}{fd:FuncData}{ps:List Str}{sp:Sp}{dvs:List V}{ds:List Value}{x m:Str}{p apos:Pos}{o:Expr}{ta:TE}
end
def PE.imp {t t':TE}(h:PE X e t)(i:∀σ H Q,t' σ H Q->t σ H Q):PE X e t':=λa s σ H Q I q=>h a s σ H Q I (i σ H Q q)
def PS.imp {e:Stmt}{t t':TS}(h:PS X e t)(i:∀D σ H,t' D σ H->t D σ H):PS X e t':=λa s σ H D I q=>h a s σ H D I (i D σ H q)
def OpR.imp {f:Value->Value->Sem Value}{b:R2}(h:OpR X f r)(i:∀x y H Q,b x y H Q->r x y H Q):OpR X f b:=λa s c H x y v u Q I d e q=>h a s c H x y v u Q I d e (i x y H Q q)
def UnR.imp {f:Value->Sem Value}{r b:V->Hp->VK->Prop}(h:UnR X f r)(i:∀x H Q,b x H Q->r x H Q):UnR X f b:=λa s c H x v Q I d q=>h a s c H x v Q I d (i x H Q q)
def iH.imp {f:Value}{r b:List V->Hp->VK->Prop}(h:iH X f r)(i:∀xs H Q,b xs H Q->r xs H Q):iH X f b:=λa s c H xs d Q I e q=>h a s c H xs d Q I e (i xs H Q q)
def IxR.imp {b:R2}(h:IxR X r)(i:∀x y H Q,b x y H Q->r x y H Q):IxR X b:=λc d a s e H x y v u Q I f g q j=>h c d a s e H x y v u Q I f g (i x y H Q q) j
def oV (o:Option (Option V))(k:V->Prop):Prop:=@Option.rec (Option V) (λ_=>Prop) False (λo=>@Option.rec V (λ_=>Prop) False k o) o
def vI (x:V)(k:Int->Prop):Prop:=@V.rec (λ_=>Prop) False (λ_=>False) k (λ_=>False) (λ_=>False) (λ_=>False) (λ_=>False) (λ_=>False) x
def vB (x:V)(k:Bool->Prop):Prop:=@V.rec (λ_=>Prop) False k (λ_=>False) (λ_=>False) (λ_=>False) (λ_=>False) (λ_=>False) (λ_=>False) x
def vR (x:V)(k:Addr->Prop):Prop:=@V.rec (λ_=>Prop) False (λ_=>False) (λ_=>False) (λ_=>False) (λ_=>False) (λ_=>False) k (λ_=>False) x
def l1 (vs:List V)(k:V->Prop):Prop:=@List.rec V (λ_=>Prop) False (λx r _=>@List.rec V (λ_=>Prop) (k x) (λ_ _ _=>False) r) vs
def l2 (vs:List V)(k:V->V->Prop):Prop:=@List.rec V (λ_=>Prop) False (λx r _=>l1 r λy=>k x y) vs
def oV.ex {o:Option (Option V)}{k:V->Prop}(h:oV o k):∃v,o=some (some v)/\k v:=by
 cases o with
 |none=>exact h.elim
 | some o=>cases o with
  |none=>exact h.elim
  |some v=>exact⟨v,rfl,h⟩
def vI.ex {k:Int->Prop}(h:vI x k):∃i,x= .int i/\k i:=by
 cases x with
 |int i=>exact⟨i,rfl,h⟩
 |_=>exact h.elim
def vB.ex {k:Bool->Prop}(h:vB x k):∃i,x= .bl i/\k i:=by
 cases x with
 |bl i=>exact⟨i,rfl,h⟩
 |_=>exact h.elim
def vR.ex {k:Addr->Prop}(h:vR x k):∃i,x= .ref i/\k i:=by
 cases x with
 |ref i=>exact⟨i,rfl,h⟩
 |_=>exact h.elim
def l1.ex {vs:List V}{k:V->Prop}(h:l1 vs k):∃x,vs= [x]/\k x:=by
 match vs,h with
 |[x],h=>exact⟨x,rfl,h⟩
def l2.ex {vs:List V}{k:V->V->Prop}(h:l2 vs k):∃x y,vs= [x,y]/\k x y:=by
 match vs,h with
 |[x,y],h=>exact⟨x,y,rfl,h⟩
def c0Q (i:Nat):TE:=λa H Q=>oV a[i]? λv=>Q v H
theorem dv (i:Nat){x:Str}{a:Pos}(c:X.N[i]? =some x:=by rfl)(d:Vis X.env.scope x:=by first | exact Or.inl rfl | exact Or.inr (Or.inl rfl) | exact Or.inr (Or.inr rfl))(hd:(x == ("__debug__":Str))=false:=by decide)
  (b:(x == ("__classdict__":Str))=false:=by decide):PE X (.Name x a) (c0Q i):=(a6I c d hd b).imp λe H Q h=>h.ex
def mI (C:Int->Int->Prop)(g:Int->Int->V):R2:=λx y H Q=>vI x λi=>vI y λj=>C i j/\Q (g i j) H
def mI0 (g:Int->Int->V):R2:=λx y H Q=>vI x λi=>vI y λj=>Q (g i j) H
def mI.to {C:Int->Int->Prop}{g:Int->Int->V}:∀x y H Q,mI C g x y H Q->rI C g x y H Q:=λx y H Q h=>by
 obtain⟨i,rfl,a⟩:=vI.ex h
 clear h
 obtain⟨j,rfl,h⟩:=vI.ex a
 exact⟨_,_,rfl,rfl,h.1,h.2⟩
def mI0.to {g:Int->Int->V}:∀x y H Q,mI0 g x y H Q->rI0 g x y H Q:=λx y H Q h=>by
 obtain⟨i,rfl,a⟩:=vI.ex h
 clear h
 obtain⟨j,rfl,h⟩:=vI.ex a
 exact⟨_,_,rfl,rfl,h⟩
def mU (g:Int->V):V->Hp->VK->Prop:=λx H Q=>vI x λi=>Q (g i) H
def mU.to {g:Int->V}:∀x H Q,mU g x H Q->rU g x H Q:=λx H Q h=>vI.ex h
def cM:OpR X (binaryOp .Add) (mI0 λi j=> .int (i+j)):=b4Q.imp mI0.to
def jL:OpR X (binaryOp .Sub) (mI0 λi j=> .int (i-j)):=b4J.imp mI0.to
def jD:OpR X (binaryOp .Mult) (mI a1S λi j=> .int (i*j)):=b0L.imp mI.to
def a3X:OpR X (binaryOp .FloorDiv) (mI b9C λi j=> .int (i / j)):=b0M.imp mI.to
def rK:OpR X (binaryOp .Mod) (mI (λ_ j=>0<j) λi j=> .int (i % j)):=b4M.imp mI.to
def b6G:OpR X (binaryOp .LShift) (mI b9B λi j=> .int (i*2 ^ j.toNat)):=b0K.imp mI.to
def zT:OpR X (binaryOp .RShift) (mI (λ_ j=>0<=j) λi j=> .int (i / 2 ^ j.toNat)):=b4K.imp mI.to
def zZ:OpR X (binaryOp .BitAnd) (mI0 λi j=> .int (Builtin.bitAnd i j)):=b4P.imp mI0.to
def b6F:OpR X (binaryOp .BitXor) (mI0 λi j=> .int (Builtin.bitXor i j)):=b4I.imp mI0.to
def zV:UnR X (unaryOp .USub) (mU λi=> .int (-i)):=b3F.imp mU.to
def a3U:OpR X (compareOp .Lt) (mI0 λi j=> .bl (decide (i<j))):=b7J.imp mI0.to
def xQ:OpR X (compareOp .LtE) (mI0 λi j=> .bl (decide (i<=j))):=b7K.imp mI0.to
def vC:OpR X (compareOp .Gt) (mI0 λi j=> .bl (decide (j<i))):=b7L.imp mI0.to
def a3W:OpR X (compareOp .GtE) (mI0 λi j=> .bl (decide (j<=i))):=b7M.imp mI0.to
def dI {j:Int}:decide (V.int i=V.int j)=decide (i=j):=by
 by_cases h:i=j
 ·rw[Yj h,Yj (YO V.int h)]
 ·rw[Yl h,Yl λz=>h (V.int.inj z)]
def dS {i j:Str}:decide (V.str i=V.str j)=decide (i=j):=by
 by_cases h:i=j
 ·rw[Yj h,Yj (YO V.str h)]
 ·rw[Yl h,Yl λz=>h (V.str.inj z)]
def dB {i j:Bool}:decide (V.bl i=V.bl j)=decide (i=j):=by
 by_cases h:i=j
 ·rw[Yj h,Yj (YO V.bl h)]
 ·rw[Yl h,Yl λz=>h (V.bl.inj z)]
def eqW (f:Bool->Prop)(x y:V):Prop:=@V.rec (λ_=>Prop)
 (@V.rec (λ_=>Prop) (f true) (λ_=>False) (λ_=>f false) (λ_=>f false) (λ_=>False) (λ_=>False) (λ_=>False) (λ_=>False) y)
 (λi=>@V.rec (λ_=>Prop) False (λj=>f (decide (i=j))) (λ_=>False) (λ_=>False) (λ_=>False) (λ_=>False) (λ_=>False) (λ_=>False) y)
 (λi=>@V.rec (λ_=>Prop) (f false) (λ_=>False) (λj=>f (decide (i=j))) (λ_=>f false) (λ_=>False) (λ_=>False) (λ_=>False) (λ_=>False) y)
 (λi=>@V.rec (λ_=>Prop) (f false) (λ_=>False) (λ_=>f false) (λj=>f (decide (i=j))) (λ_=>False) (λ_=>False) (λ_=>False) (λ_=>False) y)
 (λ_=>False) (λ_=>False) (λ_=>False) (λ_=>False) x
def eqW.ex {f:Bool->Prop}{y:V}(h:eqW f x y):b3W x y=true/\f (decide (x=y)):=by
 cases x with
 |non=>cases y <;> first | exact h.elim | exact⟨rfl,h⟩
 |bl i=>cases y <;> first | exact h.elim | (exact⟨rfl,by rw[dB];exact h⟩)
 |int i=>cases y <;> first | exact h.elim | exact⟨rfl,h⟩ | (exact⟨rfl,by rw[dI];exact h⟩)
 |str i=>cases y <;> first | exact h.elim | exact⟨rfl,h⟩ | (exact⟨rfl,by rw[dS];exact h⟩)
 |_=>exact h.elim
def mEq:R2:=λx y H Q=>eqW (λb=>Q (.bl b) H) x y
def mNe:R2:=λx y H Q=>eqW (λb=>Q (.bl (!b)) H) x y
def dU:OpR X (compareOp .Eq) mEq:=b7N.imp λx y H Q h=>eqW.ex (f:=λb=>Q (.bl b) H) h
def tQ:OpR X (compareOp .NotEq) mNe:=b7I.imp λx y H Q h=>eqW.ex (f:=λb=>Q (.bl (!b)) H) h
def vN (x:V)(k:Prop):Prop:=@V.rec (λ_=>Prop) k (λ_=>False) (λ_=>False) (λ_=>False) (λ_=>False) (λ_=>False) (λ_=>False) (λ_=>False) x
def vN.ex {k:Prop}(h:vN x k):x= .non/\k:=by
 cases x with
 |non=>exact⟨rfl,h⟩
 |_=>exact h.elim
def c0E:R2:=λx y H Q=>vN y (Q (.bl (decide (x= .non))) H)
def b6I:OpR X (compareOp .Is) c0E:=b4N.imp λx y H Q h=>vN.ex h
section
variable {a b c:Expr}{ta tb tc:TE}{rest:List Expr}
def pO {k:Bool->Prop}:vB x k=∃i,x= .bl i/\k i:=propext ⟨vB.ex,λ⟨i,e,h⟩=>by subst e;exact h⟩
def qT (t:TE):TT:=λa H Q=>t a H λx b=>vB x λk=>Q k b
def xF (t:TE):qT t=a0F t:=by
 funext σ H Q
 unfold qT a0F
 simp only[pO]
def a3M (t:TE):qT t=tB t:=by
 funext σ H Q
 unfold qT tB
 simp only[pO]
def aW {op:CmpOp}(c:OpR X (compareOp op) r)(d:PE X a ta)(e:PE X b tb)(f:behindInMarks op b=false):PT X (.Compare a [op] [b] pos) (qT (tOp r ta tb)):=by
 rw[xF];exact b0A c d e f
def cJ {t:TE}(h:PE X e t)(a:∀whole,isTrue e X.env whole=(do let v<-whole;standAt e.pos;holding [v] (truthy v)):=by intro _;rfl):PT X e (qT t):=by
 rw[a3M];exact b4B h a
def b5W (d e:TE):TE:=λa H Q=>d a H λx b=>vB x λc=>if c=true then e a b Q else Q (.bl false) b
def b5U (a:TE):TE:=λb H Q=>a b H λx d=>vB x λc=>Q (.bl (!c)) d
def b1O:b5W ta tb=a4L ta tb:=by
 funext σ H Q
 unfold b5W a4L
 simp only[pO]
def b1L:b5U ta=a4K ta:=by
 funext σ H Q
 unfold b5U a4K
 simp only[pO]
def a7E (c:PE X a ta)(d:PE X (.BoolOp .And (b::rest) pos) tb):PE X (.BoolOp .And (a::b::rest) pos) (b5W ta tb):=by
 rw[b1O];exact b4G c d
def b4Z (b:PE X a ta):PE X (.UnaryOp .Not a pos) (b5U ta):=by
 rw[b1L];exact b4E b
end
def SqA (K:W.Frag)(H:Hp)(a:Addr)(xs:List V):Prop:=SqL K H a xs\/SqT K H a xs
def c0D (K:W.Frag):R2:=λx y H Q=>vR x λp=>vI y λi=>∃xs v,SqL K H p xs/\atI xs i=some v/\Q v H
def b7W (K:W.Frag):R2:=λx y H Q=>vR x λp=>vI y λi=>∃xs v,SqT K H p xs/\atI xs i=some v/\Q v H
def jE:IxR X (c0D X.K):=b1B.imp λx y H Q h=>by
 obtain⟨p,rfl,h⟩:=vR.ex h
 obtain⟨i,rfl,xs,v,a,b,c⟩:=vI.ex h
 exact⟨_,xs,_,v,rfl,rfl,a,b,c⟩
def iB:IxR X (b7W X.K):=b5G.imp λx y H Q h=>by
 obtain⟨p,rfl,h⟩:=vR.ex h
 obtain⟨i,rfl,xs,v,a,b,c⟩:=vI.ex h
 exact⟨_,xs,_,v,rfl,rfl,a,b,c⟩
def b7V (K:W.Frag):List V->Hp->VK->Prop:=λxs H Q=>l1 xs λx=>vR x λp=>∃ys,SqA K H p ys/\Q (.int ys.length) H
def fD:iH X (.builtin "len") (b7V X.K):=uQ.imp λxs H Q h=>by
 obtain⟨x,rfl,h⟩:=l1.ex h
 obtain⟨p,rfl,a,b,c⟩:=vR.ex h
 exact⟨_,a,rfl,b,c⟩
def a0V (K:W.Frag):List V->Hp->VK->Prop:=λxs H Q=>l1 xs λx=>vR x λp=>∃ys,SqA K H p ys/\∀l,H l=none->Q (.ref l) (upd H l (.lst ys))
def iR:iH X (.type "list") (a0V X.K):=uP.imp λxs H Q h=>by
 obtain⟨x,rfl,h⟩:=l1.ex h
 obtain⟨p,rfl,a,b,c⟩:=vR.ex h
 exact⟨_,a,rfl,b,c⟩
def b7U:List V->Hp->VK->Prop:=λxs H Q=>l2 xs λx y=>vI x λi=>vI y λj=>Q (.int (max i j)) H
def b2Z (a:X.calm=true):iH X (.builtin "max") b7U:=(a3N a).imp λxs H Q h=>by
 obtain⟨x,y,rfl,h⟩:=l2.ex h
 obtain⟨i,rfl,h⟩:=vI.ex h
 obtain⟨j,rfl,h⟩:=vI.ex h
 refine⟨_,_,rfl,?_⟩
 have e:(if j > i then j else i)=max i j:=by lia
 rw[e];exact h
def b6U (t:TA):TA:=λa H Q=>∃P:List V->Hp->Prop,t a H P/\∀x H',P x H'->Q x H'
def qH (h:PA X es t):PA X es (b6U t):=by
 intro b a s d H Q I e
 obtain⟨P,f,g⟩:=e
 exact thn (h b a s d H P I f) λv j ⟨x,c,i,r,q⟩=>⟨x,c,i,r,g x c q⟩
section
variable {o:Expr}{to:TE}{apos cpos:Pos}
def dBl (to:TE):TE:=λa H Q=>to a H λx b=>vI x λi=>Q (.int ((Builtin.Int.intBits i:Nat):Int)) b
def a0U (c:PE X o to)(a:attributeBase o "bit_length" X.env (eval o X.env)=eval o X.env:=by rfl)(b:(apos.endLine == cpos.line)=true:=by rfl):
  PE X (.Call (.Attribute o "bit_length" apos) [] [] cpos) (dBl to):=
 (b4F PySem.F.plainAttrs_int PySem.F.slot_int_bit_length PySem.F.type_int_bit_length b7S (bZ c) a b).imp λd H Q h=>⟨_,h,λx e q=>by
  obtain⟨i,rfl,q⟩:=vI.ex q
  exact⟨rfl,i,rfl,rfl,q⟩⟩
def b1N (K:W.Frag)(to:TE)(t:TA):TE:=λa H Q=>to a H λx b=>vR x λl=>(∃xs,SqL K b l xs)/\t a b λd c=>l1 d λy=>∃xs,c l=some (.lst xs)/\xs.length<sizeLine/\Q .non (upd c l (.lst (xs++[y])))
theorem dC (f:PE X o to)(g:PA X [e] t)(b:attributeBase o "append" X.env (eval o X.env)=eval o X.env:=by rfl)
  (d:((backTo cpos (starEach [e] X.env)).all (λx=>!x.1) && (backToKw cpos (keywordEach [] X.env)).all (λx=>x.1.isSome)
   && decide (([e]:List Expr).length+([]:List Keyword).length+(if ([]:List Keyword).isEmpty then 0 else 1)<30))=true:=by rfl)
  (c:(apos.endLine == cpos.line)=true:=by rfl) (i:starEach [e] X.env=(false,eval e X.env)::starEach [] X.env:=by rfl) (a:(backTo cpos (starEach [] X.env)).any (·.1)=false:=by rfl) :
  PE X (.Call (.Attribute o "append" apos) [e] [] cpos) (b1N X.K to t):=
 (a6R PySem.F.plainAttrs_list PySem.F.slot_list_append PySem.F.type_list_append a2T (bZ f) (qH g) b d c i a).imp λs H Q h=>⟨_,h,λx u q=>by
  obtain⟨l,rfl,j,k⟩:=vR.ex q
  refine⟨.inl ⟨rfl,j⟩,_,k,λv w m=>?_⟩
  obtain⟨y,rfl,xs,n,p,r⟩:=l1.ex m
  exact⟨l,xs,y,rfl,rfl,n,p,r⟩⟩
def b8O (t:TE):TO:=λa H Q=>t a H λx b=>vI x λi=>Q (some i) b
def PO.imp {e:Option Expr}{t t':TO}(h:PO X e t)(i:∀σ H Q,t' σ H Q->t σ H Q):PO X e t':=λa s σ H Q I q=>h a s σ H Q I (i σ H Q q)
def jY (h:PE X e to):PO X (some e) (b8O to):=(b0F (bZ h)).imp λa H Q q=>⟨_,q,λx b z=>vI.ex z⟩
def b7T (K:W.Frag):V->Option Int->Option Int->Hp->VK->Prop:=λx b c H Q=>vR x λa=>∃xs,SqL K H a xs/\∀p,H p=none->Q (.ref p) (upd H p (.lst (lY xs b c)))
def SlR.imp {r b:V->Option Int->Option Int->Hp->VK->Prop}(h:SlR X r)(i:∀x lo hi H Q,b x lo hi H Q->r x lo hi H Q):SlR X b:=by
 intro a s c H x v d e lo hi f Q I g j pl k q
 exact h a s c H x v d e lo hi f Q I g j pl k (i _ _ _ _ _ q)
def zR:SlR X (b7T X.K):=a9P.imp λx d e H Q h=>by
 obtain⟨a,rfl,xs,b,c⟩:=vR.ex h
 exact⟨_,xs,rfl,b,c⟩
variable {tg:Expr}
def PI.imp {a:Expr}{w w':TI}(h:PI X tg a w)(i:∀σ H R,w' σ H R->w σ H R):PI X tg a w':=λb s σ H R I q=>h b s σ H R I (i σ H R q)
def b8P (K:W.Frag)(c:TE):TI:=λd H R=>c d H λx b=>vR x λa=>(∃xs,SqL K b a xs)/\R (Itl K a) b
def cW {l:Expr}{a:TE}(b:PE X l a):PI X tg l (b8P X.K a):=(b0H (bZ b)).imp λc H R h=>⟨_,h,λx d q=>vR.ex q⟩
def b8N (a:TA):TI:=λb H R=>a b H λc d=>l1 c λx=>vI x λj=>(-(2 ^ 62)<=j/\j<2 ^ 62)/\R (Itr 0 j.toNat) d
def fU {a:Expr}{b:TA}{p:Pos}(c:Gl X "range")(d:X.mg "range"=none)(e:PA X [a] b)(f:starEach [a] X.env= [(false,eval a X.env)]:=by rfl):PI X tg (.Call (.Name "range" p) [a] [] pos) (b8N b):=
 (a2N c d (qH e) f).imp λg H R h=>⟨_,h,λi k q=>by
  obtain⟨x,rfl,q⟩:=l1.ex q
  obtain⟨j,rfl,q⟩:=vI.ex q
  exact⟨j,rfl,q.1.1,q.1.2,q.2⟩⟩
end
section
variable {M:Model}{E:Value->Shared->Prop}{B:Heap}{l:List Env}{L e:Addr}{k a0 fl:Value}{od:Option Addr}
end
def oZ (N:List Str)(ix:List Nat):List Str:=ix.map λi=>N.getD i ""
def kZ (σ:St)(ix:List Nat):St:=ix.map λi=>σ.getD i none
def a8I (X:Cx)(a:Scope)(cl:List (Str×Addr))(C:Addr):Value->Shared->Prop:=notedBy (model X.prog X.w) X.A (compEnvC a cl C X.env) λe b=>
 ∃m,b.heap.Ns C m/\∀h',Heap.SameBut C b.heap h'->∀cenv:Env,cenv.locals=C->wpAny (model X.prog X.w) X.A (PySem.passOn "comprehension.variables-let-go" e cenv:Sem Value) (λ_ _=>False) X.xe { b with heap:=h' }
def cZ (X:Cx)(a:Scope)(cl:List (Str×Addr))(x:Str)(ix:List Nat)(C:Addr)(b:List Addr)(s₀:Shared)(H₀:Hp):Cx:=
 { X with N:=x::oZ X.N ix,s₀:=s₀,H₀:=H₀,env:=compEnvC a cl C X.env,outer:=X.stack,ex:=b,fn:=λ_=>false,pn:=[],xe:=a8I X a cl C }
structure dZ (X:Cx)(scope:Scope)(cl:List (Str×Addr))(x:Str)(ix:List Nat):Prop where
 clos:closureFor scope X.env=pure cl
 kind:scope.kind= .function
 loc:scope.names.lookup x=some .local
 one:∀y∈scope.names,y.2= .local->y.1=x\/y.1=".0"
 locs:∀y∈scope.names,y.2= .local->scope.names.lookup y.1=some .local
 nocell:∀y∈scope.names,y.2≠ .cell
 free:∀y∈scope.names,y.2= .free->(X.env.kindOf y.1=some .cell\/X.env.kindOf y.1=some .free)
 cells:∀y∈scope.names,y.2= .free->∃c,cl.lookup y.1=some c
 same:∀y∈cl,X.env.cells.lookup y.1=some y.2
 nd:((".0":Str)::x::oZ X.N ix).Nodup
theorem lookup_mem {α β:Type}[BEq α][LawfulBEq α]{a:α}{b:β}:∀{l:List (α×β)},l.lookup a=some b->(a,b)∈l
 |[],h=>by simp at h
 | (c,d)::r,h=>by
  rw[Xn]at h
  cases e:a == c with
  | true=>
   rw[e]at h
   cases h
   rw[eq_of_beq e];exact Yy
  | false=>
   rw[e]at h
   exact Yw _ (lookup_mem h)
def fZ {k:NameKind}(h:(relabel scope env).names.lookup y=some k):∃k0,scope.names.lookup y=some k0/\(k=k0\/(k0= .free/\k= .cell)):=by
  have b :∀(a:List (Str×NameKind)),(a.map λ(n,k)=>if (k == NameKind.free && env.scope.kind == .function && env.kindOf n == some .cell) then (n,NameKind.cell) else (n,k)).lookup y=some k->
      ∃k0,a.lookup y=some k0/\(k=k0\/(k0= .free/\k= .cell)):=by
    intro a
    induction a with
    |nil=>intro h;simp at h
    | cons p r ih=>
      obtain⟨n,c⟩:=p
      intro h
      rw[YE]at h
      dsimp only at h
      cases hc:(c == NameKind.free && env.scope.kind == .function && env.kindOf n == some .cell) with
      | true=>
        rw[hc,if_pos rfl,Xn]at h
        rw[Xn]
        cases e:y == n with
        | true=>
          rw[e]at h
          cases h
          simp only[Xv]at hc
          exact⟨c,rfl,.inr ⟨eq_of_beq hc.1.1,rfl⟩⟩
        | false=>
          rw[e]at h
          exact ih h
      | false=>
        rw[hc,if_neg Yn,Xn]at h
        rw[Xn]
        cases e:y == n with
        | true=>
          rw[e]at h
          cases h
          exact⟨k,rfl,.inl rfl⟩
        | false=>
          rw[e]at h
          exact ih h
  exact b scope.names h
section
variable {cl:List (Str×Addr)}{x:Str}{fp:List Addr}
def dZ.look (S:dZ X scope cl x ix){c:Addr}(h:cl.lookup y=some c):X.env.cells.lookup y=some c:=S.same _ (lookup_mem h)
theorem dZ.ok (S:dZ X scope cl x ix){pins:List (Addr×Obj)}{σ:St}(I:Inv X pins σ H s)(hf:∀b∈fp,pC X pins H b)(hfl:∀b∈fp,b<s.heap.objs.size)(hC:s.heap.objs.size<=C):
  (cZ X scope cl x ix C fp s H).Ok where
 mod:=I.ok.mod
 kind:=S.kind
 glob:=I.ok.glob
 blt:=I.ok.blt
 above:=hC
 inj:=λy z c h1 h2=>I.ok.inj y z c (S.look h1) (S.look h2)
 has := λy h=>by
  have h':(relabel scope X.env).names.lookup y=some .cell\/(relabel scope X.env).names.lookup y=some .free:=h
  have fr:scope.names.lookup y=some .free:=by
   rcases h' with h' | h'
   ·obtain⟨k0,e,q | q⟩:=fZ h'
    ·exact absurd rfl (q▸S.nocell _ (lookup_mem e))
    ·rw[e,q.1]
   ·obtain⟨k0,e,q | q⟩:=fZ h'
    ·rw[e,<-q]
    ·cases q.2
  exact S.cells _ (lookup_mem fr) rfl
 cab:=λy c h=>absurd h Yn
 hd:=I.ok.hd
 frames:=I.ok.frames
 stk:= .inl rfl
 exf:=λb hb=>⟨YA (Yh (hfl b hb) hC),λy c e=>(hf b hb).2.2.2.2.1 y c (S.look e)⟩
 bs:=I.bs
 bsz:=YY I.ok.bsz I.sz
 noex:=λb o e hb=>by
  rcases (hf b hb).2.2.2.1 with z | z
  ·exact I.ok.noex b o e z
  ·exact absurd (Yh (Ys e) (YY I.ok.bsz z)) (YZ _)
 exfs:=λb hb z=>by
  rcases YI.mp (I.stkSub b z) with e | e
  ·exact(hf b hb).2.1 e
  ·exact(hf b hb).2.2.1 e
 funs:=I.stack
 frf:=I.stkFree
def a4Q {j:Nat}(h:(oZ N ix)[j]? =some y):∃i,ix[j]? =some i/\y=N.getD i "":=by
 unfold oZ at h
 rw[Yo]at h
 cases e:ix[j]? with
 |none=>rw[e]at h;cases h
 |some i=>rw[e]at h;cases h;exact⟨i,rfl,rfl⟩
def a4P {σ:St}{j:Nat}{v:V}(h:(kZ σ ix)[j]? =some (some v)):∃i,ix[j]? =some i/\σ[i]? =some (some v):=by
 unfold kZ at h
 rw[Yo]at h
 cases e:ix[j]? with
 |none=>rw[e]at h;cases h
 | some i=>
  rw[e]at h
  have a:σ.getD i none=some v:=by simpa using h
  refine⟨i,rfl,?_⟩
  rw[Yf]at a
  cases e2:σ[i]? with
  |none=>rw[e2]at a;cases a
  |some u=>rw[e2]at a;exact YO some a
theorem dZ.inv (S:dZ X scope cl x ix){pins:List (Addr×Obj)}{σ:St}{H:Hp}{s s1:Shared}{m:Str->Option Value}(I:Inv X pins σ H s)(hf:∀b∈fp,pC X pins H b)(hfl:∀b∈fp,b<s.heap.objs.size)
  (hC:s.heap.objs.size<=C) (os:s1.os=s.os) (bare:AllBare s1.gens) (k:∀b o,s.heap.get? b=some o->s1.heap.get? b=some o) (hn:s1.heap.Ns C m) :
  Inv (cZ X scope cl x ix C fp s H) [] (none::kZ σ ix) H s1 where
 ok:=S.ok I hf hfl hC
 os:=os
 bare:=bare
 base:=Un.kept k
 loc := ⟨m, hn,λi y v h1 h2 h3=>by
  cases i with
  |zero=>cases (show none=some v from Yp h2)
  | succ j =>
   obtain⟨i,e1,e2⟩:=a4Q (N:=X.N) (show (oZ X.N ix)[j]? =some y from h1)
   obtain⟨i',e1',e3⟩:=a4P (σ:=σ) (show (kZ σ ix)[j]? =some (some v) from h2)
   rw[e1]at e1';cases e1'
   have hi:i<X.N.length:=by rw[<-I.len];exact(Ye.mp e3).1
   have hy:X.N[i]? =some y:=by rw[e2,Yf,Yb hi];rfl
   have ne:y≠x:=by
    rintro rfl
    have nd:=(Xd.mp S.nd).2
    exact(Xd.mp nd).1 (Yu (show (oZ X.N ix)[j]? =some y from h1))
   have h3':(relabel scope X.env).names.lookup y=some .local\/(relabel scope X.env).names.lookup y=some .cell\/(relabel scope X.env).names.lookup y=some .free:=h3
   have fr :scope.names.lookup y=some .free/\((relabel scope X.env).names.lookup y=some .cell\/(relabel scope X.env).names.lookup y=some .free):=by
    rcases h3' with z | z | z
    ·obtain⟨k0,e,q | q⟩:=fZ z
     ·rcases S.one _ (lookup_mem e) q.symm with z | z
      ·exact absurd z ne
      ·have z':y=".0":=z
       exact absurd (Yw _ (Yu (show (oZ X.N ix)[j]? =some y from h1))) (z'▸(Xd.mp S.nd).1)
     ·cases q.2
    ·obtain⟨k0,e,q | q⟩:=fZ z
     ·exact absurd rfl (q▸S.nocell _ (lookup_mem e))
     ·exact⟨by rw[e,q.1],.inl z⟩
    ·obtain⟨k0,e,q | q⟩:=fZ z
     ·exact⟨by rw[e,<-q],.inr z⟩
     ·cases q.2
   have vis:=S.free _ (lookup_mem fr.1) rfl
   obtain⟨m0,_,l0⟩:=I.loc
   obtain⟨u,r,l⟩:=l0 i y v hy e3 (vis.elim (λz=> .inr (.inl z)) λz=> .inr (.inr z))
   refine⟨u,r,.inr ⟨fr.2,?_⟩⟩
   rcases l with ⟨k1,_⟩ | ⟨_,c,ec,oc,hoc,hd⟩
   ·rcases vis with z | z
    ·have:=k1.symm.trans z;cases this
    ·have:=k1.symm.trans z;cases this
   ·obtain⟨c',e'⟩:=S.cells _ (lookup_mem fr.1) rfl
    have:some c'=some c:=(S.look e').symm.trans ec
    cases this
    exact⟨c,e',oc,k _ _ hoc,hd⟩⟩
 cell:=λy c e=>by
  obtain⟨v,oc,hoc,hd⟩:=I.cell y c (S.look e)
  exact⟨v,oc,k _ _ hoc,hd⟩
 free:=I.hok.fresh hC
 freeC:=λy c e=>I.freeC y c (S.look e)
 pin:=λp hp=>absurd (show p∈([]:List (Addr×Obj)) from hp) (by simp)
 hok:=I.hok.kept k
 len:=by show (none::kZ σ ix).length=(x::oZ X.N ix).length;simp[kZ,oZ]
end
def PTs (X:Cx)(a:List Expr)(t:TT):Prop:=
 ∀ (pins:List (Addr×Obj))(s:Shared)(σ:St)(H:Hp)(Q:Bool->Hp->Prop),Inv X pins σ H s->t σ H Q->
  wpAny (model X.prog X.w) X.A (forIn a true λc r=>if r=true then do let ok<-isTrue c X.env (eval c X.env);pure (ForInStep.yield ok) else pure (ForInStep.yield r)) (TP X pins σ Q) X.xe s
def b9G:TT:=λ_ H Q=>Q true H
def fX:PTs X [] b9G:=λ_ _ _ H _ I h=>wpAny_tests_nil ⟨H,I,h⟩
def pG {c:Expr}{t:TT}(h:PT X c t):PTs X [c] t:=λa s b H Q I d=>wpAny_tests_one (h a s b H Q I d)
section
variable {prog:Program}{R:Result->Shared->Prop}
theorem uN {elt target iter:Expr}{ifs:List Expr}{scope:Scope}{pos:Pos}{it acc:Value}{env:Env}(I:Nat->Shared->Prop)
    (turn : ∀ n s,I n s->wpAny (model prog w) A (pyNext it) (λr s₁=>match r with
      |none=>R (.ok .next) s₁
      | some v =>wpAny (model prog w) A (letOwnedTupleGo target it v) (λ_ s₀=>wpAny (model prog w) A (assign target env v) (λ_ s₂=>
          wpAny (model prog w) A (forIn ifs true λc r=>if r=true then do let ok<-isTrue c env (eval c env);pure (ForInStep.yield ok) else pure (ForInStep.yield r)) (λok s₃=>
            if ok=true then wpAny (model prog w) A (eval elt env) (λx s₄=>
              wpAny (model prog w) A (call (.builtin "list.append") [acc,x]) (λ_ s₅=>∃m,m<n/\I m s₅) (notedBy (model prog w) A env λe s'=>R (.error e) s') s₄) (notedBy (model prog w) A env λe s'=>R (.error e) s') s₃
            else ∃m,m<n/\I m s₃) (notedBy (model prog w) A env λe s'=>R (.error e) s') s₂) (notedBy (model prog w) A env λe s'=>R (.error e) s') s₀) (notedBy (model prog w) A env λe s'=>R (.error e) s') s₁) (notedBy (model prog w) A env λe s'=>R (.error e) s') s)
    (n:Nat) (h:I n s) :
    codeAny (model prog w) A (.compLoop (.ListComp elt [⟨target,iter,ifs,0⟩] scope pos) 0 it acc env) R s:=by
  refine codeAny_loop rfl I (λn s hI=>?_) n h
  show wpAny _ A ((compTurn (.ListComp elt [⟨target,iter,ifs,0⟩] scope pos) 0 it acc env).onRaise (λx=>do noteFrame x env;theTreesLotGoes x)) _ _ s
  refine wpAny_noted ?_
  rw[compTurn_list]
  refine Y4 (wpAny_standAt (Y4 (Xc (turn n s hI) (λr s₁ h₁=>?_) λ_ _ h'=>h')))
  cases r with
  |none=>exact Xf h₁
  | some v=>
    refine Y4 (Xc h₁ (λ_ s₀ h₀=>?_) λ_ _ h'=>h')
    refine Y4 (Xc h₀ (λ_ s₂ h₂=>Y4 (Xc h₂ (λok s₃ h₃=>?_) λ_ _ h'=>h')) λ_ _ h'=>h')
    cases ok with
    |false=>exact Xf ⟨rfl,h₃⟩
    | true=>
      exact Y4 (Y4 (Xc h₃ (λx s₄ h₄=>Y4 (Xc h₄ (λ_ s₅ h₅=>Xf (Xf ⟨rfl,h₅⟩)) λ_ _ h'=>h')) λ_ _ h'=>h'))
end
def qY (J:It)(d:TT)(e:TE)(a:V->St)(f:Hp)(Q:VK):Prop:=∃W:Nat->Nat->List V->Hp->Prop,(∃m,W 0 m [] f)/\∀i m ys H,W i m ys H->ys.length<sizeLine/\
  ((J.stop i H/\∀p,H p=none->Q (.ref p) (upd H p (.lst ys)))\/
   (J.go i H/\∃N:List V->Hp->Prop,(∀ys' H',N ys' H'->∃m',m'<m/\W (i+1) m' ys' H')/\∀x H',J.yld i H x H'->d (a x) H' λb c=>if b=true then e (a x) c λy g=>N (ys++[y]) g else N ys c))
structure mK (X:Cx)(C:Addr)(fp:List Addr)(s:Shared)(H:Hp):Prop where
 inv:∃pins σ,Inv X pins σ H s/\∀b∈fp,pC X pins H b
 low:∀b∈fp,b<s.heap.objs.size
 up:s.heap.objs.size<=C
def b2F (ix:List Nat)(b:TI)(c:TT)(d:TE):TE:=λa H Q=>b a H λJ e=>qY J c d (λx=>some x::kZ a ix) e Q
section
variable {cl:List (Str×Addr)}{x:Str}{elt iter:Expr}{ifs:List Expr}{px:Pos}{wi:TI}{tt:TT}{te:TE}
theorem qW (S:dZ X scope cl x ix)(hc:X.calm=true)
    (ht:∀C fp s H,mK X C fp s H->PTs (cZ X scope cl x ix C fp s H) ifs tt) (he:∀C fp s H,mK X C fp s H->PE (cZ X scope cl x ix C fp s H) elt te)
    {pins:List (Addr×Obj)} {σ:St} {Q:VK} {itv:Value} {s2:Shared} {E:Value->Shared->Prop} {RR:Value->Addr->Result->Shared->Prop} (h2:PIE X pins σ (.Name x px) (λJ H1=>qY J tt te (λx=>some x::kZ σ ix) H1 Q) itv s2)
    (fin:∀(D C:Addr)(H:Hp)(s':Shared)(m:Str->Option Value),Inv X pins σ H s'->s'.heap.Ns C m->H C=none->s2.heap.objs.size<=C->(∀p∈X.pn++pins,p.1≠C)->X.env.locals≠C->(∀y c,X.env.cells.lookup y=some c->c≠C)->X.s₀.heap.objs.size<=C->Q (.ref D) H->RR (.ref D) C (.ok .next) s')
    (fex:∀(D C:Addr)(e:Value)(s':Shared),a8I X scope cl C e s'->notedBy (model X.prog X.w) X.A (compEnvC scope cl C X.env) (λe s'=>RR (.ref D) C (.error e) s') e s') :
    wpAny (model X.prog X.w) X.A (newList []) (λacc s₃=>wpAny (model X.prog X.w) X.A (newFunctionEnv scope X.env.globals cl [] X.env.qual none .none (some X.env)) (λcenv s₄=>
      codeAny (model X.prog X.w) X.A (.compStart (.ListComp elt [⟨.Name x px,iter,ifs,0⟩] scope pos) 0 itv acc { cenv with scope:=relabel scope X.env }) (RR acc cenv.locals) s₄) E s₃) E s2:=by
  obtain⟨it,fp,tn,J,F,rfl,L,T,b4,f2,W,⟨m0,w0⟩,turn⟩:=h2
  have M:∀b∈fp,b<s2.heap.objs.size:=λb a=>by
    obtain⟨o,e,_⟩:=T.obj _ _ b4 b a
    exact Ys e
  refine wpAny_newObj_type (wpAny_newFunctionEnv S.nocell (by intro y hy;simp at hy) (λG t k=>?_) S.kind)
  dsimp only at t k ⊢
  generalize hH2:s2.heap.push { cls:= .type "list",dict:=none,data:= .seq ([]:List Value).toArray }=G2 at t k ⊢
  have hC:G2.objs.size=s2.heap.objs.size+1:=by rw[<-hH2,Heap.size_push]
  have R:s2.heap.objs.size≠G2.objs.size:=by rw[hC];exact YA (Xo _)
  have l:s2.heap.objs.size<=G2.objs.size:=by rw[hC];exact XE _
  have f:∀b,b<s2.heap.objs.size->b≠G2.objs.size/\b≠s2.heap.objs.size:=λb a=>⟨by rw[hC];exact YA (Nat.lt_succ_of_lt a),YA a⟩
  have at0:mK X G2.objs.size fp s2 F:=⟨⟨pins,σ,L,f2⟩,M,l⟩
  have b5:∀b o,s2.heap.get? b=some o->G.get? b=some o:=λb o e=>k.extBut b o (f b (Ys e)).1 (Ym _ (hH2▸Ym _ e))
  have b6:G.get? s2.heap.objs.size=some { cls:= .type "list",data:= .seq ([]:List Value).toArray 0 }:=k.extBut _ _ R (Ym _ (hH2▸Yz _ rfl))
  have b7:tn 0 G:=T.keep _ _ _ b4 λb _ o e=>b5 b o e
  have a7:∀{H':Hp},(∀b∈fp,H' b=none)->∀b∈fp,pC (cZ X scope cl x ix G2.objs.size fp s2 F) [] H' b:=λhn b a=>
    ⟨hn b a,(f b (M b a)).1,λz=>by
      rcases YI.mp (L.stkSub b z) with e | e
      · exact(f2 b a).2.1 e
      · exact(f2 b a).2.2.1 e,.inl a,λy c e=>(f2 b a).2.2.2.2.1 y c (S.look e),λp I=>absurd (show p∈([]:List (Addr×Obj)) from I) (by simp)⟩
  have I3:∀s₃:Shared,s₃={ s2 with heap:=G,toks:=s2.toks+([]:List (Str×Value)).length }->Inv (cZ X scope cl x ix G2.objs.size fp s2 F) [] (none::kZ σ ix) F s₃:=λs₃ e=>by
    subst e
    exact S.inv L f2 M l rfl L.bare b5 t
  let Acc:List V->Heap->Prop:=λU h=>∃g n,Vals U g/\h.get? s2.heap.objs.size=some { cls:= .type "list",data:= .seq g.toArray n }
  have a8 :∀s₃:Shared,s₃={ s2 with heap:=G,toks:=s2.toks+([]:List (Str×Value)).length }->
      codeAny (model X.prog X.w) X.A (.compLoop (.ListComp elt [⟨.Name x px,iter,ifs,0⟩] scope pos) 0 (.ref it) (.ref s2.heap.objs.size) (compEnvC scope cl G2.objs.size X.env)) (RR (.ref s2.heap.objs.size) G2.objs.size) s₃:=by
    intro s₃ Y
    refine uN (λn s'=>∃i U H',Inv (cZ X scope cl x ix G2.objs.size fp s2 F) [] (none::kZ σ ix) H' s'/\H' s2.heap.objs.size=none/\Acc U s'.heap/\tn i s'.heap/\(∀b∈fp,H' b=none)/\W i n U H') ?_ m0
      ⟨0, [],F,I3 s₃ Y,L.hok.fresh (Yc _),⟨[],0,.nil,by rw[Y];exact b6⟩,by rw[Y];exact b7,λb a=>(f2 b a).1,w0⟩
    rintro n s4 ⟨i,U,H4,I4,a0,⟨g,kk,rv,eD⟩,b9,c0,w4⟩
    obtain⟨hsz,q4⟩:=turn i n U H4 w4
    have d4:=rv.length
    rcases q4 with ⟨c1,qn⟩ | ⟨go,N,hN,step⟩
    · refine Xc (T.done (cZ X scope cl x ix G2.objs.size fp s2 F) rfl rfl rfl hc i [(s2.heap.objs.size,{ cls:= .type "list",data:= .seq g.toArray kk })] s4 (none::kZ σ ix) H4 (λ_ _=>False) ?_ ?_ b9 c1) (λr s5 ⟨hr,I5⟩=>?_) λ_ _ z=>z.elim
      · refine I4.pins_of λp I=>?_
        rw[Yk.mp I]
        exact⟨eD,a0,R,λz=>by
          have:=Heap.FunFrames.mem L.stack z
          obtain⟨_,o,ho,_⟩:=this
          exact YZ _ (Ys ho),λv z=>by cases z⟩
      · intro b a
        obtain⟨a1,a2,a3,a4,a5,_⟩:=a7 c0 b a
        exact⟨a1,a2,a3,a4,a5,λp I=>by
          rw[Yk.mp I]
          exact λz=>(f b (M b a)).2 z.symm⟩
      subst hr
      have c6:=(I5.pin _ (by simp:(s2.heap.objs.size,({ cls:= .type "list",data:= .seq g.toArray kk }:Obj))∈(cZ X scope cl x ix G2.objs.size fp s2 F).pn++[(s2.heap.objs.size,{ cls:= .type "list",data:= .seq g.toArray kk })])).1
      have O:∀b u,H4 b=some u->b≠s2.heap.objs.size:=λb u e z=>by rw[z,a0]at e;cases e
      have c7:HOk X.prog X.w (upd H4 s2.heap.objs.size (.lst U)) s5.heap:=by
        intro b u e
        by_cases a:b=s2.heap.objs.size
        · subst a
          rw[aB]at e
          cases e
          exact⟨Xx hsz,g,kk,rv,c6⟩
        · rw[aH a]at e
          exact(I5.hok b u e).stay (λc v _ q=>q) (λc q=>by rw[aH (O c _ q)];exact q) λc xs q=>by rw[aH (O c _ q)];exact q
      have un:Un (frs X.stack) fp F (upd H4 s2.heap.objs.size (.lst U)) s2.heap s5.heap:=by
        have B:=I5.base
        exact⟨B.keep,B.slot,λb o e n hx=>by rw[aH (f b (Ys e)).2];exact B.free b o e n hx,B.there,
          λb xs e=>by rw[aH (O b _ (B.tups b xs e))];exact B.tups b xs e,λb o u e=>by rw[aH (O b _ (B.frzs b o u e))];exact B.frzs b o u e,
          λb ps e=>by
            obtain⟨mm,z⟩:=B.tbls b ps e
            exact⟨mm,by rw[aH (O b _ z)];exact z⟩⟩
      have J5:Inv X pins σ (upd H4 s2.heap.objs.size (.lst U)) s5:=L.call' (ch:=fp) I5.os un c7 I5.bare λb a=>⟨(f2 b a).2.2.2.1,(f2 b a).2.1,(f2 b a).2.2.2.2.1,(f2 b a).2.2.2.2.2⟩
      obtain⟨mC,c8,_⟩:=I5.loc
      refine fin _ _ _ _ mC J5 c8 (by rw[aH (Va R)];exact I5.free) l (λp I z=>?_) (YA (Yh L.lt l)) (λy c e z=>?_) (YY L.sz l) (qn _ a0)
      · exact absurd (Yh (Ys (L.pin p I).1) l) (by rw[z];exact YZ _)
      · obtain⟨v,oc,b1,_⟩:=L.cell y c e
        exact absurd (Yh (Ys b1) l) (by rw[z];exact YZ _)
    · have c2:∀{pl:List (Addr×Obj)}{σ':St}{H':Hp}{s':Shared}{its':List Value}{k':Nat},Inv (cZ X scope cl x ix G2.objs.size fp s2 F) pl σ' H' s'->s'.heap.get? s2.heap.objs.size=some { cls:= .type "list",data:= .seq its'.toArray k' }->H' s2.heap.objs.size=none->
          Inv (cZ X scope cl x ix G2.objs.size fp s2 F) [(s2.heap.objs.size,{ cls:= .type "list",data:= .seq its'.toArray k' })] σ' H' s':=λI' e' n'=>I'.pins_of λp I=>by
        rw[Yk.mp I]
        exact⟨e',n',R,λz=>by
          obtain⟨_,o,ho,_⟩:=Heap.FunFrames.mem L.stack z
          exact YZ _ (Ys ho),λv z=>by cases z⟩
      have Z:∀{H':Hp},(∀b∈fp,H' b=none)->∀b∈fp,pC (cZ X scope cl x ix G2.objs.size fp s2 F) [(s2.heap.objs.size,{ cls:= .type "list",data:= .seq g.toArray kk })] H' b:=λhn b a=>by
        obtain⟨a1,a2,a3,a4,a5,_⟩:=a7 hn b a
        exact⟨a1,a2,a3,a4,a5,λp I=>by
          rw[Yk.mp I]
          exact λz=>(f b (M b a)).2 z.symm⟩
      refine Xc (T.item (cZ X scope cl x ix G2.objs.size fp s2 F) rfl rfl rfl hc i _ s4 _ H4 (λ_ _=>False) (c2 I4 eD a0) (Z c0) b9 go) (λr s5 K=>?_) λ_ _ z=>z.elim
      obtain⟨u,hr,h5⟩:=K
      subst hr
      refine Xc h5 (λ_ s6 K=>?_) λ_ _ z=>z.elim
      obtain⟨y,H6,I6,r6,y6,b2,c9⟩:=K
      have d0:=I6.pinned (Z c9) (T.obj _ _ b2)
      have c3:(relabel scope X.env).names.lookup x=some .local:=lookup_relabel_local S.loc
      refine wpAny_assign_Name (pW (X:=cZ X scope cl x ix G2.objs.size fp s2 F) (i:=0) d0 (Xd.mp S.nd).2 rfl (.inl c3) r6 (λs7 I7=>?_) (.inr c3))
      have q7:=step y H6 y6
      refine Xc (ht _ _ _ _ at0 _ s7 (some y::kZ σ ix) H6 _ I7 q7) (λok s8 K=>?_) λ_ _ z=>fex _ _ _ _ z
      obtain⟨H8,I8,q8⟩:=K
      have kept:∀{c4:St}{P:Hp}{s9:Shared},Inv (cZ X scope cl x ix G2.objs.size fp s2 F) ([(s2.heap.objs.size,{ cls:= .type "list",data:= .seq g.toArray kk })]++qF fp s6.heap) c4 P s9->
          s9.heap.get? s2.heap.objs.size=some { cls:= .type "list",data:= .seq g.toArray kk }/\P s2.heap.objs.size=none/\tn (i+1) s9.heap/\∀b∈fp,P b=none:=λ{c4 P s9} I9=>by
        have p0:=I9.pin (s2.heap.objs.size,{ cls:= .type "list",data:= .seq g.toArray kk }) (YT _ (Xr _ (Yk.mpr rfl)))
        refine⟨p0.1,p0.2.1,T.keep _ _ _ b2 λb a o e=>(I9.pin (b,o) (YT _ (YT _ (jX a e)))).1,λb a=>?_⟩
        obtain⟨o,e,d⟩:=T.obj _ _ b2 b a
        exact(I9.pin (b,o) (YT _ (YT _ (jX a e)))).2.1
      have a9:∀{pl:List (Addr×Obj)}{P:Hp}{s9:Shared},Inv (cZ X scope cl x ix G2.objs.size fp s2 F) pl (some y::kZ σ ix) P s9->Inv (cZ X scope cl x ix G2.objs.size fp s2 F) [] (none::kZ σ ix) P s9:=λ{pl P s9} I9=>
        (I9.weak (σ':=none::kZ σ ix) rfl λj v e=>by
          cases j with
          |zero=>cases (show none=some v from Yp e)
          |succ j=>exact e).pins_of λp I=>nomatch I
      cases ok with
      | true=>
        rw[if_pos rfl]at q8 ⊢
        refine Xc (he _ _ _ _ at0 _ s8 (some y::kZ σ ix) H8 _ I8 q8) (λyv s9 K=>?_) λ_ _ z=>fex _ _ _ _ z
        obtain⟨yy,P,I9,r9,n9⟩:=K
        obtain⟨m',b3,w9⟩:=hN _ _ n9
        obtain⟨kD,kn,kt,kf⟩:=kept I9
        refine append_at (hsz:=by rw[Yx];lia) kD λd1 b0 c5=>?_
        have O:∀b u,P b=some u->b≠s2.heap.objs.size:=λb u e z=>by rw[z,kn]at e;cases e
        have d2:=a9 I9
        have a6:∀y c,cl.lookup y=some c->c≠s2.heap.objs.size:=λy c e z=>by
          obtain⟨v,oc,b1,_⟩:=L.cell y c (S.look e)
          exact absurd (Ys b1) (by rw[z];exact YZ _)
        have d3:Inv (cZ X scope cl x ix G2.objs.size fp s2 F) [] (none::kZ σ ix) P { s9 with heap:=d1 }:=d2.turned (t':=s9.toks) (it:=s2.heap.objs.size) (λb o a e=>b0.extBut b o a e) kn R (.inr (Yc _)) a6 λp I=>absurd (show p∈([]:List (Addr×Obj)) from I) (by simp)
        refine⟨m',b3,i+1,U++[yy],P,d3,kn,⟨g++[yv],kk+1,rv.append (.cons r9 .nil),?_⟩,T.keep _ _ _ kt λb a o e=>b0.extBut b o (f b (M b a)).2 e,kf,w9⟩
        refine c5.trans (YO some ?_)
        simp
      | false=>
        rw[if_neg Yn]at q8 ⊢
        obtain⟨m',b3,w9⟩:=hN _ _ q8
        obtain⟨kD,kn,kt,kf⟩:=kept I8
        exact⟨m',b3,i+1,U,H8,a9 I8,kn,⟨g,kk,rv,kD⟩,kt,kf,w9⟩
  exact codeAny_compStart_list (a8 _ rfl) (T.self _ 0 _ _ _ b7 (a8 _ rfl))
def cI (env:Env):List (Str×NameKind)->List (Str×Addr)->List (Str×Addr)
 |[],cs=>cs
 |(n,k)::r,cs=>cI env r (if k == .free then (n,(env.cells.lookup n).getD 0)::cs else cs)
theorem uO:∀(names:List (Str×NameKind))(cs:List (Str×Addr)),(∀y∈names,y.2= .free->∃c,env.cells.lookup y.1=some c)->
  (forIn names cs λ(p:Str×NameKind) (r:List (Str×Addr))=>match p with | (name,kind)=>if (kind == .free)=true then do let c<-cellOf env name;pure (ForInStep.yield ((name,c)::r)) else pure (ForInStep.yield r):Sem (List (Str×Addr)))=pure (cI env names cs)
 |[],cs,_=>rfl
 | (n, k)::r,cs,h=>by
  rw[List.forIn_cons]
  cases hk:k == NameKind.free with
  | true=>
   obtain⟨c,hc⟩:=h (n,k) Yy (eq_of_beq hk)
   have e1:cellOf env n=pure c:=by unfold cellOf;rw[hc]
   have e2:cI env ((n,k)::r) cs=cI env r ((n,c)::cs):=by
    show cI env r (if (k == .free)=true then (n,(env.cells.lookup n).getD 0)::cs else cs)=_
    rw[hk,if_pos rfl,hc];rfl
   rw[e2,<-uO r ((n,c)::cs) λy hy=>h y (Yw _ hy)]
   dsimp only
   rw[if_pos hk,e1]
   rfl
  | false=>
   have e2:cI env ((n,k)::r) cs=cI env r cs:=by
    show cI env r (if (k == .free)=true then (n,(env.cells.lookup n).getD 0)::cs else cs)=_
    rw[hk,if_neg Yn]
   rw[e2,<-uO r cs λy hy=>h y (Yw _ hy)]
   dsimp only
   rw[if_neg (by rw[hk];exact Yn)]
   rfl
theorem nU {y:Str×Addr}:∀(names:List (Str×NameKind))(cs:List (Str×Addr)),y∈cI env names cs->y∈cs\/∃k∈names,k.2= .free/\k.1=y.1/\y.2=(env.cells.lookup y.1).getD 0
 |[],cs,h=> .inl h
 | (n, k)::r,cs,h=>by
  rcases nU r _ h with z | ⟨p,hp,e⟩
  ·cases hk:k == NameKind.free with
   | true=>
    rw[hk,if_pos rfl]at z
    rcases YI.mp z with z | z
    ·exact .inr ⟨(n,k),Yy,eq_of_beq hk,by rw[z],by rw[z]⟩
    ·exact .inl z
   | false=>
    rw[hk,if_neg Yn]at z
    exact .inl z
  ·exact .inr ⟨p,Yw _ hp,e⟩
theorem iY {c:Addr}:∀{l:List (Str×Addr)},(y,c)∈l->∃d,l.lookup y=some d
 |[],h=>by simp at h
 | (n, d)::r,h=>by
  rw[Xn]
  cases e:y == n with
  |true=>exact⟨d,rfl⟩
  | false=>
   rcases YI.mp h with z | z
   ·have:y=n:=(Prod.mk.inj z).1
    rw[this,beq_self_eq_true]at e;cases e
   ·exact iY z
theorem nA:∀(names:List (Str×NameKind))(cs:List (Str×Addr)),((y,NameKind.free)∈names\/∃c,(y,c)∈cs)->∃c,(y,c)∈cI env names cs
 | [],cs,h=>by
  rcases h with h | h
  ·simp at h
  ·exact h
 | (n, k)::r,cs,h=>by
  refine nA r _ ?_
  rcases h with h | ⟨c,h⟩
  ·rcases YI.mp h with z | z
   ·obtain⟨e1,e2⟩:=Prod.mk.inj z
    subst e1 e2
    exact .inr ⟨(env.cells.lookup y).getD 0,by rw[if_pos (beq_self_eq_true _)];exact Yy⟩
   ·exact .inl z
  ·refine .inr ⟨c,?_⟩
   split
   ·exact Yw _ h
   ·exact h
def zK (a:Scope)(env:Env)(x:Str):Bool:=a.names.all λy=>(y.2 != .local || ((y.1 == x || y.1 == ".0") && a.names.lookup y.1 == some .local)) && y.2 != .cell && (y.2 != .free || env.kindOf y.1 == some .cell || env.kindOf y.1 == some .free)
def nR (ok:X.Ok)(g:scope.kind= .function)(h:scope.names.lookup x=some .local)(d:zK scope X.env x=true)(i:((".0":Str)::x::oZ X.N ix).Nodup):dZ X scope (cI X.env scope.names []) x ix:=by
 have all:∀y∈scope.names,(y.2= .local->(y.1=x\/y.1=".0")/\scope.names.lookup y.1=some .local)/\y.2≠ .cell/\(y.2= .free->(X.env.kindOf y.1=some .cell\/X.env.kindOf y.1=some .free)):=λy a=>by
  have z:=XW.mp d y a
  simp only[Xv,Bool.or_eq_true,bne_iff_ne,XV,ne_eq]at z
  refine⟨λe=>z.1.1.resolve_left λq=>q e,z.1.2,λe=>?_⟩
  rcases z.2 with (q | q) | q
  ·exact absurd e q
  ·exact .inl q
  ·exact .inr q
 have b:∀y∈scope.names,y.2= .free->∃c,X.env.cells.lookup y.1=some c:=λy a e=>ok.has y.1 ((all y a).2.2 e)
 refine⟨?_,g,h,λy a e=>((all y a).1 e).1,λy a e=>((all y a).1 e).2,λy a=>(all y a).2.1,λy a=>(all y a).2.2,λy a e=>?_,λy a=>?_,i⟩
 ·have q:=uO scope.names [] b
  unfold closureFor
  have j:(forIn scope.names [] λ(p:Str×NameKind) (r:List (Str×Addr))=>match p with | (name,kind)=>if (kind == .free)=true then do let c<-cellOf X.env name;pure (ForInStep.yield ((name,c)::r)) else pure (ForInStep.yield r):Sem (List (Str×Addr))) >>= (λl=>pure l)=pure (cI X.env scope.names []):=by
   rw[q];rfl
  exact j
 ·obtain⟨n,k⟩:=y
  have m:k= .free:=e
  subst m
  obtain⟨c,f⟩:=nA (env:=X.env) scope.names [] (.inl a)
  exact iY f
 ·rcases nU scope.names [] a with z | ⟨p,o,s,t,u⟩
  ·simp at z
  ·obtain⟨c,f⟩:=b p o s
   rw[t]at f
   rw[u,f];rfl
theorem gU (k:X.calm=true)(l:PI X (.Name x px) iter wi)(n:∀C fp s H,mK X C fp s H->PTs (cZ X scope (cI X.env scope.names []) x ix C fp s H) ifs tt)(p:∀C fp s H,mK X C fp s H->PE (cZ X scope (cI X.env scope.names []) x ix C fp s H) elt te)
  (r:scope.kind= .function) (t:scope.names.lookup x=some .local) (a:zK scope X.env x=true) (u:((".0":Str)::x::oZ X.N ix).Nodup)
  (w:∀x,foldedSetIterable iter X.env x=pure x:=by intro _;rfl):PE X (.ListComp elt [⟨.Name x px,iter,ifs,0⟩] scope pos) (b2F ix wi tt te):=by
 intro c s y H Q I h
 have S:dZ X scope (cI X.env scope.names []) x ix:=nR I.ok r t a u
 rw[eval_ListComp]
 refine wpAny_comprehension_free (use:=none) rfl w S.clos S.kind S.locs (thn (l c s y H _ I h) λv P A=>thn A λB R E=>?_)
 refine qW S k n p E (λD C F i m J G d j K L f g q=>?_) λD C e i z=>z
 exact⟨m,G,λT M=>⟨.ref D,F,J.turned (t':=i.toks) (λb o O e=>M.extBut b o O e) d (Va L) (.inr g) f K,rfl,q⟩⟩
theorem iU {j:Nat}{y:Str}{f c:Pos}(K:X.N.Nodup)(L:X.N[j]? =some y)(E:X.env.scope.names.lookup y=some .local)(M:X.calm=true)(O:PI X (.Name x px) iter wi)
  (P:∀C fp s H,mK X C fp s H->PTs (cZ X scope (cI X.env scope.names []) x ix C fp s H) ifs tt) (R:∀C fp s H,mK X C fp s H->PE (cZ X scope (cI X.env scope.names []) x ix C fp s H) elt te)
  (T:scope.kind= .function) (U:scope.names.lookup x=some .local) (g:zK scope X.env x=true) (V:((".0":Str)::x::oZ X.N ix).Nodup)
  (n:swapsWith (.ListComp elt [⟨.Name x px,iter,ifs,0⟩] scope pos) (some (.Name y f)) c.line X.env=pure true:=by rfl) (W:∀x,foldedSetIterable iter X.env x=pure x:=by intro _;rfl) :
  PS X (.Assign [.Name y f] (.ListComp elt [⟨.Name x px,iter,ifs,0⟩] scope pos) c) (b6X (b2F ix wi tt te) (wU j)):=by
 intro d s p H D I h
 have S:dZ X scope (cI X.env scope.names []) x ix:=nR I.ok T U g V
 rw[exec_Assign_Name_used _ _ _ _ n]
 refine Y4 (wpAny_standAt (Y4 ?_))
 show wpAny _ _ (do let _<-comprehension (.ListComp elt [⟨.Name x px,iter,ifs,0⟩] scope pos) scope X.env _ (newList []) false (eval iter X.env) (some (assign (.Name y f) X.env))) _ _ s
 refine Y4 (Xc (wpAny_comprehension_free (use:=some (assign (.Name y f) X.env)) (Q:=λ_ k=>SP X d D .next k) rfl W S.clos S.kind S.locs
  (thn (O d s p H _ I h) λv s1 Y=>thn Y λZ s2 h2=>?_)) (λ_ k hq=>Xf (Xf hq)) λ_ _ e=>e)
 refine qW (Q:=λv H1=>D.nx (p.set j (some v)) H1) S M P R h2 (λl C H' k m J hn r F hp G i t q=>?_) λl C e k z=>z
 show wpAny _ _ (assign (.Name y f) X.env (.ref l)) _ _ _
 refine wpAny_assign_Name (rW J K L (.inl E) (v:= .ref l) rfl (λu J' w=>?_) (.inr E))
 obtain⟨a,sb,ha⟩:=w
 have A:C≠a:=by
  rcases ha with e | e
  ·rw[e];exact Va G
  ·exact Va (i y a e)
 exact⟨m,hn.sameBut sb A,λh' B=>⟨p.set j (some (.ref l)),H',J'.turned (t':=u.toks) (λb o hb e=>B.extBut b o hb e) r (Va G) (.inr t) i hp,q⟩⟩
end
theorem jZ {lo:Int}{n:Nat}{d:TT}{f:TE}{c:V->St}{H:Hp}{Q:VK}(a:Nat->List V->Hp->Prop)(g:∀i ys H,i<=n->a i ys H->ys.length<sizeLine)(h:a 0 [] H)
  (j:∀i ys H,i<n->a i ys H->d (c (.int (lo+i))) H λb H3=>if b=true then f (c (.int (lo+i))) H3 λy H4=>a (i+1) (ys++[y]) H4 else a (i+1) ys H3)
  (hd:∀ys H,a n ys H->∀p,H p=none->Q (.ref p) (upd H p (.lst ys))):qY (Itr lo n) d f c H Q:=by
 refine⟨λi m ys H=>m=n-i/\i<=n/\a i ys H,⟨n,by simp,YX _,h⟩,?_⟩
 rintro i m ys H ⟨rfl,k,p⟩
 refine⟨g i ys H k p,?_⟩
 by_cases hlt:i<n
 ·refine .inr ⟨hlt,a (i+1),λl o q=>⟨n-(i+1),by lia,rfl,hlt,q⟩,λx o y=>?_⟩
  obtain⟨e,y⟩:=y
  subst e y
  exact j i ys _ hlt p
 ·have e:i=n:=by lia
  subst e
  exact .inl ⟨Yc _,hd ys H p⟩
theorem dO {K:W.Frag}{a:Addr}{xs:List V}{f:TT}{g:TE}{d:V->St}{H:Hp}{Q:VK}(c:Nat->List V->Hp->Prop)(j:∀i ys H,i<=xs.length->c i ys H->ys.length<sizeLine)(k:c 0 [] H)
  (l:∀i ys H,i<=xs.length->c i ys H->SqL K H a xs)
  (n:∀i x ys H,xs[i]? =some x->c i ys H->f (d x) H λb H3=>if b=true then g (d x) H3 λy H4=>c (i+1) (ys++[y]) H4 else c (i+1) ys H3)
  (hd:∀ys H,c xs.length ys H->∀p,H p=none->Q (.ref p) (upd H p (.lst ys))):qY (Itl K a) f g d H Q:=by
 refine⟨λi m ys H=>m=xs.length-i/\i<=xs.length/\c i ys H,⟨xs.length,by simp,YX _,k⟩,?_⟩
 rintro i m ys H ⟨rfl,h,p⟩
 have q:=l i ys H h p
 refine⟨j i ys H h p,?_⟩
 by_cases hlt:i<xs.length
 ·refine .inr ⟨⟨xs,xs[i],q,by simp[hlt]⟩,c (i+1),λo r q=>⟨xs.length-(i+1),by lia,rfl,hlt,q⟩,λx r y=>?_⟩
  obtain⟨e,y⟩:=y
  subst e
  exact n i x ys _ (y xs q) p
 ·have e:i=xs.length:=by lia
  subst e
  exact .inl ⟨⟨xs,q,Yc _⟩,hd ys H p⟩
end L2
namespace L2
open PySem PySem.Spec PyProof.Rows PySem.W PySem.Builtin PySem.Builtin.ObjectAttr PySem.Builtin.Getset_descriptor
section
variable {prog:Program}{w:World}{A:Around}{E:Value->Shared->Prop}{K:W.Frag}{a C:Addr}
end
section
variable {X:Cx}
end
end L2
namespace L2
open PySem PySem.Spec PyProof.Rows
mutual
inductive DV (K:W.Frag)(H:Hp):V->PyData->Prop
 |non:DV K H .non .none
 |bl (b:Bool):DV K H (.bl b) (.bool b)
 |int (i:Int):DV K H (.int i) (.int i)
 |str (x:Str):DV K H (.str x) (.str x)
 |lst {a:Addr} {xs:List V} {ds:List PyData}:SqL K H a xs->DVs K H xs ds->DV K H (.ref a) (.list ds)
 |tup {a:Addr} {xs:List V} {ds:List PyData}:SqT K H a xs->DVs K H xs ds->DV K H (.ref a) (.tuple ds)
inductive DVs (K:W.Frag)(H:Hp):List V->List PyData->Prop
 |nil:DVs K H [] []
 |cons {x:V} {xs:List V} {d:PyData} {ds:List PyData}:DV K H x d->DVs K H xs ds->DVs K H (x::xs) (d::ds)
end
variable {K:W.Frag}{H:Hp}{pos:Pos}{d:PyData}{s:Shared}{X:Cx}
theorem DVs.ints:∀ns:List Int,DVs K H (ns.map V.int) (ns.map PyData.int)
 |[]=> .nil
 |n::r=> .cons (.int n) (DVs.ints r)
def DV.ints {a:Addr}{ns:List Int}(h:SqL K H a (ns.map V.int)):DV K H (.ref a) (.list (ns.map .int)):= .lst h (DVs.ints ns)
section
variable {pins:List (Addr×Obj)}{σ:St}
mutual
theorem Inv.reads (I:Inv X pins σ H s):∀{x:V}{d:PyData}{u:Value},DV X.K H x d->RelV x u->∃as,Reads s.heap u d as
 |_,_,_,.non,r=>by cases r;exact⟨_,Reads.none⟩
 |_,_,_,.bl b,r=>by cases r;exact⟨_,Reads.bool b⟩
 |_,_,_,.int i,r=>by obtain⟨t,rfl⟩:=r;exact⟨_,Reads.int i t⟩
 |_,_,_,.str x,r=>by obtain⟨t,rfl⟩:=r;exact⟨_,Reads.str x t⟩
 | _,_,_,.lst h r,rr=>by
  cases rr
  obtain⟨its,rv,⟨o,n,e,c,_,dt⟩,_⟩:=I.list h
  obtain⟨as,q⟩:=Inv.readsAll I r rv
  exact⟨_,reads_list_at e c dt (by simpa using q)⟩
 | _,_,_,.tup h r,rr=>by
  cases rr
  obtain⟨its,rv,⟨o,e,c,n,dt⟩,_⟩:=I.tuple h
  obtain⟨as,q⟩:=Inv.readsAll I r rv
  exact⟨_,reads_tuple_at e c dt (by simpa using q)⟩
theorem Inv.readsAll (I:Inv X pins σ H s):∀{xs:List V}{ds:List PyData}{us:List Value},DVs X.K H xs ds->Vals xs us->∃as,ReadsAll s.heap us ds as
 |_,_,_,.nil,.nil=>⟨_,ReadsAll.nil⟩
 | _,_,_,.cons h r,.cons q p=>by
  obtain⟨as,q1⟩:=Inv.reads I h q
  obtain⟨bs,q2⟩:=Inv.readsAll I r p
  exact⟨_,ReadsAll.cons q1 q2⟩
end
end
def b6H (b:X.A.units+64<cLine):OpR X (compareOp .NotEq) (λx y H Q=>∃d e,DV X.K H x d/\DV X.K H y e/\SeqAt.shaped d=true/\SeqAt.shaped e=true/\Q (.bl (!PyData.eqv d e)) H):=by
 intro a s m H x y v u Q I c f h
 obtain⟨d,e,hd,g,i,j,q⟩:=h
 obtain⟨as,k⟩:=I.reads hd c
 obtain⟨bs,l⟩:=I.reads g f
 exact ne_dataH k l i j b ⟨.bl _,H,I,rfl,q⟩
def b1X (b:X.A.units+64<cLine):OpR X (compareOp .NotEq) (λx y H Q=>∃d,DV X.K H x d/\DV X.K H y d/\SeqAt.shaped d=true/\Q (.bl false) H):=(b6H b).imp λx y H Q ⟨d,c,e,a,q⟩=>⟨d,d,c,e,a,a,by rw[SeqAt.eqv_refl d (SeqAt.canLay_of_shaped a)];exact q⟩
def a9R {ds:List PyData}(h:∀d∈ds,d.canLay0=true/\d.depth<=60):SeqAt.shaped (.list ds)=true:=by
 have all:∀ds:List PyData,(∀d∈ds,d.canLay0=true/\d.depth<=60)->PyData.canLayAll0 ds=true/\PyData.depthAll ds<=60:=by
  intro ds
  induction ds with
  |nil=>intro _;simp[PyData.canLayAll0,PyData.depthAll]
  | cons d r ih=>
   intro h
   have a:=h d Yy
   have b:=ih λz c=>h z (Yw _ c)
   simp only[PyData.canLayAll0,PyData.depthAll,a.1,b.1,Bool.and_self,true_and]
   have:=a.2;have:=b.2;lia
 have z:=all ds h
 unfold SeqAt.shaped
 rw[Xv]
 refine⟨by simp only[PyData.canLay0];exact z.1,Yj ?_⟩
 simp only[PyData.depth]
 have:=z.2;lia
def lay_ints (ns:List Int):(PyData.list (ns.map .int)).canLay0=true/\(PyData.list (ns.map .int)).depth<=60:=by
 refine⟨by simp only[PyData.canLay0];exact W.canLayAll0_ints ns,?_⟩
 have:=W.depthAll_ints ns
 simp only[PyData.depth];lia
def qM {a:List Value}{ns:List Int}(b:IntsAre a ns):∃xs:Array (Int×Tok),a.toArray=intItems xs/\ns=xs.toList.map (·.1):=by
 obtain⟨xs,c⟩:=b.allInts.items
 refine⟨xs,c,?_⟩
 rw[<-nums_intItems,<-c]
 exact(show numsOf a.toArray.toList=ns from b.numsOf).symm
def c0B (K:W.Frag):List V->Hp->VK->Prop:=λxs H Q=>l1 xs λx=>vR x λp=>∃ns:List Int,SqL K H p (ns.map V.int)/\Q (.int ns.sum) H
def b1W (c:X.calm=true):iH X (.builtin "sum") (c0B X.K):=by
 intro a s n H xs o Q I r h
 obtain⟨x,rfl,h⟩:=l1.ex h
 obtain⟨p,rfl,b,d,q⟩:=vR.ex h
 obtain⟨u,rfl,e⟩:=vals1 r
 cases e
 obtain⟨f,g,pl,_⟩:=I.list d
 obtain⟨zs,i,j⟩:=qM (intsAre_of g)
 have k:s.heap.IsList p (intItems zs):=i▸pl.isList
 refine sum_intListG (I.ok.hd c) k λt v w l=>?_
 have m:preSum (numAt zs) zs.size=b.sum:=by rw[preSum_eq,Yi (by simp),j]
 rw[m]
 exact⟨.int b.sum,H,I.kept l,⟨_,rfl⟩,q⟩
def b7X (K:W.Frag)(lt:Int->Int->Prop):List V->Hp->VK->Prop:=λxs H Q=>l1 xs λx=>vR x λp=>∃ns:List Int,SqL K H p (ns.map V.int)/\ns≠ []/\∀m,m∈ns->(∀z∈ns,lt m z)->Q (.int m) H
def b2Y (i:X.calm=true):iH X (.builtin "min") (b7X X.K (·<= ·)):=by
 intro e s D H xs E Q I r h
 obtain⟨x,rfl,h⟩:=l1.ex h
 obtain⟨p,rfl,k,l,b,q⟩:=vR.ex h
 obtain⟨u,rfl,m⟩:=vals1 r
 cases m
 obtain⟨n,o,pl,_⟩:=I.list l
 obtain⟨zs,w,c⟩:=qM (intsAre_of o)
 have y:s.heap.IsList p (intItems zs):=w▸pl.isList
 have d:0<zs.size:=by
  have f:0<k.length:=List.length_pos_iff.mpr b
  rw[c,Ya,XH]at f;exact f
 refine min_intList (I.ok.hd i) y d λv F G z A=>?_
 obtain⟨t,rfl⟩:=intItems_at z
 obtain⟨J,B⟩:=argBest_lt (numAt zs) (zs.size-1)
 refine⟨.int _,H,I.kept A,⟨_,rfl⟩,q _ ?_ λa g=>?_⟩
 ·rw[c,numAt_eq];exact getD_mem (by rw[Ya,XH];lia)
 ·rw[c]at g
  obtain⟨j,C,rfl⟩:=mem_getD g
  rw[Ya,XH]at C
  rw[<-numAt_eq];exact B j (by lia)
def c0G:R2:=λx y H Q=>vR x λl=>vR y λb=>∃xs zs,H l=some (.lst xs)/\H b=some (.lst zs)/\xs.length+zs.length<=sizeLine/\∀p,H p=none->Q (.ref p) (upd H p (.lst (xs++zs)))
def zW:OpR X (binaryOp .Add) c0G:=b4O.imp λx y H Q h=>by
 obtain⟨l,rfl,a⟩:=vR.ex h
 clear h
 obtain⟨b,rfl,xs,zs,c,d,e,f⟩:=vR.ex a
 exact⟨l,b,xs,zs,rfl,rfl,c,d,e,f⟩
def b1P {bs:List Int}{a n:Nat}(h:a+n<=bs.length):lY (bs.map V.int) (some (a:Int)) (some ((a+n:Nat):Int))=((bs.drop a).take n).map V.int:=by
 unfold lY
 rw[HT.sIx_nat,HT.sIx_nat,Ya,Nat.min_eq_left (by lia),Nat.min_eq_left (by lia),Nat.add_sub_cancel_left,List.map_take,List.map_drop]
def a8F {bs:List Int}{a:Nat}(h:a<=bs.length):lY (bs.map V.int) (some (a:Int)) none=(bs.drop a).map V.int:=by
 unfold lY
 rw[HT.sIx_nat,HT.sIx_none,Ya,Nat.min_eq_left h,List.map_drop,Yi]
 rw[Xu,Ya];exact Yc _
def l3 (vs:List V)(k:V->V->V->Prop):Prop:=@List.rec V (λ_=>Prop) False (λx r _=>l2 r λy z=>k x y z) vs
def l3.ex {vs:List V}{k:V->V->V->Prop}(h:l3 vs k):∃x y z,vs= [x,y,z]/\k x y z:=by
 match vs,h with
 |[x,y,z],h=>exact⟨x,y,z,rfl,h⟩
def a8P (lo c:Int)(n:Nat):It:=⟨λi _=>i<n,λi H x a=>a=H/\x= .int (lo+i*c),λi _=>n<=i⟩
def vG {P:Program}{w:World}{tg:Expr}(it:Addr)(lo c:Int)(n:Nat):Turn P w K tg (a8P lo c n) [it] it (λi h=>IsRangeIter h it (lo+(i:Nat)*c) ((n:Int)-(i:Nat)) c) where
 mem:=by simp
 obj :=λi h st b hb=>by
  have e:b=it:=by simpa using hb
  subst e
  exact⟨_,st,λv z=>by
   have z':Data.fields _=Data.cell v:=z
   cases z'⟩
 keep:=λi h h' st k=>k it (by simp) _ st
 item:=by
  intro X hP hw hK hc i pins s σ H E I hf st hg
  subst hP hw hK
  obtain⟨f0,f1,f2,f3,f4,f5⟩:=hf it (by simp)
  have W:=Walks.range (prog:=X.prog) (w:=X.w) (I.ok.hd hc) it lo c n
  refine W.item i s _ _ hg st λv h' tk hv st' kk=>?_
  obtain⟨t,rfl⟩:=hv
  have I1:Inv X pins σ H { s with heap:=h',toks:=tk }:=I.turned (λb o hb e=>kk b o (by simpa using hb) e) f0 f1 f3 f4 f5
  exact⟨_,rfl,jO (s:={ s with heap:=h',toks:=tk }) (n:="range_iterator") st' rfl rfl (by decide) ⟨.int (lo+i*c),H,I1,⟨t,rfl⟩,⟨rfl,rfl⟩,st',λb hb=>(hf b hb).1⟩⟩
 done:=by
  intro X hP hw hK hc i pins s σ H E I hf st hg
  subst hP hw hK
  obtain⟨f0,f1,f2,f3,f4,f5⟩:=hf it (by simp)
  exact wpAny_pyNext_range_end (I.ok.hd hc) st (by have:n<=i:=hg;lia) λh' eb=>⟨rfl,I.turned (t':=s.toks) (λb o hb e=>eb b o hb e) f0 f1 f3 f4 f5⟩
 self:=λ_ _ _ _ _ st h=>wpAny_pyIter_rangeiter st h
section
variable {tg:Expr}
def b8M (a:TA):TI:=λb H R=>a b H λd e=>l3 d λx y z=>vI x λi=>vI y λj=>vI z λc=>c≠0/\Builtin.divisionGoesByPylong (j-i) c=false/\∃n:Nat,Builtin.Range.small i j c=true/\Builtin.Range.rangeSize i j c=(n:Int)/\R (a8P i c n) e
def sH {a b c:Expr}{ta:TA}{p:Pos}(hg:Gl X "range")(hm:X.mg "range"=none)(ha:PA X [a,b,c] ta)(hs:starEach [a,b,c] X.env=(false,eval a X.env)::starEach [b,c] X.env:=by rfl)(hs2:(backTo pos (starEach [b,c] X.env)).any (·.1)=false:=by rfl):
  PI X tg (.Call (.Name "range" p) [a,b,c] [] pos) (b8M ta):=by
 intro f s u H R I h
 refine Call_ (qL I hg hm boot_range (XC (thn (ha pos f s u H _ I h) λN g k=>?_) hs hs2))
 obtain⟨O,v,w,A,B⟩:=k
 obtain⟨x,y,z,rfl,C⟩:=l3.ex B
 obtain⟨i,rfl,D⟩:=vI.ex C
 obtain⟨j,rfl,E⟩:=vI.ex D
 obtain⟨c,rfl,F,G,n,l,J,q⟩:=vI.ex E
 cases A with
 | cons r rr=>
  cases rr with
  | cons r' rr=>
   cases rr with
   | cons r'' rr=>
    cases rr
    obtain⟨t,rfl⟩:=r
    obtain⟨t',rfl⟩:=r'
    obtain⟨d,rfl⟩:=r''
    refine call_range_3 F ?_ (.inl G)
    refine wpAny_pyIter_range (IsRange.new ..) l ?_
    have m:Inv X f u v { g with heap:=g.heap.push { cls:= .type "range",data:= .fields #[.int i t,.int j t',.int c d] },toks:=g.toks }:=w.kept λb o e=>Ym _ e
    refine⟨(g.heap.push { cls:= .type "range",data:= .fields #[.int i t,.int j t',.int c d] }).objs.size, [(g.heap.push { cls:= .type "range",data:= .fields #[.int i t,.int j t',.int c d] }).objs.size],_,_,v,rfl,
     m.kept (t':=g.toks) λb o e=>Ym _ e,vG _ i c n,?_,λb K=>?_,q⟩
    ·show IsRangeIter _ _ (i+((0:Nat):Int)*c) ((n:Int)-((0:Nat):Int)) c
     have L:i+((0:Nat):Int)*c=i:=by simp
     have M:(n:Int)-((0:Nat):Int)=Builtin.Range.rangeSize i j c:=by rw[J];simp
     rw[L,M]
     exact Yz _ rfl
    ·have e:b=(g.heap.push { cls:= .type "range",data:= .fields #[.int i t,.int j t',.int c d] }).objs.size:=by simpa using K
     subst e
     exact m.fpOk (Yc _) (m.hok.fresh (Yc _))
end
theorem qQ {lo c:Int}{n:Nat}{g:TG}{b:TS}{D:Ends}{σ:St}{H:Hp}(a:Nat->St->Hp->Prop)(d:a 0 σ H)
  (f:∀i σ H,i<n->a i σ H->g (.int (lo+i*c)) σ H λσ2 H2=>b { D with nx:=a (i+1),ct:=a (i+1),bk:=D.nx } σ2 H2) (hd:∀σ H,a n σ H->D.nx σ H) :
  ∃ W:Nat->Nat->St->Hp->Prop,(∃m,W 0 m σ H)/\∀i m σ H,W i m σ H->
   ((a8P lo c n).stop i H/\D.nx σ H)\/((a8P lo c n).go i H/\∃N:St->Hp->Prop,(∀σ' H',N σ' H'->∃m',m'<m/\W (i+1) m' σ' H')/\∀x H',(a8P lo c n).yld i H x H'->g x σ H' λσ2 H2=>b { D with nx:=N,ct:=N,bk:=D.nx } σ2 H2):=by
 refine⟨λi m σ H=>m=n-i/\i<=n/\a i σ H,⟨n,by simp,YX _,d⟩,?_⟩
 rintro i m σ H ⟨rfl,j,p⟩
 by_cases hlt:i<n
 ·refine .inr ⟨hlt,a (i+1),λσ' H' h=>⟨n-(i+1),by lia,rfl,hlt,h⟩,λx H' y=>?_⟩
  obtain⟨e,y⟩:=y
  subst e y
  exact f i σ _ hlt p
 ·have e:i=n:=by lia
  subst e
  exact .inl ⟨Yc _,hd σ H p⟩
section
variable {a b c:Expr}{ta tb tc:TE}
def uM (r c:R2)(d e tc:TE):TE:=λa H Q=>d a H λx f=>e a f λy g=>r x y g λz b=>vB z λk=>if k=true then tc a b λu h=>c y u h Q else Q (.bl false) b
def tG (r a:R2)(b c tc:TE):uM r a b c tc=tW r a b c tc:=by
 funext σ H Q
 unfold uM tW
 simp only[pO]
theorem wL {op d:CmpOp}{r f:R2}(g:OpR X (compareOp op) r)(e:OpR X (compareOp d) f)(h:PE X a ta)(i:PE X b tb)(j:PE X c tc)
  (k:lastMarks [op,d] [b,c]=false:=by with_unfolding_all rfl):PE X (.Compare a [op,d] [b,c] pos) (uM r f ta tb tc):=by
 rw[tG];exact a6P g e h i j k
theorem wF {op d:CmpOp}{r f:R2}(g:OpR X (compareOp op) r)(e:OpR X (compareOp d) f)(h:PE X a ta)(i:PE X b tb)(j:PE X c tc)
  (k:lastMarks [op,d] [b,c]=false:=by with_unfolding_all rfl):PT X (.Compare a [op,d] [b,c] pos) (qT (uM r f ta tb tc)):=by
 rw[tG,xF];exact a6D g e h i j k
theorem qN (z:Int):∀ns:List Int,inV (.int z) (ns.map V.int)=decide (z∈ns)/\(ns.map V.int).all nO=true
 |[]=>⟨rfl,rfl⟩
 | n ::r=>by
  have ih:=qN z r
  refine⟨?_,?_⟩
  ·unfold inV at ih ⊢
   rw[YE,XA,ih.1]
   show ((n == z) || decide (z∈r))=decide (z∈n::r)
   rw[XZ]
   simp only[Bool.or_eq_true,XV,decide_eq_true_iff,YI]
   exact⟨λh=>h.imp Eq.symm id,λh=>h.imp Eq.symm id⟩
  ·rw[YE,XJ,ih.2];rfl
def b5A (K:W.Frag)(f:Bool->Bool):R2:=λx y H Q=>vI x λz=>vR y λp=>∃ns:List Int,SqA K H p (ns.map V.int)/\Q (.bl (f (decide (z∈ns)))) H
def b1Y:OpR X (compareOp .In) (b5A X.K id):=a2O.imp λx y H Q h=>by
 obtain⟨z,rfl,b⟩:=vI.ex h
 clear h
 obtain⟨p,rfl,a,c,q⟩:=vR.ex b
 have e:=qN z a
 exact⟨p,_,rfl,c,rfl,e.2,by show Q (.bl (inV (.int z) (a.map V.int))) H;rw[e.1];exact q⟩
def a3T:OpR X (compareOp .NotIn) (b5A X.K not):=uC.imp λx y H Q h=>by
 obtain⟨z,rfl,b⟩:=vI.ex h
 clear h
 obtain⟨p,rfl,a,c,q⟩:=vR.ex b
 have e:=qN z a
 exact⟨p,_,rfl,c,rfl,e.2,by show Q (.bl (!inV (.int z) (a.map V.int))) H;rw[e.1];exact q⟩
end
def jJ (a:X.K=K:=by rfl):IxR X (b7W K):=by subst a;exact iB
def a3V (a:X.K=K:=by rfl):iH X (.builtin "len") (b7V K):=by subst a;exact fD
def a1T (a:X.K=K:=by rfl):iH X (.type "list") (a0V K):=by subst a;exact iR
def b2X (a:X.K=K:=by rfl):SlR X (b7T K):=by subst a;exact zR
def b3A (a:X.K=K:=by rfl):OpR X (compareOp .In) (b5A K id):=by subst a;exact b1Y
def b5Z:bootBuiltins "all"=some (.builtin "all"):=by decide +kernel
def c0C:R2:=λx y H Q=>vR x λl=>vI y λk=>∃xs,H l=some (.lst xs)/\(-(2 ^ 63)<=k/\k<2 ^ 63)/\xs.length*k.toNat<=sizeLine/\∀p,H p=none->Q (.ref p) (upd H p (.lst (List.replicate k.toNat xs).flatten))
def a3S:OpR X (binaryOp .Mult) c0C:=b4L.imp λx y H Q h=>by
 obtain⟨l,rfl,h⟩:=vR.ex h
 obtain⟨k,rfl,xs,b,a,c,d⟩:=vI.ex h
 exact⟨l,k,xs,rfl,rfl,b,a.1,a.2,c,d⟩
section
variable {o e:Expr}{es:List Expr}{to:TE}{t:TA}{apos cpos:Pos}
def b1M (to:TE)(t:TA):TE:=λc H Q=>to c H λx d=>vR x λl=>(∃xs,d l=some (.lst xs))/\t c d λe a=>l1 e λy=>vR y λb=>∃xs zs,a l=some (.lst xs)/\a b=some (.lst zs)/\xs.length+zs.length<=sizeLine/\Q .non (upd a l (.lst (xs++zs)))
theorem a2V (i:PE X o to)(j:PA X [e] t)(c:attributeBase o "extend" X.env (eval o X.env)=eval o X.env:=by rfl)
  (f:((backTo cpos (starEach [e] X.env)).all (λx=>!x.1) && (backToKw cpos (keywordEach [] X.env)).all (λx=>x.1.isSome)
   && decide (([e]:List Expr).length+([]:List Keyword).length+(if ([]:List Keyword).isEmpty then 0 else 1)<30))=true:=by rfl)
  (d:(apos.endLine == cpos.line)=true:=by rfl) (k:starEach [e] X.env=(false,eval e X.env)::starEach [] X.env:=by rfl) (a:(backTo cpos (starEach [] X.env)).any (·.1)=false:=by rfl) :
  PE X (.Call (.Attribute o "extend" apos) [e] [] cpos) (b1M to t):=
 (a6R PySem.F.plainAttrs_list PySem.F.slot_list_extend PySem.F.type_list_extend a2S (bZ i) (qH j) c f d k a).imp λv H Q h=>⟨_,h,λx w q=>by
  obtain⟨l,rfl,⟨xs,m⟩,n⟩:=vR.ex q
  refine⟨.inl ⟨rfl,xs,Vb m⟩,_,n,λz A g=>?_⟩
  obtain⟨y,rfl,g⟩:=l1.ex g
  obtain⟨b,rfl,xs,zs,p,r,s,u⟩:=vR.ex g
  exact⟨l,b,xs,zs,rfl,rfl,p,r,s,u⟩⟩
def b5T (to:TE)(t:TA):TE:=λa H Q=>to a H λx b=>vR x λl=>(∃xs,b l=some (.lst xs))/\t a b λd c=>l1 d λy=>vI y λi=>∃xs k y,c l=some (.lst xs)/\(-(2 ^ 63)<=i/\i<2 ^ 63)/\seqIndex? i xs.length=some k/\xs[k]? =some y/\Q y (upd c l (.lst (xs.eraseIdx k)))
theorem a7D (j:PE X o to)(m:PA X [e] t)(b:attributeBase o "pop" X.env (eval o X.env)=eval o X.env:=by rfl)
  (d:((backTo cpos (starEach [e] X.env)).all (λx=>!x.1) && (backToKw cpos (keywordEach [] X.env)).all (λx=>x.1.isSome)
   && decide (([e]:List Expr).length+([]:List Keyword).length+(if ([]:List Keyword).isEmpty then 0 else 1)<30))=true:=by rfl)
  (c:(apos.endLine == cpos.line)=true:=by rfl) (n:starEach [e] X.env=(false,eval e X.env)::starEach [] X.env:=by rfl) (a:(backTo cpos (starEach [] X.env)).any (·.1)=false:=by rfl) :
  PE X (.Call (.Attribute o "pop" apos) [e] [] cpos) (b5T to t):=
 (a6R PySem.F.plainAttrs_list PySem.F.slot_list_pop PySem.F.type_list_pop a7C (bZ j) (qH m) b d c n a).imp λz H Q h=>⟨_,h,λx A q=>by
  obtain⟨l,rfl,⟨xs,p⟩,r⟩:=vR.ex q
  refine⟨.inl ⟨rfl,xs,Vb p⟩,_,r,λB C f=>?_⟩
  obtain⟨y,rfl,f⟩:=l1.ex f
  obtain⟨i,rfl,xs,k,y,s,g,u,v,w⟩:=vI.ex f
  exact⟨l,xs,i,k,y,rfl,rfl,s,g.1,g.2,u,v,w⟩⟩
end
theorem pN:∀{bs:List Bool}{us:List Value},Vals (bs.map V.bl) us->us=bs.map Value.bool
 |[],_,.nil=>rfl
 | b::r,_,.cons h t=>by
  cases (show _=Value.bool b from h)
  rw[pN t];rfl
def c0H (K:W.Frag):List V->Hp->VK->Prop:=λxs H Q=>l1 xs λx=>vR x λp=>∃bs:List Bool,SqL K H p (bs.map V.bl)/\Q (.bl (bs.all id)) H
def all_range (bs:List Bool):(List.range bs.length).all (λi=>bs.getD i false)=bs.all id:=by
 have e:(List.range bs.length).map (λi=>bs.getD i false)=bs:=by
  apply List.ext_getElem
  ·simp
  ·intro i b a
   simp[Yf,a]
 conv=>rhs;rw[<-e,List.all_map]
 rfl
def b6K (j:X.calm=true):iH X (.builtin "all") (c0H X.K):=by
 intro d s z H xs B Q I r h
 obtain⟨x,rfl,h⟩:=l1.ex h
 obtain⟨p,rfl,bs,k,q⟩:=vR.ex h
 obtain⟨u,rfl,l⟩:=vals1 r
 cases l
 obtain⟨m,n,pl,_⟩:=I.list k
 have o:=pN n
 subst o
 have a:=pl.isList
 have c:p<s.heap.objs.size:=by obtain⟨_,e,_⟩:=a;exact Ys e
 refine call_all_walk (wpAny_pyIter_list a ?_)
 refine⟨_,_,_,_,_,_,λi=>bs.getD i false,rfl,Walks.list (A:=X.A.in1) (I.ok.hd j) _ p (YA c) _,⟨⟨_,Yz _ rfl,rfl,rfl⟩,a.push _⟩,?_,λC D t=>?_⟩
 ·intro i v E F G w f
  have g:(bs.map Value.bool)[i]? =some v:=by simpa using w
  rw[Yo]at g
  obtain⟨b,y,rfl⟩:=YG.mp g
  have:bs.getD i false=b:=by rw[Yf,y];rfl
  simp only[this]at f
  exact Xe f
 ·have e:(bs.map Value.bool).toArray.size=bs.length:=by simp
  rw[e,all_range]
  exact⟨.bl _,H,I.kept (old_kept t),rfl,q⟩
section
variable {P:Program}{w:World}{mg:Str->Option Value}{base:Heap}{N:List Str}{qual:Str}{scope:Scope}{f:Addr}{cd:Value}{A:Around}{outer:List Env}{E:XK}
end
section
variable {np hpos:Pos}{y n:Str}{C:Addr}{i:Nat}{b₀:Stmt}{suite:List Stmt}{ts:TS}{hs:List ExceptHandler}{th:TH}
end
section
variable {o e value:Expr}{es:List Expr}{to ta tv:TE}{t:TA}{apos cpos pos':Pos}{C:Addr}{f m:Str}
def c0T (C:Addr)(c:TE)(f:Str):TE:=λd H Q=>c d H λx b=>vR x λa=>∃dx fs v,b a=some (.ins C dx fs)/\fs.lookup f=some v/\Q v b
def aO (c:Cls X.K C)(n:bF X.K C f)(b:PE X e ta)(d:attributeBase e f X.env (eval e X.env)=eval e X.env:=by rfl):PE X (.Attribute e f pos) (c0T C ta f):=
 (a6M (bZ b) d).imp λl H Q h=>⟨_,h,λx m q=>by
  obtain⟨a,rfl,g,fs,v,i,j,k⟩:=vR.ex q
  exact⟨a,C,g,fs,v,rfl,i,c,n,j,k⟩⟩
def c0R (C:Addr)(d e:TE)(f:Str):TS:=λD b H=>e b H λy g=>d b g λx c=>vR x λa=>∃dx fs,c a=some (.ins C dx fs)/\fs.length<1000/\D.nx b (upd c a (.ins C dx (fJ f y fs)))
def bR (c:Cls X.K C)(n:bF X.K C f)(b:PE X o ta)(d:PE X value tv)(e:swapsWith value (some (.Attribute o f pos')) pos.line X.env=pure false:=by rfl):
  PS X (.Assign [.Attribute o f pos'] value pos) (c0R C ta tv f):=
 (a6F (bZ b) (bZ d) e).imp λD m H h=>⟨_,h,λy p q=>⟨_,q,λx r g=>by
  obtain⟨a,rfl,i,fs,j,k,l⟩:=vR.ex g
  exact⟨a,C,i,fs,rfl,j,c,n,k,l⟩⟩⟩
variable {CX:CXT}{k:Nat}{fa:Addr}{fd:FuncData}{ps:List Str}{sp:Sp}{dvs:List V}{ds:List Value}{E:XK}
def b2S (C:Addr)(m:Str)(sp:Sp)(dvs:List V)(E:XK)(d:TE)(t:TA):TE:=λb H Q=>d b H λx c=>vR x λa=>(∃dx fs,c a=some (.ins C dx fs)/\fs.lookup m=none)/\t b c λe f=>sp (.ref a::(e++dvs)) f Q E
theorem bN {pl:Sem Bool}(c:Cls X.K C)(g:Meth X.K C m fa)(F:gD X.prog X.w X.K X.mg X.base CX k fa fd ps sp)(i:cV k X.A)(j:Binds X.K fd ps ds)(hd:Vals dvs ds)(l:fK CX X E)(n:PE X o ta)(p:PA X (e::es) t)
  (b:starEach (e::es) X.env=(false,eval e X.env)::starEach es X.env:=by rfl) (d:(backTo pos (starEach es X.env)).any (·.1)=false:=by rfl)
  (r:eval (.Call (.Attribute o m apos) (e::es) [] pos) X.env=(do
   let ov<-eval o X.env
   standAt apos.atName
   let (f,first)<-holding [ov] (getMethod ov m pl)
   callWith pos f first (backTo pos (starEach (e::es) X.env)) (backToKw pos (keywordEach [] X.env))):=by rfl) :
  PE X (.Call (.Attribute o m apos) (e::es) [] pos) (b2S C m sp dvs E ta t):=
 (b0J (pl:=pl) (bZ n) c g F i j hd l (qH p) b d r).imp λB H Q h=>⟨_,h,λx D q=>by
  obtain⟨a,rfl,⟨s,fs,u,v⟩,y⟩:=vR.ex q
  exact⟨a,s,fs,rfl,u,v,_,y,λG I z=>z⟩⟩
theorem bT {pl:Sem Bool}(c:Cls X.K C)(b:Meth X.K C m fa)(F:gD X.prog X.w X.K X.mg X.base CX k fa fd ps sp)(d:cV k X.A)(e:Binds X.K fd ps ds)(hd:Vals dvs ds)(g:fK CX X E)(i:PE X o ta)
  (j:eval (.Call (.Attribute o m apos) [] [] pos) X.env=(do
   let ov<-eval o X.env
   standAt apos.atName
   let (f,first)<-holding [ov] (getMethod ov m pl)
   callWith pos f first (backTo pos (starEach [] X.env)) (backToKw pos (keywordEach [] X.env))):=by rfl) :
  PE X (.Call (.Attribute o m apos) [] [] pos) (b2S C m sp dvs E ta xW):=
 (a6K (pl:=pl) (bZ i) c b F d e hd g j).imp λs H Q h=>⟨_,h,λx t q=>by
  obtain⟨a,rfl,⟨l,fs,n,p⟩,r⟩:=vR.ex q
  exact⟨a,l,fs,rfl,n,p,r⟩⟩
end
noncomputable def zG (h:Heap)(d:PyData):Value->Bool:=by
 classical
 exact λy=>if g:∃d' as,Reads h y d' as then PyData.eqv g.choose d else false
def a1H {h:Heap}{d':PyData}{y:Value}{as:List Addr}(r:Reads h y d' as):zG h d y=PyData.eqv d' d:=by
 have g:∃d' as,Reads h y d' as:=⟨d',as,r⟩
 unfold zG
 simp only[dif_pos g]
 obtain⟨bs,a⟩:=g.choose_spec
 rw[(reads_det (λb o e _=>e) r a).1]
theorem a1R {h:Heap}:∀{us:List Value}{ds:List PyData}{as:List Addr},ReadsAll h us ds as->us.any (zG h d)=ds.any λe=>PyData.eqv e d
 |_,_,_,.nil=>rfl
 |_,_,_,.cons r t=>by rw[XA,XA,a1H r,a1R t]
theorem a0T {A:Around}{v:Value}{bs:List Addr}(rv:Reads s.heap v d bs)(hd:SeqAt.shaped d=true)(hu:A.units+64<cLine):∀{us:List Value}{ds:List PyData}{as:List Addr},ReadsAll s.heap us ds as->(∀e∈ds,SeqAt.shaped e=true)->∀u∈us,SeqAt.EqAt A s u v (zG s.heap d u)
 |_,_,_,.nil,_=>λu hu=>by cases hu
 | _, _,_,.cons r t,f=>λu hm=>by
  rcases YI.mp hm with rfl | hm
  ·rw[a1H r]
   have h1:=f _ Yy
   exact SeqAt.eqAt_reads _ _ A s _ _ _ _ r rv (SeqAt.canLay_of_shaped h1) (SeqAt.canLay_of_shaped hd) (SeqAt.room_of_shaped h1 hu)
  ·exact a0T rv hd hu t (λe he=>f e (Yw _ he)) u hm
def c0F (K:W.Frag)(f:Bool->Bool):R2:=λx y H Q=>vR y λp=>∃d ds xs,DV K H x d/\SqL K H p xs/\DVs K H xs ds/\SeqAt.shaped d=true/\(∀e∈ds,SeqAt.shaped e=true)/\Q (.bl (f (ds.any λe=>PyData.eqv e d))) H
def b6J (e:X.A.in1.units+64<cLine):OpR X (compareOp .In) (c0F X.K id):=by
 intro b s r H x y v u Q I f g h
 obtain⟨p,rfl,d,t,xs,hd,i,j,k,l,q⟩:=vR.ex h
 cases g
 obtain⟨a,m,pl,_⟩:=I.list i
 obtain⟨as,n⟩:=I.reads hd f
 obtain⟨bs,c⟩:=I.readsAll j m
 refine SeqAt.in_listAt (zG s.heap d) pl.isList (λw o=>a0T n k e c l w (by simpa using o)) ⟨.bl _,H,I,rfl,?_⟩
 rw[show a.toArray.any (zG s.heap d)=a.any (zG s.heap d) by simp,a1R c]
 exact q
end L2
namespace L2
open PySem
def cV.units1 {k:Nat}{A:Around}(r:cV k A):A.in1.units+64<cLine:=by have:=r.un;show A.units+1+64<_;lia
def zN (K:W.Frag)(a:Addr)(ns:List Int):Prop:=∃(o:Obj)(its:Array Value)(n:Nat),K.lookup a=some o/\o.cls= .type "tuple"/\o.data= .seq its n/\its.size<=sizeLine/\Vals (ns.map V.int) its.toList
def zN.of {K:W.Frag}{a:Addr}{c:Option Addr}{d:Array (Option Value)}{n:Nat}{b:Array Value}{ns:List Int}(h:K.lookup a=some ⟨.type "tuple",c,.seq b n,d⟩)(e:b.size<=sizeLine)(f:Vals (ns.map V.int) b.toList):zN K a ns:=⟨_,b,n,h,rfl,rfl,e,f⟩
def zN.sq {K:W.Frag}{a:Addr}{ns:List Int}(h:zN K a ns)(H:Hp):SqT K H a (ns.map V.int):= .inr h
end L2
namespace L2
open PySem PySem.Spec PyProof.Rows
variable {X:Cx}{o:Expr}{e:Expr}{to:TE}{t:TA}{apos:Pos}{cpos:Pos}
def fB {s:Stmt}:PS X s (λ_ _ _=>False):=λ_ _ _ _ _ _ h=>h.elim
end L2
namespace L2
open PySem PySem.Spec PyProof.Rows PySem.MeetsSeq PySem.SeqAt
section
variable {X:Cx}{o e:Expr}{to:TE}{t:TA}{apos cpos:Pos}
end
end L2
namespace L2
open PySem PySem.Spec PyProof.Rows
variable {w:World}{X:Cx}
set_option maxRecDepth 100000
section
variable {prog:Program}{A:Around}{I:Addr}{fp wr:List Addr}{n:Nat}{P:Nat->Value->Prop}{St:Nat->Heap->Prop}{d:Value}
end
section
variable {prog:Program}{A:Around}{E:Value->Shared->Prop}{s:Shared}
end
def uT:bootBuiltins "enumerate"=some (.type "enumerate"):=by decide +kernel
section
variable {pins:List (Addr×Obj)}{σ:St}{H:Hp}{s:Shared}
theorem Inv.turnedT {h':Heap}{t':Nat}{g:List Addr}{T:Addr}{xs:List V}(I:Inv X pins σ H s)(i:∀b∈g,pC X pins H b)(k:∀b o,b∉g->s.heap.get? b=some o->h'.get? b=some o)(p:s.heap.objs.size<=T)
  (j:fG X.prog X.w (upd H T (.tup xs)) h' T (.tup xs)):Inv X pins σ (upd H T (.tup xs)) { s with heap:=h',toks:=t' }:=by
 have t:H T=none:=I.hok.fresh p
 have l:∀b o,s.heap.get? b=some o->b≠T:=λb o e z=>by
  have:=Ys e
  rw[z]at this
  exact absurd (Yh this p) (YZ _)
 have d:∀b u,H b=some u->upd H T (.tup xs) b=some u:=λb u e=>by rw[aH (aP e t)];exact e
 have f:∀b u,H b=some u->b∉g:=λb u e z=>by rw[(i b z).1]at e;cases e
 refine I.step (g':=s.gens) (d':=s.drawn) (ch:=g) (λb h=>?_) (λb o _ _ a e _=>k b o a e) (λb o _ _ a e _=>⟨o.slots,k b o a e⟩) (λb o _ e n=>by rw[aH (l b o e)];exact n)
  (λb o a e=>⟨o,k b o a e⟩) (λb _ e=>d b _ e) (λb _ _ e=>d b _ e) (λb G e=>⟨#[],by rw[d b _ e];simp⟩) (λm x=>?_) (λb u e=>?_) I.bare
 ·obtain⟨J,y,K,A,B,C⟩:=i b h
  exact⟨A,y,B,C⟩
 ·obtain⟨o,D,E,F,r⟩:=x
  exact⟨o,D,E,k _ o (λz=>(i _ z).2.1 rfl) F,r⟩
 ·by_cases h:b=T
  ·subst h
   rw[aB]at e
   cases e
   exact j
  ·rw[aH h]at e
   refine(I.hok b u e).stay (λc v a q=>k c v ?_ q) (λ_ q=>d _ _ q) λ_ _ q=>d _ _ q
   rcases a with z | z
   ·rw[z];exact f b u e
   ·exact f c _ z
end
def Ite (K:W.Frag)(a:Addr):It:=
 ⟨λi H=>∃xs x,SqL K H a xs/\xs[i]? =some x,λi H v b=>∃p x,H p=none/\v= .ref p/\(∀xs,SqL K H a xs->xs[i]? =some x)/\b=upd H p (.tup [.int ((i:Nat):Int),x]),λi H=>∃xs,SqL K H a xs/\xs.length<=i⟩
def a1V {P:Program}{K:W.Frag}{elts:List Expr}{k':Nat}{pos:Pos}(a e it:Addr)(hei:e≠it):
  Turn P w K (.Tuple elts k' pos) (Ite K a) [e,it] e (λi h=>(∃old,IsEnum h e it ((i:Nat):Int) old)/\h.IsListIter it a i) where
 mem:=by simp
 obj := λi h st b hb=>by
  obtain⟨⟨old,he⟩,o,e1,c,d⟩:=st
  simp only[YI,List.not_mem_nil,or_false]at hb
  rcases hb with rfl | rfl
  ·exact⟨_,he,λv z=>by
    have z':Data.fields _=Data.cell v:=z
    cases z'⟩
  ·exact⟨o,e1,λv z=>by rw[d]at z;cases z⟩
 keep:=λi h h' st k=>by
  obtain⟨⟨old,he⟩,hit⟩:=st
  exact⟨⟨old,k e (by simp) _ he⟩,hit.at λo x=>k it (by simp) o x⟩
 item :=by
  intro X hP hw hK hc i pins s σ H E I hf st hg
  subst hP hw hK
  obtain⟨⟨old,he⟩,hit⟩:=st
  obtain⟨xs,x,hq,hx⟩:=hg
  obtain⟨its,rv,p,hz⟩:=I.list hq
  obtain⟨u,hu,ru⟩:=rv.get hx
  refine wpAny_pyNext_enum_item he hit p.isList (x:=u) (by simpa using hu) hei λh1 ho hit1 hT hsz hk=>?_
  refine⟨_,rfl,wpAny_letOwnedTupleGo_enum (s:={ s with heap:=h1,toks:=s.toks+1 }) ho λh2 he2 hs2=>?_⟩
  have hs2':Heap.SameBut e h1 h2:=hs2
  have eT:e≠s.heap.objs.size:=YA (Ys he)
  have iT:it≠s.heap.objs.size:=by obtain⟨o,e1,_⟩:=hit;exact YA (Ys e1)
  have hN:H s.heap.objs.size=none:=I.hok.fresh (Yc _)
  refine⟨.ref s.heap.objs.size,upd H s.heap.objs.size (.tup [.int ((i:Nat):Int),x]),I.turnedT hf (λb o hb q=>?_) (Yc _) ?_,rfl,⟨_,x,hN,rfl,λys hy=>by rw[I.list_inj hy hq];exact hx,rfl⟩,⟨⟨u,?_⟩,?_⟩,λb hb=>?_⟩
  ·have b1:b≠e:=λz=>hb (by simp[z])
   have b2:b≠it:=λz=>hb (by simp[z])
   exact(hs2'.2 b b1).trans (hk b o b1 b2 q)
  ·exact⟨(by show 2<=sizeLine;decide), [.int ((i:Nat):Int) s.toks,u],.cons ⟨_,rfl⟩ (.cons ru .nil),⟨_,(hs2'.2 _ (Va eT)).trans hT,rfl,_,rfl⟩⟩
  ·have:((i+1:Nat):Int)=((i:Nat):Int)+1:=by push_cast;rfl
   rw[this];exact he2
  ·exact hit1.at λo y=>(hs2'.2 it (Va hei)).trans y
  ·have h1:=(hf b hb).1
   have:b≠s.heap.objs.size:=by
    simp only[YI,List.not_mem_nil,or_false]at hb
    rcases hb with rfl | rfl
    ·exact eT
    ·exact iT
   rw[aH this];exact h1
 done:=by
  intro X hP hw hK hc i pins s σ H E I hf st hg
  subst hP hw hK
  obtain⟨⟨old,he⟩,hit⟩:=st
  obtain⟨xs,hq,hx⟩:=hg
  obtain⟨its,rv,p,hz⟩:=I.list hq
  obtain⟨f0,f1,f2,f3,f4,f5⟩:=hf it (by simp)
  have hl:=rv.length
  exact wpAny_pyNext_enum_end (I.ok.hd hc) he hit p.isList (Array.getElem?_eq_none (by simp;lia)) λh' eb=>⟨rfl,I.turned (t':=s.toks) (λb o hb e=>eb b o hb e) f0 f1 f3 f4 f5⟩
 self:=λ_ _ _ _ _ st h=>by
  obtain⟨⟨old,he⟩,_⟩:=st
  exact wpAny_pyIter_enum he h
def b8R (K:W.Frag)(c:TA):TI:=λd H R=>c d H λe b=>l1 e λx=>vR x λa=>(∃xs,SqL K b a xs)/\R (Ite K a) b
def b0V {a:Expr}{m:TA}{p f g:Pos}{i:List Expr}{w:Nat}(y:Gl X "enumerate")(z:X.mg "enumerate"=none)(A:PA X [a] m)(B:starEach [a] X.env= [(false,eval a X.env)]:=by rfl):
  PI X (.Tuple i w g) (.Call (.Name "enumerate" p) [a] [] f) (b8R X.K m):=by
 intro c s n H R I h
 refine Call_ (qL I y z uT (XC (thn (A f c s n H _ I h) λM d j=>?_) B rfl))
 obtain⟨N,o,e,C,k⟩:=j
 obtain⟨x,rfl,k⟩:=l1.ex k
 obtain⟨l,rfl,⟨xs,D⟩,q⟩:=vR.ex k
 obtain⟨u,rfl,E⟩:=vals1 C
 cases E
 obtain⟨F,O,pl,P⟩:=e.list D
 refine call_enumerate_list pl.isList λr t hit G J=>?_
 refine wpAny_pyIter_enum (s:={ d with heap:=r }) t ?_
 have L:Inv X c n o { d with heap:=r }:=e.kept (t':=d.toks) J
 refine⟨d.heap.objs.size+1, [d.heap.objs.size+1,d.heap.objs.size],_,_,o,rfl,L,a1V l _ _ (Nat.succ_ne_self _),⟨⟨_,t⟩,hit⟩,λb v=>?_,q⟩
 simp only[YI,List.not_mem_nil,or_false]at v
 rcases v with rfl | rfl
 ·exact e.fpOk (XE _) (e.hok.fresh (XE _))
 ·exact e.fpOk (Yc _) (e.hok.fresh (Yc _))
def gT2 (K:W.Frag)(i j:Nat):TG:=λv b H Q=>vR v λa=>∃x y,SqT K H a [x,y]/\Q ((b.set i (some x)).set j (some y)) H
def mg2 {c:Expr}{i j:Nat}(h:PG X c (b8F X.K 2 (a7U (wU i) (a7U (wU j) b8G)))):PG X c (gT2 X.K i j):=by
 intro b s d H v u Q I r q
 obtain⟨a,rfl,x,y,e,f⟩:=vR.ex q
 exact h b s d H _ u Q I r ⟨a,_,rfl,e,rfl,_,_,rfl,_,_,rfl,rfl,f⟩
theorem a7V {K:W.Frag}{a:Addr}{xs:List V}{g:TG}{c:TS}{D:Ends}{σ:St}{H:Hp}(b:Nat->St->Hp->Prop)(d:b 0 σ H)(f:∀i σ H,i<=xs.length->b i σ H->SqL K H a xs)
  (h:∀i x σ H p,xs[i]? =some x->b i σ H->H p=none->g (.ref p) σ (upd H p (.tup [.int ((i:Nat):Int),x])) λσ2 H2=>c { D with nx:=b (i+1),ct:=b (i+1),bk:=D.nx } σ2 H2) (hd:∀σ H,b xs.length σ H->D.nx σ H) :
  ∃ W:Nat->Nat->St->Hp->Prop,(∃m,W 0 m σ H)/\∀i m σ H,W i m σ H->
   ((Ite K a).stop i H/\D.nx σ H)\/((Ite K a).go i H/\∃N:St->Hp->Prop,(∀σ' H',N σ' H'->∃m',m'<m/\W (i+1) m' σ' H')/\∀x H',(Ite K a).yld i H x H'->g x σ H' λσ2 H2=>c { D with nx:=N,ct:=N,bk:=D.nx } σ2 H2):=by
 refine⟨λi m σ H=>m=xs.length-i/\i<=xs.length/\b i σ H,⟨xs.length,by simp,YX _,d⟩,?_⟩
 rintro i m σ H ⟨rfl,j,p⟩
 have q:=f i σ H j p
 by_cases hlt:i<xs.length
 ·refine .inr ⟨⟨xs,xs[i],q,by simp[hlt]⟩,b (i+1),λσ' H' k=>⟨xs.length-(i+1),by lia,rfl,hlt,k⟩,?_⟩
  rintro v H' ⟨t,x,l,rfl,n,rfl⟩
  exact h i x σ H t (n xs q) p l
 ·have e:i=xs.length:=by lia
  subst e
  exact .inl ⟨⟨xs,q,Yc _⟩,hd σ H p⟩
end L2
namespace L2
open PySem PySem.W PyProof.Rows
section
variable {N:Nat}{K:Nat->Nat}{cmp:Nat->Nat->(Bool->Shared->Prop)->Shared->Prop}{s:Shared}
end
section
variable {prog:Program}{w:World}{A:Around}{E:Value->Shared->Prop}{s:Shared}
end
section
variable {X:Cx}
end
end L2
namespace L2
open PySem PySem.Spec PyProof.Rows
section
variable {X:Cx}{scope:Scope}{cl:List (Str×Addr)}{x:Str}{ix:List Nat}{C:Addr}{fp:List Addr}
end
section
variable {X:Cx}{scope:Scope}{cl:List (Str×Addr)}{x:Str}{ix:List Nat}{elt iter:Expr}{ifs:List Expr}{pos px:Pos}{wi:TI}{tt:TT}{te:TE}
end
variable {X:Cx}{x:Str}{C:Addr}{pos:Pos}{o:Expr}{e:Expr}{es:List Expr}{ta:TE}{t:TA}{apos:Pos}{m:Str}{k:Nat}{fa:Addr}{fd:FuncData}{ps:List Str}{sp:Sp}{dvs:List V}{ds:List Value}
structure b2V (K:W.Frag)(C:Addr)(m:Str)(f:Addr):Prop where
 ga:W.specialIn K (.ref C) "__getattribute__"=some (some (.builtin "type.__getattribute__"))
 rd:W.readsIn K C (.type "type")=true
 at_:W.findCls K (.ref C) (.type "type") m=some (.val (.ref f))
 kp:W.keepIn K (.ref f)=true
section
variable {value:Expr}{to tv:TE}{cpos pos':Pos}{f:Str}{CX:CXT}{E:XK}
def b5V (C:Addr)(sp:Sp)(dvs:List V)(E:XK)(b:TE)(t:TA):TE:=λa H Q=>b a H λx c=>x= .ref C/\t a c λd e=>sp (d++dvs) e Q E
theorem wK {pl:Sem Bool}(b:b2V X.K C m fa)(F:gD X.prog X.w X.K X.mg X.base CX k fa fd ps sp)(n:cV k X.A)(p:Binds X.K fd ps ds)(hd:Vals dvs ds)(v:fK CX X E)(y:PE X o ta)(z:PA X (e::es) t)
  (c:starEach (e::es) X.env=(false,eval e X.env)::starEach es X.env:=by rfl) (d:(backTo pos (starEach es X.env)).any (·.1)=false:=by rfl)
  (B:eval (.Call (.Attribute o m apos) (e::es) [] pos) X.env=(do
   let ov<-eval o X.env
   standAt apos.atName
   let (f,first)<-holding [ov] (getMethod ov m pl)
   callWith pos f first (backTo pos (starEach (e::es) X.env)) (backToKw pos (keywordEach [] X.env))):=by rfl) :
  PE X (.Call (.Attribute o m apos) (e::es) [] pos) (b5V C sp dvs E ta t):=by
 intro a s j H Q I h
 refine Xp (pl:=pl) (thn (y a s j H _ I h) λu L g=>?_) B
 obtain⟨x,D,i,G,ex,q⟩:=g
 subst ex
 obtain rfl:u=Value.ref C:=G
 refine W.method_cls i.kIn b.ga (W.cls_value i.kIn b.rd b.at_ rfl ?_)
 refine XX (first:=[]) (h₀:=X.base) I.ok.mod.kin b.kp (thn (z pos a _ j D _ (i.tok _) q) λM N ⟨O,P,l,r,J⟩=>⟨l.kIn,?_⟩) c d
 exact jU F n p hd v l r J
def b8Q (K:W.Frag)(c:TE)(f:Str):TE:=λd H Q=>c d H λx b=>vR x λa=>∃C dx fs v,b a=some (.ins C dx fs)/\Cls K C/\bF K C f/\fs.lookup f=some v/\Q v b
def eG (b:PE X e ta)(d:attributeBase e f X.env (eval e X.env)=eval e X.env:=by rfl):PE X (.Attribute e f pos) (b8Q X.K ta f):=
 (a6M (bZ b) d).imp λl H Q h=>⟨_,h,λx m q=>by
  obtain⟨a,rfl,C,g,fs,v,i,c,n,j,k⟩:=vR.ex q
  exact⟨a,C,g,fs,v,rfl,i,c,n,j,k⟩⟩
def b8L (K:W.Frag)(d e:TE)(f:Str):TS:=λD b H=>e b H λy g=>d b g λx c=>vR x λa=>∃C dx fs,c a=some (.ins C dx fs)/\Cls K C/\bF K C f/\fs.length<1000/\D.nx b (upd c a (.ins C dx (fJ f y fs)))
def lO (b:PE X o ta)(d:PE X value tv)(e:swapsWith value (some (.Attribute o f pos')) pos.line X.env=pure false:=by rfl):
  PS X (.Assign [.Attribute o f pos'] value pos) (b8L X.K ta tv f):=
 (a6F (bZ b) (bZ d) e).imp λD m H h=>⟨_,h,λy p q=>⟨_,q,λx r g=>by
  obtain⟨a,rfl,C,i,fs,j,c,n,k,l⟩:=vR.ex g
  exact⟨a,C,i,fs,rfl,j,c,n,k,l⟩⟩⟩
def a8D (K:W.Frag)(m:Str)(d:Addr)(sp:Sp)(dvs:List V)(E:XK)(e:TE)(t:TA):TE:=λb H Q=>e b H λx c=>vR x λa=>(∃C dx fs,c a=some (.ins C dx fs)/\Cls K C/\Meth K C m d/\fs.lookup m=none)/\t b c λf g=>sp (.ref a::(f++dvs)) g Q E
theorem qK {pl:Sem Bool}(F:gD X.prog X.w X.K X.mg X.base CX k fa fd ps sp)(y:cV k X.A)(z:Binds X.K fd ps ds)(hd:Vals dvs ds)(B:fK CX X E)(D:PE X o ta)(G:PA X (e::es) t)
  (d:starEach (e::es) X.env=(false,eval e X.env)::starEach es X.env:=by rfl) (g:(backTo pos (starEach es X.env)).any (·.1)=false:=by rfl)
  (J:eval (.Call (.Attribute o m apos) (e::es) [] pos) X.env=(do
   let ov<-eval o X.env
   standAt apos.atName
   let (f,first)<-holding [ov] (getMethod ov m pl)
   callWith pos f first (backTo pos (starEach (e::es) X.env)) (backToKw pos (keywordEach [] X.env))):=by rfl) :
  PE X (.Call (.Attribute o m apos) (e::es) [] pos) (a8D X.K m fa sp dvs E ta t):=by
 intro b s j H Q I h
 refine Xp (pl:=pl) (thn (D b s j H _ I h) λu L i=>?_) J
 obtain⟨x,M,n,N,q⟩:=i
 obtain⟨a,rfl,⟨C,R,fs,O,c,p,l⟩,q⟩:=vR.ex q
 obtain rfl:u=Value.ref a:=N
 refine eV n O c p l ?_
 refine XX (first:=[.ref a]) (h₀:=X.base) I.ok.mod.kin p.kp (thn (G pos b L j M _ n q) λus S ⟨vs,T,v,r,P⟩=>⟨v.kIn,?_⟩) d g
 exact jU (us:= .ref a::us) (vs:= .ref a::vs) F y z hd B v (.cons rfl r) P
theorem sJ {pl:Sem Bool}(F:gD X.prog X.w X.K X.mg X.base CX k fa fd ps sp)(i:cV k X.A)(j:Binds X.K fd ps ds)(hd:Vals dvs ds)(n:fK CX X E)(p:PE X o ta)
  (r:eval (.Call (.Attribute o m apos) [] [] pos) X.env=(do
   let ov<-eval o X.env
   standAt apos.atName
   let (f,first)<-holding [ov] (getMethod ov m pl)
   callWith pos f first (backTo pos (starEach [] X.env)) (backToKw pos (keywordEach [] X.env))):=by rfl) :
  PE X (.Call (.Attribute o m apos) [] [] pos) (a8D X.K m fa sp dvs E ta xW):=by
 intro b s t H Q I h
 refine Xp (pl:=pl) (thn (p b s t H _ I h) λu z d=>?_) r
 obtain⟨x,B,e,v,q⟩:=d
 obtain⟨a,rfl,⟨C,D,fs,y,c,g,l⟩,q⟩:=vR.ex q
 obtain rfl:u=Value.ref a:=v
 refine eV e y c g l ?_
 exact X6 (first:=[.ref a]) e.kIn g.kp (jU (us:=[.ref a]) (vs:=[.ref a]) F i j hd n e (.cons rfl .nil) q)
end
section
variable {tg:Expr}
def c0S (K:W.Frag)(c:TE):TI:=λd H R=>c d H λx b=>vR x λa=>((∃xs,SqL K b a xs)/\R (Itl K a) b)\/((∃xs,SqT K b a xs)/\R (Itt K a) b)
def b4Y {l:Expr}{m:TE}(r:PE X l m):PI X tg l (c0S X.K m):=by
 intro f s t H R I h
 refine thn (r f s t H _ I h) λv c i=>?_
 obtain⟨x,n,d,u,w⟩:=i
 obtain⟨a,e,q⟩:=vR.ex w
 subst e
 cases u
 rcases q with ⟨⟨xs,j⟩,q⟩ | ⟨⟨xs,j⟩,q⟩
 ·obtain⟨g,y,p,z⟩:=d.list j
  refine wpAny_pyIter_list p.isList ?_
  refine⟨c.heap.objs.size, [c.heap.objs.size],_,_,n,rfl,d.kept (t':=c.toks) λb o e=>Ym _ e,rP a _,⟨_,Yz _ rfl,rfl,rfl⟩,λb k=>?_,q⟩
  have e:b=c.heap.objs.size:=by simpa using k
  subst e
  exact d.fpOk (Yc _) (d.hok.fresh (Yc _))
 ·obtain⟨g,y,p,z⟩:=d.tuple j
  refine wpAny_pyIter_tuple (show c.heap.IsTuple a g.toArray from p) ?_
  refine⟨c.heap.objs.size, [c.heap.objs.size],_,_,n,rfl,d.kept (t':=c.toks) λb o e=>Ym _ e,xU a _,⟨_,Yz _ rfl,rfl,rfl⟩,λb k=>?_,q⟩
  have e:b=c.heap.objs.size:=by simpa using k
  subst e
  exact d.fpOk (Yc _) (d.hok.fresh (Yc _))
end
theorem a8G {K:W.Frag}{a:Addr}{xs:List V}{f:TT}{g:TE}{d:V->St}{H:Hp}{Q:VK}(c:Nat->List V->Hp->Prop)(j:∀i ys H,i<=xs.length->c i ys H->ys.length<sizeLine)(k:c 0 [] H)
  (l:∀i ys H,i<=xs.length->c i ys H->SqT K H a xs)
  (n:∀i x ys H,xs[i]? =some x->c i ys H->f (d x) H λb H3=>if b=true then g (d x) H3 λy H4=>c (i+1) (ys++[y]) H4 else c (i+1) ys H3)
  (hd:∀ys H,c xs.length ys H->∀p,H p=none->Q (.ref p) (upd H p (.lst ys))):qY (Itt K a) f g d H Q:=by
 refine⟨λi m ys H=>m=xs.length-i/\i<=xs.length/\c i ys H,⟨xs.length,by simp,YX _,k⟩,?_⟩
 rintro i m ys H ⟨rfl,h,p⟩
 have q:=l i ys H h p
 refine⟨j i ys H h p,?_⟩
 by_cases hlt:i<xs.length
 ·refine .inr ⟨⟨xs,xs[i],q,by simp[hlt]⟩,c (i+1),λo r q=>⟨xs.length-(i+1),by lia,rfl,hlt,q⟩,λx r y=>?_⟩
  obtain⟨e,y⟩:=y
  subst e
  exact n i x ys _ (y xs q) p
 ·have e:i=xs.length:=by lia
  subst e
  exact .inl ⟨⟨xs,q,Yc _⟩,hd ys H p⟩
theorem a8H {K:W.Frag}{a:Addr}{xs:List V}{g:TT}{j:TE}{d:V->St}{H:Hp}{Q:VK}(h:SqA K H a xs)(e:Nat->List V->Prop)(l:∀i ys,i<=xs.length->e i ys->ys.length<sizeLine)(m:e 0 [])
  (n:∀i x ys,xs[i]? =some x->e i ys->g (d x) H λb H3=>if b=true then j (d x) H3 λy H4=>e (i+1) (ys++[y])/\H4=H else e (i+1) ys/\H3=H)
  (hd:∀ys,e xs.length ys->∀p,H p=none->Q (.ref p) (upd H p (.lst ys))):((∃xs,SqL K H a xs)/\qY (Itl K a) g j d H Q)\/((∃xs,SqT K H a xs)/\qY (Itt K a) g j d H Q):=by
 rcases h with h | h
 ·refine .inl ⟨⟨_,h⟩,dO (xs:=xs) (λi ys c=>e i ys/\c=H) (λi ys c f z=>l i ys f z.1) ⟨m,rfl⟩ (λi ys c f z=>by rw[z.2];exact h) ?_ ?_⟩
  ·rintro i x ys c k ⟨z,rfl⟩
   exact n i x ys k z
  ·rintro ys c ⟨z,rfl⟩
   exact hd ys z
 ·refine .inr ⟨⟨_,h⟩,a8G (xs:=xs) (λi ys c=>e i ys/\c=H) (λi ys c f z=>l i ys f z.1) ⟨m,rfl⟩ (λi ys c f z=>by rw[z.2];exact h) ?_ ?_⟩
  ·rintro i x ys c k ⟨z,rfl⟩
   exact n i x ys k z
  ·rintro ys c ⟨z,rfl⟩
   exact hd ys z
def MOk (P:Program)(w:World)(K:W.Frag)(mg:Str->Option Value)(base:Heap)(CX:CXT)(k:Nat)(C:Addr)(m:Str)(sp:Sp):Prop:=
 ∃fa fd ps,Cls K C/\Meth K C m fa/\gD P w K mg base CX k fa fd ps sp/\Binds K fd ps []
section
variable {value:Expr}{to tv:TE}{cpos pos' p:Pos}{f:Str}{CX:CXT}{E:XK}{R:Addr->Sp->Prop}
def a8E (R:Addr->Sp->Prop)(m:Str)(E:XK)(d:TE)(t:TA):TE:=λb H Q=>d b H λx c=>vR x λa=>∃C dx fs sp,c a=some (.ins C dx fs)/\fs.lookup m=none/\R C sp/\t b c λe f=>sp (.ref a::e) f Q E
theorem wJ {pl:Sem Bool}(y:∀C sp,R C sp->MOk X.prog X.w X.K X.mg X.base CX k C m sp)(z:cV k X.A)(B:fK CX X E)(D:PE X o ta)(G:PA X (e::es) t)
  (d:starEach (e::es) X.env=(false,eval e X.env)::starEach es X.env:=by rfl) (g:(backTo pos (starEach es X.env)).any (·.1)=false:=by rfl)
  (J:eval (.Call (.Attribute o m apos) (e::es) [] pos) X.env=(do
   let ov<-eval o X.env
   standAt apos.atName
   let (f,first)<-holding [ov] (getMethod ov m pl)
   callWith pos f first (backTo pos (starEach (e::es) X.env)) (backToKw pos (keywordEach [] X.env))):=by rfl) :
  PE X (.Call (.Attribute o m apos) (e::es) [] pos) (a8E R m E ta t):=by
 intro b s j H Q I h
 refine Xp (pl:=pl) (thn (D b s j H _ I h) λu L i=>?_) J
 obtain⟨x,M,n,N,q⟩:=i
 obtain⟨a,rfl,C,U,fs,sp,O,l,P,q⟩:=vR.ex q
 obtain⟨V,W,Y,c,p,F,S⟩:=y C sp P
 obtain rfl:u=Value.ref a:=N
 refine eV n O c p l ?_
 refine XX (first:=[.ref a]) (h₀:=X.base) I.ok.mod.kin p.kp (thn (G pos b L j M _ n q) λus Z ⟨vs,H2,v,r,T⟩=>⟨v.kIn,?_⟩) d g
 exact jU (dvs:=[]) (us:= .ref a::us) (vs:= .ref a::vs) F z S .nil B v (.cons rfl r) (by rw[YH];exact T)
theorem a2U {pl:Sem Bool}(i:∀C sp,R C sp->MOk X.prog X.w X.K X.mg X.base CX k C m sp)(j:cV k X.A)(n:fK CX X E)(p:PE X o ta)
  (r:eval (.Call (.Attribute o m apos) [] [] pos) X.env=(do
   let ov<-eval o X.env
   standAt apos.atName
   let (f,first)<-holding [ov] (getMethod ov m pl)
   callWith pos f first (backTo pos (starEach [] X.env)) (backToKw pos (keywordEach [] X.env))):=by rfl) :
  PE X (.Call (.Attribute o m apos) [] [] pos) (a8E R m E ta xW):=by
 intro b s t H Q I h
 refine Xp (pl:=pl) (thn (p b s t H _ I h) λu D d=>?_) r
 obtain⟨x,G,e,v,q⟩:=d
 obtain⟨a,rfl,C,J,fs,sp,y,l,z,q⟩:=vR.ex q
 obtain⟨L,M,N,c,g,F,B⟩:=i C sp z
 obtain rfl:u=Value.ref a:=v
 refine eV e y c g l ?_
 exact X6 (first:=[.ref a]) e.kIn g.kp (jU (dvs:=[]) (us:=[.ref a]) (vs:=[.ref a]) F j B .nil n e (.cons rfl .nil) q)
structure MkB (K:W.Frag)(C:Addr):Prop where
 makes:W.makesIn K C=true
 init:W.findIn K (.ref C) "__init__"=some (some (.builtin "object.__init__"))
 kp:W.keepIn K (.ref C)=true
def b3I (C:Addr):TE:=λ_ H Q=>∀x dx,H x=none->H dx=none->dx≠x->Q (.ref x) (upd (upd H dx (.own x)) x (.ins C dx []))
def a6L (M:MkB X.K C)(d:Gl X x)(f:X.mg x=some (.ref C))(a:(x == ("__debug__":Str))=false:=by decide):PE X (.Call (.Name x p) [] [] pos) (b3I C):=by
 intro c s m H Q I h
 refine Xk (lQ I d f ?_ a)
 refine X6 I.kIn M.kp ?_
 have g:=h (s.heap.objs.size+1) s.heap.objs.size (I.hok.fresh (XE _)) (I.hok.fresh (Yc _)) (YA (Xo _))
 have i:=Inv.made (C:=C) I
 refine wpAny_call (a2W I.kIn M.makes M.init (λself=>W.Looks.of_pure (W.oi_bind self)) ?_)
 have Y:=W.makes_of (M:=model X.prog X.w) I.kIn M.makes
 have j:((s.heap.push W.emptyDict).push (W.instObj C s.heap.objs.size)).get? (s.heap.objs.size+1)=some (W.instObj C s.heap.objs.size):=by
  have:=Yz (s.heap.push W.emptyDict) (o:=W.instObj C s.heap.objs.size) rfl
  rwa [Heap.size_push]at this
 have k:W.Looks (model X.prog X.w) ((s.heap.push W.emptyDict).push (W.instObj C s.heap.objs.size)) (typeOf (.ref (s.heap.objs.size+1))) (.ref C):=(W.Looks.ld j).andThen .now
 have l:W.Looks (model X.prog X.w) ((s.heap.push W.emptyDict).push (W.instObj C s.heap.objs.size)) (isInstance (.ref (s.heap.objs.size+1)) (.type "object")) true:=k.andThen (Y.top.keeps λb o e=>Ym _ (Ym _ e))
 refine codeAny_call_builtin W.oi_plain W.entry_oi (@W.check_slot (model X.prog X.w) _ _ _ "object.__init__" "object" "__init__" (.ref (s.heap.objs.size+1)) [] [] _ W.oi_kind W.oi_split l (W.oi_args (.ref (s.heap.objs.size+1))) ?_)
 rw[W.oi_run]
 exact Xf (And.intro rfl ⟨V.ref (s.heap.objs.size+1),_,i,rfl,g⟩)
end
end L2
namespace L2
open PySem
def cV.mo {j k:Nat}{A:Around}(r:cV k A)(h:j<=k:=by decide):cV j A:=r.mono h
end L2
namespace L2
open PySem PySem.Spec PyProof.Rows
section
variable {X:Cx}{o e e2:Expr}{to:TE}{t:TA}{apos cpos:Pos}
end
section
variable {κ:Type}[DecidableEq κ]
def iI (kvs:List (κ×V))(k:κ):Option V:=(kvs.find? λa=>decide (a.1=k)).map (·.2)
def putK (kvs:List (κ×V))(k:κ)(v:V):List (κ×V):=
 if (kvs.any λa=>decide (a.1=k))=true then kvs.map (λa=>if a.1=k then (a.1,v) else a) else kvs++[(k,v)]
def eN {p:κ×V}{r:List (κ×V)}{k:κ}(e:p.1=k):iI (p::r) k=some p.2:=by simp[iI,XQ,e]
def eO {p:κ×V}{r:List (κ×V)}{k:κ}(e:¬ p.1=k):iI (p::r) k=iI r k:=by simp[iI,XQ,e]
theorem mL (k:κ):∀kvs:List (κ×V),(kvs.any λkv=>decide (kv.1=k))=(iI kvs k).isSome
 |[]=>rfl
 | p::r=>by
  rw[XA]
  by_cases e:p.1=k
  ·simp only[eN e,Yj e,Bool.true_or,Option.isSome_some]
  ·rw[eO e,Yl e,Bool.false_or];exact mL k r
theorem vD (k j:κ)(y:V):∀kvs:List (κ×V),iI (kvs.map λkv=>if kv.1=k then (kv.1,y) else kv) j=(iI kvs j).map λx=>if j=k then y else x
 |[]=>rfl
 | p ::r=>by
  have ih:=vD k j y r
  rw[YE]
  by_cases h:p.1=k
  ·rw[if_pos h]
   by_cases e:p.1=j
   ·rw[eN (p:=(p.1,y)) e,eN e,X1,if_pos (e.symm.trans h)]
   ·rw[eO (p:=(p.1,y)) e,eO e,ih]
  ·rw[if_neg h]
   by_cases e:p.1=j
   ·rw[eN (p:=p) e,eN e,X1,if_neg (λz=>h (e.trans z))]
   ·rw[eO (p:=p) e,eO e,ih]
theorem rO (k j:κ)(y:V):∀kvs:List (κ×V),iI kvs k=none->iI (kvs++[(k,y)]) j=if j=k then some y else iI kvs j
 | [],_=>by
  by_cases e:k=j
  ·rw[if_pos e.symm];exact eN (p:=(k,y)) e
  ·rw[if_neg (λz=>e z.symm)];exact eO (p:=(k,y)) e
 | p::r,hn=>by
  rw[List.cons_append]
  have hk:¬ p.1=k:=λz=>by rw[eN z]at hn;cases hn
  rw[eO hk]at hn
  have ih:=rO k j y r hn
  by_cases e:p.1=j
  ·rw[eN e,eN e,if_neg (λz=>hk (e.trans z))]
  ·rw[eO e,eO e,ih]
def a4D (kvs:List (κ×V))(k j:κ)(y:V):iI (putK kvs k y) j=if j=k then some y else iI kvs j:=by
 unfold putK
 by_cases a:(kvs.any λb=>decide (b.1=k))=true
 ·rw [if_pos a,vD]
  rw[mL]at a
  by_cases e:j=k
  ·obtain⟨x,c⟩:=Option.isSome_iff_exists.mp a
   rw[if_pos e,e,c,X1,if_pos rfl]
  ·rw[if_neg e]
   cases iI kvs j with
   |none=>rfl
   |some x=>rw[X1,if_neg e]
 ·rw[if_neg a]
  refine rO k j y kvs ?_
  rw[mL]at a
  cases q:iI kvs k with
  |none=>rfl
  |some x=>rw[q]at a;exact(a rfl).elim
def oX (kvs:List (κ×V))(k:κ)(v:V):(putK kvs k v).length<=kvs.length+1:=by
 unfold putK
 split
 ·rw[Ya];lia
 ·rw[Yd,YM,List.length_nil];lia
def lZ.isSome_eq {o:Option V}{u:Option Value}(r:lZ o u):o.isSome=u.isSome:=by
 cases o with
 | none=>cases u with
  |none=>rfl
  |some _=>exact(show False from r).elim
 | some _=>cases u with
  |none=>exact(show False from r).elim
  |some _=>rfl
def lZ.getD {o:Option V}{u:Option Value}{d:V}{d':Value}(r:lZ o u)(rd:RelV d d'):RelV (o.getD d) (u.getD d'):=by
 cases o with
 | none=>cases u with
  |none=>exact rd
  |some _=>exact(show False from r).elim
 | some _=>cases u with
  |none=>exact(show False from r).elim
  |some _=>exact r
def KV.val {kvs:List (κ×V)}{vs:List (κ×Value)}(r:KV kvs vs)(k:κ):lZ (iI kvs k) (valueAt vs k):=by
 unfold KV at r
 induction r with
 |nil=>exact True.intro
 | @cons p q ps qs h t ih=>
  obtain⟨c,d⟩:=h
  by_cases e:p.1=k
  ·have a:q.1=k:=c.symm.trans e
   have b:valueAt (q::qs) k=some q.2:=by simp[valueAt,XQ,a]
   rw[eN e,b];exact d
  ·have a:¬ q.1=k:=λz=>e (c.trans z)
   have b:valueAt (q::qs) k=valueAt qs k:=by simp[valueAt,XQ,a]
   rw[eO e,b];exact ih
def KV.any {kvs:List (κ×V)}{vs:List (κ×Value)}(r:KV kvs vs)(k:κ):(kvs.any λkv=>decide (kv.1=k))=vs.any λkv=>decide (kv.1=k):=by
 unfold KV at r
 induction r with
 |nil=>rfl
 |cons h t ih=>rw[XA,XA,ih,h.1]
def KV.repl {kvs:List (κ×V)}{vs:List (κ×Value)}(r:KV kvs vs)(k:κ){y:V}{u:Value}(ry:RelV y u):
  KV (kvs.map λkv=>if kv.1=k then (kv.1,y) else kv) (vs.map λkv=>if kv.1=k then (kv.1,u) else kv):=by
 unfold KV at r ⊢
 induction r with
 |nil=>exact .nil
 | @cons p q ps qs h t ih=>
  rw[YE,YE]
  refine .cons ?_ ih
  obtain⟨a,b⟩:=h
  by_cases e:p.1=k
  ·rw[if_pos e,if_pos (a.symm.trans e)];exact⟨a,ry⟩
  ·rw[if_neg e,if_neg (λz=>e (a.trans z))];exact⟨a,b⟩
def KV.put {kvs:List (κ×V)}{vs:List (κ×Value)}(r:KV kvs vs)(k:κ){y:V}{u:Value}(a:RelV y u):KV (putK kvs k y) (stored vs k u):=by
 unfold putK stored
 rw[r.any k]
 by_cases e:(vs.any λb=>decide (b.1=k))=true
 ·rw[if_pos e,if_pos e];exact r.repl k a
 ·rw[if_neg e,if_neg e];exact Paired.snoc r ⟨rfl,a⟩
def KV.length {kvs:List (κ×V)}{vs:List (κ×Value)}(r:KV kvs vs):kvs.length=vs.length:=Paired.length r
end
variable {o:Option V}{kvs:List (List Key×V)}{y:V}{u:Value}{P:Program}{w:World}{H:Hp}{xs:List (List Key×Addr×Value)}{b:Addr}{H':Hp}{h':Heap}{X:Cx}{pins:List (Addr×Obj)}{σ:St}{s:Shared}{a:Addr}{Q:Value->Shared->Prop}{cs:List Addr}{cl:List (Str×Addr)}{qual:Str}{params:Arguments}{body:Expr}{scope:Scope}{f:Addr}{K:W.Frag}{e:Expr}{t:TA}{A:Around}{E:Value->Shared->Prop}{pos:Pos}{k:Nat}{i:Nat}{x:Str}{p:Pos}{es:List Expr}
def a7N {k:Key}(r:RelV (kV k) u):(dX P w).is k u=true:=by
 cases k with
 |inl i=>obtain⟨t,e⟩:=(show ∃t,u=Value.int i t from r);subst e;exact wH P w i t
 |inr x=>obtain⟨t,e⟩:=(show ∃t,u=Value.str x t from r);subst e;exact wG P w x t
theorem sV:∀{ks:List Key}{us:List Value},Vals (ks.map kV) us->ItemsAre (dX P w) ks us
 |[],_,r=>by rw[List.map_nil]at r;cases r;exact .nil
 | k::ks,_,r=>by
  rw[YE]at r
  cases r with
  |cons h t=>exact .cons (a7N h) (sV t)
abbrev KT (H:Hp):List (List Key×V)->List (List Key×Addr×Value)->Prop:=Paired λp q=>p.1=q.1/\H q.2.1=some (.tup (p.1.map kV))/\RelV p.2 q.2.2
def KT.val (r:KT H kvs xs)(k:List Key):lZ (iI kvs k) ((atKey xs k).map (·.2)):=by
 induction r with
 |nil=>exact True.intro
 | @cons p q ps qs h t ih=>
  obtain⟨c,_,d⟩:=h
  by_cases e:p.1=k
  ·have a:q.1=k:=c.symm.trans e
   have b:atKey (q::qs) k=some q.2:=by simp[atKey,XQ,a]
   rw[eN e,b];exact d
  ·have a:¬ q.1=k:=λz=>e (c.trans z)
   have b:atKey (q::qs) k=atKey qs k:=by simp[atKey,XQ,a]
   rw[eO e,b];exact ih
def KT.repl (r:KT H kvs xs)(k:List Key)(ry:RelV y u):
  KT H (kvs.map λkv=>if kv.1=k then (kv.1,y) else kv) (xs.map (putAt k u)):=by
 induction r with
 |nil=>exact .nil
 | @cons p q ps qs h t ih=>
  rw[YE,YE]
  refine .cons ?_ ih
  obtain⟨a,b,c⟩:=h
  unfold putAt
  by_cases e:p.1=k
  ·rw[if_pos e,if_pos (a.symm.trans e)];exact⟨a,b,ry⟩
  ·rw[if_neg e,if_neg (λz=>e (a.trans z))];exact⟨a,b,c⟩
def KT.put (r:KT H kvs xs)(k:List Key)(c:H b=some (.tup (k.map kV)))(a:RelV y u):
  KT H (putK kvs k y) (storedH xs k b u):=by
 have e:(kvs.any λd=>decide (d.1=k))=(atKey xs k).isSome:=by
  rw[mL,(r.val k).isSome_eq,Option.isSome_map]
 unfold putK storedH
 rw[e]
 by_cases q:(atKey xs k).isSome=true
 ·rw[if_pos q,if_pos q];exact r.repl k a
 ·rw[if_neg q,if_neg q];exact Paired.snoc r ⟨rfl,c,a⟩
def KT.keeps (r:KT H kvs xs)(a:∀b ys,H b=some (.tup ys)->H' b=some (.tup ys)):KT H' kvs xs:=
 Paired.mapP r λ_ _ z=>⟨z.1,a _ _ z.2.1,z.2.2⟩
section
variable {h:Heap}
def b2K {u:HO}(ok:HOk P w H h)(e:Rd H a u):fG P w H h a u:=e.ok ok
def a7Y {kvs:List (Key×V)}(ok:HOk P w H h)(e:Rd H a (.dK kvs)):kvs.length<=sizeLine/\(a == sysModules)=false/\∃vs,KV kvs vs/\h.DictOf (dX P w) a vs:=
 show fG P w H h a (.dK kvs) from b2K ok e
def b8K {kvs:List (Key×V)}(ok:HOk P w H h)(e:H a=some (.dK kvs)):kvs.length<=sizeLine/\(a == sysModules)=false/\∃vs,KV kvs vs/\h.DictOf (dX P w) a vs:=a7Y ok (.inl e)
def yS {b:List Key}(ok:HOk P w H h)(e:H a=some (.tup (b.map kV))):(tupleKind (dX P w)).is h b a:=by
 obtain⟨_,c,r,o,d,f,n,g⟩:=(show fG P w H h a (.tup (b.map kV)) from ok a _ e)
 exact⟨o,c.toArray,n,d,f,g,by simpa using sV r⟩
def a7X (ok:HOk P w H h)(e:Rd H a (.dT kvs)):kvs.length<=sizeLine/\(a == sysModules)=false/\
  ∃xs,KT H kvs xs/\h.DictOfH (tupleKind (dX P w)) a xs:=by
 obtain⟨z,y,xs,r,o,b,c,d,f,g,i,j⟩:=(show fG P w H h a (.dT kvs) from b2K ok e)
 refine⟨z,y,xs,r,o,b,c,d,f,g,i,λx hx=>?_,j⟩
 have all:∀{l:List (List Key×V)}{m:List (List Key×Addr×Value)},KT H l m->∀x∈m,(tupleKind (dX P w)).is h x.1 x.2.1:=by
  intro l m q
  induction q with
  |nil=>intro x hx;exact nomatch hx
  | @cons p q ps qs hq t ih=>
   intro x hx
   rcases YI.mp hx with e | hx
   ·subst e
    exact yS ok (by rw[<-hq.1];exact hq.2.1)
   ·exact ih x hx
 exact all r x hx
theorem b8J (ok:HOk P w H h)(e:H a=some (.dT kvs)):kvs.length<=sizeLine/\(a == sysModules)=false/\
  ∃xs,KT H kvs xs/\h.DictOfH (tupleKind (dX P w)) a xs:=a7X ok (.inl e)
end
def b9A (H:Hp)(a:Addr)(y:V)(r:Option V):Prop:=
 (∃kvs k,Rd H a (.dK kvs)/\y=kV k/\r=iI kvs k)\/∃kvs k b,Rd H a (.dT kvs)/\y= .ref b/\H b=some (.tup (k.map kV))/\r=iI kvs k
def b8Z (H:Hp)(a:Addr)(y v:V)(H':Hp):Prop:=
 (∃kvs k,H a=some (.dK kvs)/\y=kV k/\kvs.length<sizeLine/\H'=upd H a (.dK (putK kvs k v)))\/
 ∃kvs k b,H a=some (.dT kvs)/\y= .ref b/\H b=some (.tup (k.map kV))/\kvs.length<sizeLine/\H'=upd H a (.dT (putK kvs k v))
section
variable {v:V}{r:Value}
def Inv.big (I:Inv X pins σ H s):sysModules<s.heap.objs.size:=by
 have h:mainGlobals<s.heap.objs.size:=(I.mod.glob.keeps I.bk).lt
 exact Nat.lt_trans (by decide) h
def a1M {t':Nat}{c:HO}(I:Inv X pins σ H s)(f:Mut (H a))(g:Heap.SameBut a s.heap h')(h:∃q,h'.get? a=some q)(d:fG X.prog X.w (upd H a c) h' a c):
  Inv X pins σ (upd H a c) { s with heap:=h',toks:=t' }:=
 I.write (x:=a) (e:=a) f (.inl rfl) (λb q i z=>(g.2 b i).trans z) h d
theorem b5R {kvs:List (Key×V)}{vs:List (Key×Value)}(z:kvs.length<=sizeLine)(hd:(a == sysModules)=false)(b:KV kvs vs)(c:h'.DictOf (dX P w) a vs):
  fG P w H' h' a (.dK kvs):=⟨z,hd,vs,b,c⟩
def a3L {Q:Unit->Shared->Prop}(J:A.units+1<cLine)(I:Inv X pins σ H s)(g:b8Z H a y v H')(B:RelV y u)(C:RelV v r)(h:∀s',Inv X pins σ H' s'->Q () s'):
  wpAny (model X.prog X.w) A (setItem (.ref a) u r) Q E s:=by
 rcases g with ⟨d,k,e,m,l,n⟩ | ⟨d,k,b,e,m,D,l,n⟩
 ·subst m n
  obtain⟨z,hd,K,f,o⟩:=b8K I.hok e
  have p:K.length<=sizeLine:=by rw[<-f.length];exact z
  have t:(putK d k v).length<=sizeLine:=by have:=oX d k v;lia
  refine wpAny_setItem_pairs (hsz:=p) (a7N B) o λF i x=>h _ ?_
  have L:∃q,F.get? a=some q:=let ⟨q,_,_,j,_⟩:=i;⟨q,j⟩
  exact a1M I (by rw[e];exact True.intro) x L (b5R t hd (f.put k C) i)
 ·subst m n
  cases (show u=Value.ref b from B)
  obtain⟨z,hd,xs,f,o⟩:=b8J I.hok e
  have p:xs.length<=sizeLine:=by rw[<-Paired.length f];exact z
  have t:(putK d k v).length<=sizeLine:=by have:=oX d k v;lia
  refine wpAny_setItem_heap (hsz:=p) (tupleKind_room_in1 J) (yS I.hok D) o λF i x=>h _ ?_
  obtain⟨q,M,N,j,O,P,R,_,S⟩:=i
  refine a1M I (by rw[e];exact True.intro) x ⟨q,j⟩ ⟨t,hd,_,(f.put k D C).keeps λc T G=>?_,q,M,N,j,O,P,R,S⟩
  rw[aH (b7R G e (λz=>nomatch z))]
  exact G
end
section
variable {kvs:List (Key×V)}{k:Key}
end
def b7E (c d e:TE):TS:=λD b H=>e b H λv f=>c b f λx g=>d b g λy h=>∃a H4,x= .ref a/\b8Z h a y v H4/\D.nx b H4
section
variable {o i value:Expr}{pos' tpos:Pos}{td ty tv:TE}
def b0D (d:X.A.units+1<cLine)(e:PE X o td)(f:PE X i ty)(j:PE X value tv)(k:swapsWith value (some (.Subscript o i pos')) pos.line X.env=pure false):
  PS X (.Assign [.Subscript o i pos'] value pos) (b7E td ty tv):=by
 intro b s c H D I h
 refine wpAny_Assign_Subscript (thn (j b s c H _ I h) λr l ⟨v,m,n,p,q⟩=>thn (e b l c m _ n q) λu t ⟨x,w,z,B,C⟩=>thn (f b t c w _ z C) λL M ⟨y,N,E,F,a,G,ex,g,J⟩=>?_) k
 subst ex
 obtain rfl:u=Value.ref a:=B
 exact a3L d E g F p λO K=>⟨c,G,K,J⟩
end
def a7Z (h:Heap)(a:sysModules<h.objs.size):fG P w H (h.push { cls:= .type "dict",data:= .dict #[] }) h.objs.size (.dK []):=
 ⟨YX _,Y5.mpr (Va (YA a)), [],.nil,Heap.DictOf.new h⟩
def b3J:TE:=λ_ H Q=>∀p,H p=none->Q (.ref p) (upd H p (.dK []))
def a6N:PE X (.Dict [] [] pos) b3J:=λb s c H Q I h=>
 wpAny_Dict_empty ⟨.ref s.heap.objs.size,_,I.laid (a:=s.heap.objs.size) (o:= .dK []) (t':=s.toks) (λ_ _ q=>Ym _ q) (Yc _) (a7Z s.heap I.big),rfl,h _ (I.hok.fresh (Yc _))⟩
structure M2 (X:Cx)(o:Expr)(m:Str)(apos:Pos)(e f:Expr)(cpos:Pos):Prop where
 base:attributeBase o m X.env (eval o X.env)=eval o X.env
 few:((backTo cpos (starEach [e,f] X.env)).all (λx=>!x.1) && (backToKw cpos (keywordEach [] X.env)).all (λx=>x.1.isSome)
  && decide (([e,f]:List Expr).length+([]:List Keyword).length+(if ([]:List Keyword).isEmpty then 0 else 1)<30))=true
 line:(apos.endLine == cpos.line)=true
 trees:backTo cpos (starEach [e,f] X.env)= [(false,eval e X.env),(false,eval f X.env)]
def IsD (H:Hp)(a:Addr):Prop:=(∃kvs,Rd H a (.dK kvs))\/∃kvs,Rd H a (.dT kvs)
def b5I (I:Inv X pins σ H s)(d:IsD H a):
  s.TypeIs (.ref a) "dict"/\(∀b,Value.ref a= .ref b->∃ob,s.heap.get? b=some ob/\ob.dict=none)/\(a == sysModules)=false:=by
 rcases d with ⟨f,e⟩ | ⟨f,e⟩
 ·obtain⟨_,hd,i,_,c⟩:=a7Y I.hok e
  refine⟨c.typeIs,λb q=>?_,hd⟩
  cases q
  obtain⟨ob,_,_,g,h,_⟩:=c
  exact⟨ob,g,h.2.1⟩
 ·obtain⟨_,hd,xs,_,c⟩:=a7X I.hok e
  refine⟨c.typeIs,λb q=>?_,hd⟩
  cases q
  obtain⟨ob,_,_,g,h,_⟩:=c
  exact⟨ob,g,h.2.1⟩
section
variable {d:V}{r:Value}
def b5S (p:A.units+1<cLine)(I:Inv X pins σ H s)(g:b9A H a y o)(m:RelV y u)(n:RelV d r)(h:∀w' s',Inv X pins σ H s'->RelV (o.getD d) w'->Q w' s'):
  wpAny (model X.prog X.w) A (call (.builtin "dict.get") [.ref a,u,r]) Q E s:=by
 rcases g with ⟨i,k,e,j,l⟩ | ⟨i,k,b,e,j,q,l⟩
 ·subst j
  obtain⟨z,hd,t,c,f⟩:=a7Y I.hok e
  refine call_meetsIn PySem.F.slot_dict_get f.typeIs PySem.F.entry_dict_get (PySem.F.args_dict_get_3 _ _ _) (meets_dict_get_default (dX X.prog X.w) a (a7N m) hd r) ⟨_,f.mapOf,h _ _ (I.tok _) ?_⟩
  rw[l]
  exact(c.val k).getD n
 ·subst j
  cases (show u=Value.ref b from m)
  obtain⟨z,hd,xs,c,f⟩:=a7X I.hok e
  refine call_meetsIn PySem.F.slot_dict_get f.typeIs PySem.F.entry_dict_get (PySem.F.args_dict_get_3 _ _ _) (meetsH_dict_get_default (tupleKind (dX X.prog X.w)) a b hd r) ⟨tupleKind_room_in1 p,k,xs,yS I.hok q,f,h _ _ (I.tok _) ?_⟩
  rw[l]
  exact(c.val k).getD n
end
def b3K (e f g:TE):TE:=λb H Q=>e b H λx c=>∃a,x= .ref a/\IsD c a/\f b c λy h=>g b h λz d=>∃o,b9A d a y o/\Q (o.getD z) d
section
variable {o f:Expr}{apos cpos:Pos}{td ty tx:TE}
def a6O (l:X.A.units+1<cLine)(n:PE X o td)(p:PE X e ty)(q:PE X f tx)(m:M2 X o "get" apos e f cpos):PE X (.Call (.Attribute o "get" apos) [e,f] [] cpos) (b3K td ty tx):=by
 intro b s c H Q I h
 refine wpAny_Call_method m.base m.few m.line PySem.F.plainAttrs_dict PySem.F.slot_dict_get PySem.F.type_dict_get (thn (n b s c H _ I h) λu r i=>?_)
 obtain⟨x,t,k,v,a,ex,d,w⟩:=i
 subst ex
 obtain rfl:u=Value.ref a:=v
 obtain⟨B,C,_⟩:=b5I k d
 refine⟨B,C,?_⟩
 rw[m.trees]
 refine Calls.callWith_builtin rfl (Calls.evalArgs_plain (Calls.spliced_cons (thn (p b r c t _ k w) λR D ⟨y,E,G,J,K⟩=>
  Calls.spliced_cons (thn (q b D c E _ G K) λS T ⟨z,L,M,N,U,g,O⟩=>Calls.spliced_nil ?_))))
 exact b5S l M g J N λV W P j=>⟨_,L,P,j,O⟩
end
section
variable {kvs:List (Key×V)}
end
section
variable {κ:Type}[DecidableEq κ]
end
def lJ (c:Addr)(v:V):HO:= .ext λh=>∃u,RelV v u/\h.IsCell c (some u)
def jQ (c:Addr)(qual:Str):HO:= .ext λh=>h.CodeRec (.ref c) qual
def lX (H:Hp)(a:List Addr):Hp:=λb=>if b∈a then none else H b
def xJ (H H':Hp)(a:List Addr):Hp:=λb=>if b∈a then H b else H' b
def nG (h:b∈cs):lX H cs b=none:=by unfold lX;rw[if_pos h]
def dH (h:b∉cs):lX H cs b=H b:=by unfold lX;rw[if_neg h]
def a1P (h:b∈cs):xJ H H' cs b=H b:=by unfold xJ;rw[if_pos h]
def iG (h:b∉cs):xJ H H' cs b=H' b:=by unfold xJ;rw[if_neg h]
def Cells (H:Hp)(cl:List (Str×Addr))(ys:List Str)(ws:List V):Prop:=
 cl.map (·.1)=ys/\(cl.map (·.2)).Nodup/\Paired (λ(p:Str×Addr) (v:V)=>H p.2=some (lJ p.2 v)) cl ws
theorem Cells.at:∀{cl:List (Str×Addr)}{ws:List V},Paired (λ(p:Str×Addr) (v:V)=>H p.2=some (lJ p.2 v)) cl ws->∀{i:Nat}{p:Str×Addr},cl[i]? =some p->∃v,ws[i]? =some v/\H p.2=some (lJ p.2 v)
 |_,_,.nil,i,p,h=>by simp at h
 |_,_,.cons r t,0,p,h=>by simp at h;subst h;exact⟨_,rfl,r⟩
 |_,_,.cons r t,i+1,p,h=>Cells.at t (i:=i) (by simpa using h)
def Cells.is {ws:List V}(r:Paired (λ(p:Str×Addr) (v:V)=>H p.2=some (lJ p.2 v)) cl ws){c:Addr}(h:c∈cl.map (·.2)):∃v,H c=some (lJ c v):=by
 obtain⟨p,a,rfl⟩:=YR.mp h
 obtain⟨i,b,e⟩:=XI a
 obtain⟨v,_,q⟩:=Cells.at r (i:=i) (p:=p) (by rw[Yb b,e])
 exact⟨v,q⟩
structure vA (N ps ys:List Str)(sc:Scope):Prop where
 kind:sc.kind= .function
 co:sc.isCoroutine=false
 gen:sc.isGenerator=false
 nd:N.Nodup
 pre:N.take (ps.length+ys.length)=ps++ys
 par:∀x∈ps,sc.names.lookup x=some .local
 fre:∀x∈ys,sc.names.lookup x=some .free
 only:∀y∈sc.names,y.2≠ .cell/\(y.2= .free->y.1∈ys)
def pX (N:List Str)(vs ws:List V):St:=(vs++ws).map some++List.replicate (N.length-(vs++ws).length) none
def cxC (P:Program)(w:World)(K:W.Frag)(mg:Str->Option Value)(base:Heap)(N:List Str)(qual:Str)(scope:Scope)(f:Addr)(cd:Value)(cl:List (Str×Addr))(A:Around)(outer:List Env)(s:Shared)(H:Hp):Cx where
 prog:=P
 w:=w
 K:=K
 mg:=mg
 base:=base
 A:=A.deeper (W.envX qual scope s.heap.objs.size f cd cl)
 N:=N
 s₀:=s
 H₀:=H
 env:=W.envX qual scope s.heap.objs.size f cd cl
 outer:=outer
 stack:=W.envX qual scope s.heap.objs.size f cd cl::outer
 ex:=[]
 calm:=true
 fn:=λ_=>false
 pn:=[]
 xe:=λ_ _=>False
theorem nC {α:Type}:∀{l:List (Str×α)}{x:Str}{u:α},(l.map (·.1)).Nodup->(x,u)∈l->l.lookup x=some u
 |[],_,_,_,h=>nomatch h
 | (y, v)::r,x,u,nd,h=>by
  rw[YE,Xd]at nd
  rcases YI.mp h with e | h'
  ·cases e
   rw[List.lookup_cons_self]
  ·have hne:(x == y)=false:=by
    rw[Y5]
    intro z
    exact nd.1 (by rw[<-z];exact YR.mpr ⟨(x,u),h',rfl⟩)
   rw[Xn,hne]
   exact nC nd.2 h'
def a7P {h:Heap}(x:HOk P w H h)(g:∀c∈cs,∃v,H c=some (lJ c v))(k:∀b u,h.get? b=some u->h'.get? b=some u):HOk P w (lX H cs) h':=λa o e=>by
 have i:a∉cs:=λz=>by rw[nG z]at e;cases e
 rw[dH i]at e
 have nx:∀b u,H b=some u->(∀d,u≠ .ext d)->b∉cs:=λb u q j z=>by
  obtain⟨v,f⟩:=g b z
  rw[q]at f
  exact j _ (Yp f)
 refine(x a o e).stay (λb u _ q=>k b u q) (λb q=>?_) λb xs q=>?_
 ·rw[dH (nx b _ q λd z=>by cases z)];exact q
 ·rw[dH (nx b _ q λd z=>by cases z)];exact q
theorem yV {P:Program}{w:World}{K:W.Frag}{mg:Str->Option Value}{base:Heap}{N ps ys:List Str}{qual:Str}{scope:Scope}{f:Addr}{cd:Value}{cl:List (Str×Addr)}{A:Around}{outer:List Env}{s:Shared}{h':Heap}{tk:Nat}{H:Hp}{us:List Value}{vs ws:List V}
  (S:vA N ps ys scope) (hd:A.handled=none) (e0:rE P w K mg base A outer s H) (hl:vs.length=ps.length) (r:Vals vs us) (hc:Cells H cl ys ws)
  (hn:h'.Ns s.heap.objs.size (λx=>(ps.zip us).reverse.lookup x)) (hk:∀b o,s.heap.get? b=some o->h'.get? b=some o) :
  Inv (cxC P w K mg base N qual scope f cd cl A outer s (lX H (cl.map (·.2)))) [] (pX N vs ws) (lX H (cl.map (·.2))) { s with heap:=h',toks:=tk }:=by
 obtain⟨t,Y,G⟩:=hc
 have l:∀c∈cl.map (·.2),∃v,H c=some (lJ c v):=λc h=>Cells.is G h
 have Z:cl.length=ws.length:=Paired.length G
 have a0:cl.length=ys.length:=by rw[<-t,Ya]
 have a1:ps.length+ys.length<=N.length:=by have:=YO List.length S.pre;rw[Yq,Yd]at this;lia
 have k:(ps++ys).Nodup:=by rw[<-S.pre];exact S.nd.sublist (List.take_sublist _ _)
 have I:=(List.nodup_append.mp k).1
 have B:=(List.nodup_append.mp k).2.1
 have Q:∀x c,cl.lookup x=some c->c∈cl.map (·.2):=λx c h=>YR.mpr ⟨(x,c),Y0 h,rfl⟩
 have J:∀c∈cl.map (·.2),c<s.heap.objs.size:=λc h=>by
  obtain⟨v,e⟩:=l c h
  exact(e0.hok c _ e).lt
 refine⟨⟨e0.mod,S.kind,rfl,rfl,Yc _,λy z c L d=>?_,λy hy=>?_,(λy c h _=>by cases h),(λ_=>hd),Around.frames_deeper e0.frames,.inr ⟨rfl,rfl⟩,λb z=>absurd (show b∈([]:List Addr) from z) (by simp),λb o e=>⟨(e0.bs b o e).1,?_⟩,e0.bsz,λb _ _ z=>absurd (show b∈([]:List Addr) from z) (by simp),λb z=>absurd (show b∈([]:List Addr) from z) (by simp),e0.funs,λb E=>?_⟩,
  rfl,e0.bare,Un.kept hk,⟨_,hn,λi y v L d h3=>?_⟩,λy c h=>?_,?_,λy c h=>nG (Q y c h),λp g=>absurd (show p∈([]:List (Addr×Obj)) from g) (by simp),a7P e0.hok l hk,?_⟩
 ·have m1:(y,c)∈cl:=Y0 L
  have m2:(z,c)∈cl:=Y0 d
  obtain⟨i,m,R⟩:=XI m1
  obtain⟨j,hj,M⟩:=XI m2
  have:(cl.map (·.2))[i]? =(cl.map (·.2))[j]?:=by
   rw[Yo,Yo,Yb m,Yb hj,R,M];rfl
  have:=(List.getElem?_inj (by rw[Ya];exact m) Y).mp this
  subst this
  rw[R]at M
  exact YO Prod.fst M
 ·have hy:scope.names.lookup y=some .cell\/scope.names.lookup y=some .free:=hy
  have T:y∈ys:=by
   rcases hy with hy | hy
   ·exact absurd rfl (S.only _ (Y0 hy)).1
   ·exact(S.only _ (Y0 hy)).2 rfl
  rw[<-t]at T
  obtain⟨p,g,rfl⟩:=YR.mp T
  have q:cl.lookup p.1=some p.2:=nC (by rw[t];exact B) g
  exact⟨p.2,q⟩
 ·by_cases E:b∈cl.map (·.2)
  ·exact nG E
  ·exact(dH E).trans (e0.bs b o e).2
 ·by_cases hb':b∈cl.map (·.2)
  ·exact nG hb'
  ·exact(dH hb').trans (e0.frf b E)
 ·have C:i<(vs++ws).length:=by
   unfold pX at d
   by_cases m:i<(vs++ws).length
   ·exact m
   ·rw[YF (by simpa using m),List.getElem?_replicate]at d
    split at d <;> cases d
  have F:(vs++ws)[i]? =some v:=by
   unfold pX at d
   rw[YS (by simpa using C),Yo]at d
   cases e:(vs++ws)[i]? with
   |none=>rw[e]at d;cases d
   |some a=>rw[e]at d;cases d;rfl
  rw[Yd]at C
  have g:(ps++ys)[i]? =some y:=by
   rw[<-S.pre,Y9 (by lia)];exact L
  by_cases m:i<ps.length
  ·rw[YS m]at g
   rw[YS (by lia)]at F
   obtain⟨u,hu,rv⟩:=r.get F
   refine⟨u,rv,.inl ⟨S.par y (Yu g),?_⟩⟩
   have hm:(y,u)∈ps.zip us:=Yu (i:=i) (by rw[List.getElem?_zip_eq_some];exact⟨g,hu⟩)
   have ul:us.length=ps.length:=by rw[<-r.length];exact hl
   refine nC ?_ (List.mem_reverse.mpr hm)
   unfold List.Nodup
   rw[List.map_reverse,List.pairwise_reverse,List.map_fst_zip (by lia)]
   exact I.imp λh=>h.symm
  ·rw [YF (by lia)]at g
   rw[YF (by lia),hl]at F
   obtain⟨p,D,e⟩:∃p,cl[i-ps.length]? =some p/\p.1=y:=by
    rw[<-t,Yo]at g
    exact YG.mp g
   obtain⟨v',U,q⟩:=Cells.at G D
   rw[F]at U;cases U
   obtain⟨⟨u,X,n⟩,_,st⟩:=e0.hok _ _ q
   refine⟨u,X,.inr ⟨.inr (S.fre y (Yu g)),p.2,?_,?_⟩⟩
   ·subst e
    have q:cl.lookup p.1=some p.2:=nC (by rw[t];exact B) (Yu D)
    exact q
   ·obtain⟨o,O,hd⟩:=n
    exact⟨o,hk _ _ O,hd⟩
 ·obtain⟨v,e⟩:=l c (Q y c h)
  obtain⟨⟨u,X,o,O,hd⟩,_,st⟩:=e0.hok _ _ e
  exact⟨_,o,hk _ _ O,hd⟩
 ·show lX H _ s.heap.objs.size=none
  rw[dH λz=>absurd (J _ z) (YZ _)]
  exact e0.hok.fresh (Yc _)
 ·unfold pX
  show _=N.length
  rw[Yd,Ya,YD,Yd]
  lia
def Bm (K:W.Frag)(mg:Str->Option Value)(bm:Addr):Prop:=mg "__builtins__"=some (.ref bm)/\bm≠builtinsNs/\bm≠mainGlobals/\∃o,K.lookup bm=some o/\o.cls= .type "module"/\o.dict=some builtinsNs/\o.data= .plain
def a3O (P:Addr)(a:Pos)(qual:Str)(H:Hp):Prop:=∃ps,H P=some (.tbl ps)/\TriplesOk ps.toList/\(codeAmong a ps.toList=none\/∃c',codeAmong a ps.toList=some (.ref c')/\H c'=some (jQ c' qual))
def xM (P:Addr)(a:Pos)(b:Addr)(H:Hp):Prop:=∃ps,H P=some (.tbl ps)/\TriplesOk ps.toList/\codeAmong a ps.toList=some (.ref b)
def jQ.stb {c:Addr}:∀h1 h2:Heap,h1.CodeRec (.ref c) qual->(∀o,h1.get? c=some o->h2.get? c=some o)->h2.CodeRec (.ref c) qual:=λh1 h2 x k=>by
 obtain⟨g,a,b,t,e,d,hd,f⟩:=x
 cases e
 exact⟨_,a,b,t,rfl,k _ d,hd,f⟩
section
variable {c0 P bm:Addr}{nm:Str}{body:List Stmt}
end
def PF (X:Cx)(a:List Stmt)(u:St->Hp->Prop)(b:Flow->Shared->Prop):Prop:=∀(pins:List (Addr×Obj))(s:Shared)(σ:St)(H:Hp),Inv X pins σ H s->u σ H->wpAny (model X.prog X.w) X.A (execs a X.env) b X.xe s
def b9D (t:TS)(u:St->Hp->Prop):St->Hp->Prop:=λa H=>t { nx:=u,rt:=λ_ _=>False } a H
section
variable {st:Stmt}{rest:List Stmt}{t:TS}{u:St->Hp->Prop}{Φ:Flow->Shared->Prop}
def a0M (h1:PS X st t)(h2:PF X rest u Φ):PF X (st::rest) (b9D t u) Φ:=by
 intro a s c H I h
 refine wpAny_execs_cons (thn (h1 a s c H _ I h) λf d q=>?_)
 cases f with
 | next=>
  obtain⟨b,e,g,q⟩:=q
  exact h2 a d b e g q
 |ret v=>obtain⟨_,_,_,_,_,q⟩:=q;exact q.elim
 |brk=>obtain⟨_,_,_,q⟩:=q;exact q.elim
 |cont=>obtain⟨_,_,_,q⟩:=q;exact q.elim
end
def b2U (P:Program)(w:World)(K:W.Frag)(mg:Str->Option Value)(base:Heap)(k:Nat)(a:Addr->List V->Hp->VK->Prop):Prop:=
 ∀(f:Addr)(A:Around)(outer:List Env)(s:Shared)(H:Hp)(us:List Value)(vs:List V)(Q:VK),cV k A->rE P w K mg base A outer s H->Vals vs us->a f vs H Q->codeAny (model P w) A (.call (.ref f) ⟨us, []⟩) (CR CX0 outer P w H s Q E0) s
section
variable {spc:Addr->List V->Hp->VK->Prop}
end
def a8O (ts:List Addr)(H:Hp):Prop:=(∀P∈ts,H P=some (.tbl #[]))/\∀b,b∈ts\/H b=none\/∃o xs,H b=some (.frz o (.lst xs))
theorem a3B {P:Program}{w:World}{K:W.Frag}{mg mb:Str->Option Value}{CX:CXT}{k:Nat}{fa a:Addr}{fd:FuncData}{x:Str}{sp:Sp}{s₁:Shared}{vs:List Value}{ns:List Int}{ts:List Addr}
    (hts:∀T∈ts,K.lookup T=none/\s₁.heap.get? T=some (W.tabObj #[])/\isCodeTable s₁.heap T)
    (KX:K.In s₁.heap) (hns:s₁.heap.Ns mainGlobals mg) (hb:s₁.heap.Ns builtinsNs mb) (hbb:∀x:Str,x≠"__name__"->mb x=bootBuiltins x) (hlim:s₁.heap.NoLimit) (hg:s₁.gens=#[])
    (ha:s₁.heap.get? a=some { cls:= .type "list",data:= .seq vs.toArray }) (hi:IntsAre vs ns) (hl:ns.length<=sizeLine) (hr:cV k callerA)
    (F:∀base:Heap,K.In base->base.Ns mainGlobals mg->gD P w K mg base CX k fa fd [x] sp) (hbind:∀(s:Shared)(u:Value),BindsTo s fd ⟨[u], []⟩ [(x,u)])
    (hsp:∀H:Hp,a8O ts H->SqL K H a (ns.map V.int)->sp [.ref a] H (λv _=>v= .bl true) λ_ _ _=>False)
    (hCX:∀H e s',CX [] H s₁ (λ_ _ _=>False) e s'->False) :
    codeAny (model P w) callerA (.call (.ref fa) ⟨[.ref a], []⟩) (λr s'=>r= .ok (.ret (.bool true))/\OldK s₁.heap s'.heap/\s'.os=s₁.os/\AllBare s'.gens) s₁:=by
  have U:=rM hi
  have A:=hi.length
  have aT:a∉ts:=λz=>by
    have:=(hts a z).2.1
    rw[ha]at this;cases this
  have l : ∀g:Hp,(∀b,g b=none\/∃o xs,g b=some (.frz o (.lst xs)))->SqL K g a (ns.map V.int)->HOk P w g s₁.heap->(∀b,g b≠none->b=a)->(g a≠none->K.lookup a=none)->
      codeAny (model P w) callerA (.call (.ref fa) ⟨[.ref a], []⟩) (λr s'=>r= .ok (.ret (.bool true))/\OldK s₁.heap s'.heap/\s'.os=s₁.os/\AllBare s'.gens) s₁:=by
    intro g B J p i L
    obtain⟨H,X⟩:∃H:Hp,H=λb=>if b∈ts then some (.tbl #[]) else g b:=⟨_,rfl⟩
    have y:∀b,b∈ts->H b=some (.tbl #[]):=λb z=>by rw[X];exact if_pos z
    have c:∀b,b∉ts->H b=g b:=λb z=>by rw[X];exact if_neg z
    have M:∀b,b∈ts->g b=none:=λb z=>by
      cases q:g b with
      |none=>rfl
      |some u=>exact absurd (by rw[<-i b (by rw[q];simp)];exact z) aT
    have sub:∀b u,g b=some u->H b=some u:=λb u q=>by
      rw[c b λz=>by rw[M b z]at q;cases q];exact q
    have hO:a8O ts H:=⟨y,λb=>by
      by_cases z:b∈ts
      · exact .inl z
      · rw[c b z];exact .inr (B b)⟩
    have hS:SqL K H a (ns.map V.int):=by
      rcases J with (h | ⟨o,h⟩) | h
      · exact .inl (.inl (sub _ _ h))
      · exact .inl (.inr ⟨o,sub _ _ h⟩)
      · exact .inr h
    have N:HOk P w H s₁.heap:=λb u e=>by
      by_cases z:b∈ts
      · rw[y b z]at e
        cases e
        exact(hts b z).2.1
      · rw[c b z]at e
        exact(p b u e).stay (λ_ _ _ q=>q) (λd q=>sub d _ q) λd xs q=>sub d _ q
    have fr:∀{b:Addr}{o:Obj},s₁.heap.get? b=some o->o.cls≠ .none->b≠a->H b=none:=λ{b o} e hc O=>by
      have z:b∉ts:=λz=>by
        have:=(hts b z).2.1
        rw[e]at this
        cases this
        exact hc rfl
      rw[c b z]
      cases q:g b with
      |none=>rfl
      |some u=>exact absurd (i b (by rw[q];simp)) O
    have f:∀{b:Addr}{o:Obj},s₁.heap.get? b=some o->H b=none->(uJ s₁.heap H).get? b=some o:=λe n=>a7O e n
    have Q:∀{b:Addr}{o:Obj}{G:Array DictEntry}{I:Nat},s₁.heap.get? b=some o->o.data= .dict G I->H b=none:=λ{b o G I} e d=>by
      have z:b∉ts:=λz=>by
        have:=(hts b z).2.1
        rw[e]at this
        cases this
        cases d
      rw[c b z]
      cases q:g b with
      |none=>rfl
      | some u=>
        have R:b=a:=i b (by rw[q];simp)
        subst R
        rw[ha]at e;cases e
        cases d
    have j:∀{b:Addr}{m:Str->Option Value},s₁.heap.Ns b m->(uJ s₁.heap H).Ns b m:=λ{b m} ⟨o,G,I,e,d,r⟩=>⟨o,G,I,f e (Q e d),d,r⟩
    have C:K.In (uJ s₁.heap H):=λb o e=>f (KX b o e) (by
      have z:b∉ts:=λz=>by rw[(hts b z).1]at e;cases e
      rw[c b z]
      cases q:g b with
      |none=>rfl
      | some u=>
        have R:b=a:=i b (by rw[q];simp)
        subst R
        rw[L (by rw[q];simp)]at e;cases e)
    have hM:Mod K mg (uJ s₁.heap H):=⟨C,j hns,⟨mb,j hb,hbb⟩,let ⟨mc,h1,h2⟩:=hlim;⟨mc,j h1,h2⟩⟩
    have e0:rE P w K mg (uJ s₁.heap H) callerA [] s₁ H:=⟨rfl,hM,λb o e=>b0P e,Nat.le_of_eq (a3E _ _),trivial,λb hb=>absurd (show b∈([]:List Addr) from hb) (by simp),N,.of_eq hg⟩
    refine Jb ((F _ C (j hns)).run callerA [] s₁ H ⟨[.ref a], []⟩ [.ref a] [.ref a] _ _ hr e0 (hbind s₁ (.ref a)) (.cons rfl .nil) (hsp H hO hS)) λr s' h=>?_
    cases r with
    |error e=>exact(hCX H e s' h).elim
    | ok fl =>
      cases fl with
      |next=>exact False.elim h
      |brk=>exact False.elim h
      |cont=>exact False.elim h
      | ret u =>
        obtain⟨v,H',os,D,un,t,r',q⟩:=h
        have q':v= .bl true:=q
        subst q'
        obtain rfl:u=Value.bool true:=r'
        refine⟨rfl,⟨λb o e=>?_,λb o e=>un.there b o e (by simp)⟩,os,D⟩
        by_cases z:b∈ts
        · obtain⟨t1,Y,t3⟩:=hts b z
          rw[e]at Y
          cases Y
          obtain⟨more,S⟩:=un.tbls b #[] (y b z)
          have e3:s'.heap.get? b=some { cls:= .none,data:= .fields (#[]++more) }:=t b _ S
          exact .inr (.inl ⟨t3,rfl, #[],more,rfl,e3⟩)
        · refine .inl ?_
          cases q:g b with
          |none=>exact un.keep b o e (by rw[c b z];exact q) (λz=>absurd (show b∈([]:List Addr) from z) (by simp)) (by simp)
          | some u=>
            rcases B b with E | ⟨ob,xs,E⟩
            · rw[q]at E;cases E
            · have z2:=un.frzs b ob _ (sub _ _ E)
              obtain⟨Z,_⟩:=p b _ E
              obtain⟨S,_⟩:=t b _ z2
              rw[e]at Z;cases Z
              exact S
  cases hk:K.lookup a with
  | some o=>
    have e:=KX a o hk
    rw[ha]at e
    cases e
    refine l (λ_=>none) (λ_=> .inl rfl) (.inr ⟨_,vs.toArray,_,hk,rfl,rfl,rfl,by rw[Yx,A];exact hl,by simpa using U⟩) (λb u z=>by cases (show (none:Option HO)=some u from z)) (λb z=>absurd rfl z) λz=>absurd rfl z
  | none =>
    refine l (λb=>if b=a then some (.frz { cls:= .type "list",data:= .seq vs.toArray } (.lst (ns.map V.int))) else none) (λb=>?_) (.inl (.inr ⟨{ cls:= .type "list",data:= .seq vs.toArray },if_pos rfl⟩)) (λb u z=>?_) (λb z=>?_) λ_=>hk
    · by_cases hb:b=a
      · exact .inr ⟨_,_,if_pos hb⟩
      · exact .inl (if_neg hb)
    · by_cases hb:b=a
      · cases (if_pos hb).symm.trans z
        subst hb
        exact⟨ha,by rw[Ya];exact hl,vs,_,U,ha⟩
      · cases (if_neg hb).symm.trans z
    · by_cases hb:b=a
      · exact hb
      · exact absurd (if_neg hb) z
theorem walk_ofT {l:W.OpenLaw}{n k:Nat}{q:Program}{loose:List Str}{XP:(Str->Option Value)->Heap->Prop}{YP:World->Heap->Prop}{d:DefRec}{K:Params->W.Frag}{CX:World->CXT}{sp:World->Sp}{x:Str}{tc:List (Addr×Addr)}
  (J:l.most=some n) (r:n<=sizeLine) (y:d.params.defaults= []) (L:cV k callerA)
  (M:∀(w:World)(h:Heap),YP w h->(K w.params).In h/\∀q∈tc,(K w.params).lookup q.2=none/\h.get? q.2=some (W.tabObj #[])/\W.codeHdIn (K w.params) q.1 q.2=true)
  (F : ∀(w:World)(mg:Str->Option Value)(p:Addr)(h:Heap),(K w.params).In h->h.Ns mainGlobals mg->mg d.name=some (.ref p)->
   ∃ fd:FuncData,(∀(s:Shared)(u:Value),BindsTo s fd ⟨[u], []⟩ [(x,u)])/\
    ∀base:Heap,(K w.params).In base->base.Ns mainGlobals mg->gD l.prog w (K w.params) mg base (CX w) k p fd [x] (sp w))
  (z:∀(w:World)(H:Hp)(a:Addr)(ns:List Int),ns.length<=n->a8O (tc.map (·.2)) H->SqL (K w.params) H a (ns.map V.int)->sp w [.ref a] H (λv _=>v= .bl true) λ_ _ _=>False)
  (A:∀(w:World)(H:Hp)(s:Shared)(e:Value)(B:Shared),CX w [] H s (λ_ _ _=>False) e B->False) :
  W.WalkO q loose XP YP l.row.toRowW d [] (λf vs=>PySem.call f vs):=by
 refine Att.attach_call J y λw E j mg mb p o pm cd N a vs ns G Y ho hd O C m i c P=>?_
 obtain⟨D,T⟩:=M w _ Y
 obtain⟨fd,Q,R⟩:=F w mg p _ D G.T.g C
 refine a3B (ts:=tc.map (·.2)) (λt S=>?_) D G.T.g G.T.b G.T.builtins G.T.nolimit P m i (YY c r) L R Q (λH U X=>z w H a ns c U X) λH e B=>A w H j e B
 obtain⟨q,Z,rfl⟩:=YR.mp S
 obtain⟨t1,I,t3⟩:=T q Z
 exact⟨t1,I,((W.codeHd_of_K D t3).tab I).isCodeTable⟩
def oE (f:Addr)(qual:Str)(a:Arguments)(c:Expr)(b:Scope)(cl:List (Str×Addr))(d:Addr):HO:=
 .ext λh=>∃pm ctv,h.get? f=some (W.kla_obj "<lambda>" qual a c b cl pm d ctv)
theorem oE.stb {a:Addr}:∀h1 h2:Heap,(∃pm ctv,h1.get? f=some (W.kla_obj "<lambda>" qual params body scope cl pm a ctv))->(∀o,h1.get? f=some o->h2.get? f=some o)->
  ∃pm ctv,h2.get? f=some (W.kla_obj "<lambda>" qual params body scope cl pm a ctv):=λh1 h2 ⟨pm,ctv,e⟩ k=>⟨pm,ctv,k _ e⟩
section
variable {c0 P bm:Addr}
theorem b4X (I:Inv X pins σ H s)(j:X.env.code= .ref c0)(C:W.codeHdIn X.K c0 P=true)(hb:Bm X.K X.mg bm)(hT:a3O P pos qual H)(J:closureFor scope X.env=pure cl)
  (h:∀f c' H' s',H f=none->(∀b o,b≠P->H b=some o->H' b=some o)->xM P pos c' H'->(H c'=none\/xM P pos c' H)->H' c'=some (jQ c' qual)->H' f=some (oE f qual params body scope cl c')->Inv X pins σ H' s'->Q (.ref f) s') :
  wpAny (model X.prog X.w) A (makeFunction "<lambda>" qual params (.expr body) scope X.env [] [] [] pos pos.line) Q E s:=by
 obtain⟨L,y,G,hh⟩:=hT
 have k:s.heap.get? P=some (W.tabObj L):=I.hok _ _ y
 have S:=Ys k
 have T:=I.mod.glob.keeps I.bk
 have CH:W.CodeHd s.heap c0 P:=W.codeHd_of_K I.kIn C
 obtain⟨b1,b2,b3,ob,b4,b5,b6,b7⟩:=hb
 have B:=I.kIn _ _ b4
 have U:mainGlobals≠P:=λq=>by
  obtain⟨o,es,ep,e,hd,_⟩:=T
  rw[q,k]at e;cases e;cases hd
 have V:bm≠P:=λq=>by
  rw[q,k]at B;cases B;cases b5
 have hB:s.heap.BuiltinsAt X.mg P:=⟨bm,ob,b1,b2,b3,V,B,b5,b6,b7⟩
 have M:∀d u,H d=some u->(∀qs,u≠ .tbl qs)->d≠P:=λd u q hn z=>by
  rw[z,y]at q
  exact hn _ (Yp q).symm
 rcases hh with N | ⟨c',Y,Z⟩
 ·refine W.kla_makeFunction (mg:=X.mg) J I.ok.glob T j CH k G N U hB λc' i a tk hx m O R D=>?_
  obtain⟨p,c⟩:∃p,p=W.kla_obj "<lambda>" qual params body scope cl ((X.mg "__name__").getD .none) c' i:=⟨_,rfl⟩
  rw[<-c]
  have a0:a.objs.size≠P:=Nat.ne_of_gt (Ys D)
  have cne:c'≠P:=Nat.ne_of_gt (Yh S m)
  have fc:a.objs.size≠c':=Nat.ne_of_gt O
  have g:s.heap.objs.size<=a.objs.size:=YY m (Xx O)
  have r:H a.objs.size=none:=I.hok.fresh g
  have a1:H c'=none:=I.hok.fresh m
  obtain⟨H',x⟩:∃H',H'=upd (upd (upd H P (.tbl (L++#[rawInt pos.line,rawInt pos.col,.ref c']))) c' (jQ c' qual)) a.objs.size (oE a.objs.size qual params body scope cl c'):=⟨_,rfl⟩
  have h1:H' a.objs.size=some (oE a.objs.size qual params body scope cl c'):=by rw[x,aB]
  have h2:H' c'=some (jQ c' qual):=by rw[x,aH fc.symm,aB]
  have h3:H' P=some (.tbl (L++#[rawInt pos.line,rawInt pos.col,.ref c'])):=by rw[x,aH a0.symm,aH cne.symm,aB]
  have h4:∀b,b≠P->b≠c'->b≠a.objs.size->H' b=H b:=λb n1 n2 n3=>by rw[x,aH n3,aH n2,aH n1]
  have v:∀b o,b≠P->H b=some o->H' b=some o:=λb o n q=>by
   have l:=(I.hok b o q).lt
   rw[h4 b n (YA (Yh l m)) (YA (Yh l g))];exact q
  have F:∀b o,b≠P->s.heap.get? b=some o->(a.push p).get? b=some o:=λb o n q=>Ym _ (hx b o n q)
  refine h a.objs.size c' H' _ r v ⟨_,h3,?_,?_⟩ (.inl a1) h2 h1 (I.call' (ch:=[]) rfl ⟨λb o e n _ _=>F b o (λz=>by rw[z,y]at n;cases n) e,λb o e n _ _=>⟨o.slots,F b o (λz=>by rw[z,y]at n;cases n) e⟩,λb o e n _=>?_,λb o e _=>?_,λb xs q=>v b _ (M b _ q λ_ z=>by cases z) q,λb o u q=>v b _ (M b _ q λ_ z=>by cases z) q,λb qs q=>?_⟩ (λb o e=>?_) I.bare (λb z=>absurd z (by simp)))
  ·rw[Array.toList_append];exact TriplesOk_snoc _ _ _ _ G
  ·rw[Array.toList_append];exact codeAmong_snoc _ G N
  ·have l:=Ys e
   rw[h4 b (λz=>by rw[z,y]at n;cases n) (YA (Yh l m)) (YA (Yh l g))];exact n
  ·by_cases z:b=P
   ·rw[z];exact⟨_,Ym _ D⟩
   ·exact⟨o,F b o z e⟩
  ·by_cases z:b=P
   ·rw[z,y]at q
    cases q
    exact⟨_,by rw[z];exact h3⟩
   ·exact⟨#[],by rw[v b _ z q];simp⟩
  ·by_cases z1:b=a.objs.size
   ·subst z1
    rw[h1]at e
    cases e
    refine⟨⟨(X.mg "__name__").getD .none,i,?_⟩,⟨p,Yz _ (by rw[c];rfl)⟩,oE.stb⟩
    rw[c]
    exact Yz _ rfl
   ·by_cases z2:b=c'
    ·subst z2
     rw[h2]at e
     cases e
     have hr:(a.push p).CodeRec (.ref b) qual:=jQ.stb _ _ R λo q=>Ym _ q
     obtain⟨c2,oc,vs,t,e2,ho,_⟩:=id hr
     cases e2
     exact⟨hr,⟨oc,ho⟩,jQ.stb⟩
    ·by_cases z3:b=P
     ·subst z3
      rw[h3]at e
      cases e
      exact Ym _ D
     ·rw[h4 b z3 z2 z1]at e
      refine(I.hok b o e).stay (λd u hd q=>F d u ?_ q) (λd q=>v d _ (M d _ q λ_ z=>by cases z) q) λd xs q=>v d _ (M d _ q λ_ z=>by cases z) q
      rcases hd with rfl | hd
      ·exact z3
      ·exact M d _ hd λ_ z=>by cases z
 ·refine W.kla_makeFunctionHit (mg:=X.mg) J I.ok.glob T j CH k G Y hB λi a tk hx g=>?_
  obtain⟨p,c⟩:∃p,p=W.kla_obj "<lambda>" qual params body scope cl ((X.mg "__name__").getD .none) c' i:=⟨_,rfl⟩
  have F:∀b o,s.heap.get? b=some o->(a.push p).get? b=some o:=λb o q=>Ym _ (hx b o q)
  have r:H a.objs.size=none:=I.hok.fresh g
  have v:∀b o,H b=some o->upd H a.objs.size (oE a.objs.size qual params body scope cl c') b=some o:=λb o q=>by
   rw[aH (aP q r)];exact q
  rw[show (⟨.type "function",none,.func (W.kla_fn "<lambda>" qual params body scope cl ((X.mg "__name__").getD .none) (.ref c') i), #[]⟩:Obj)=p from c.symm]
  refine h a.objs.size c' (upd H a.objs.size (oE a.objs.size qual params body scope cl c')) _ r (λb o _ q=>v b o q) ⟨L,v _ _ y,G,Y⟩ (.inr ⟨L,y,G,Y⟩) (v _ _ Z) aB (I.call' (ch:=[]) rfl (Un.laid F g r) (I.hok.laid F g ?_) I.bare (λb z=>absurd z (by simp)))
  refine⟨⟨(X.mg "__name__").getD .none,i,?_⟩,⟨p,Yz _ (by rw[c];rfl)⟩,oE.stb⟩
  rw[c]
  exact Yz _ rfl
end
theorem b0X {P:Program}{w:World}{K:W.Frag}{mg:Str->Option Value}{base:Heap}{k:Nat}{f B:Addr}{l:Arguments}{m:Expr}{a:Scope}{qual:Str}{cl:List (Str×Addr)}{N L ys:List Str}{A:Around}{g:List Env}{s:Shared}{H:Hp}{C:Args}{us:List Value}{vs ws:List V}{Q:VK}{E:XK}
  (S:vA N L ys a) (Z:cV (k+1) A) (D:rE P w K mg base A g s H) (hf:H f=some (oE f qual l m a cl B)) (a0:H B=some (jQ B qual)) (hc:Cells H cl ys ws) (hl:vs.length=L.length) (r:Vals vs us)
  (i:∀pm ctv,BindsTo s (W.kla_fn "<lambda>" qual l m a cl pm (.ref B) ctv) C (L.zip us))
  (F:cV k (A.deeper (W.envX qual a s.heap.objs.size f (.ref B) cl))->∃t,PE (cxC P w K mg base N qual a f (.ref B) cl A g s (lX H (cl.map (·.2)))) m t/\
   t (pX N vs ws) (lX H (cl.map (·.2))) λv H'=>Q v (xJ H H' (cl.map (·.2)))) :
  codeAny (model P w) A (.call (.ref f) C) (CR CX0 g P w H s Q E) s:=by
 obtain⟨⟨pm,ctv,ho⟩,_,_⟩:=D.hok _ _ hf
 obtain⟨M,_,_⟩:=D.hok _ _ a0
 have G:∀c∈cl.map (·.2),∃v,H c=some (lJ c v):=λc h=>Cells.is hc.2.2 h
 have a1:s.heap.NoLimit:=D.mod.nolimit.keeps λb o e=>(D.bs b o e).1
 have O:∀y∈L.zip us,a.names.lookup y.1=some .local:=λ⟨n,v⟩ hy=>S.par n (X0 hy).1
 refine W.kla_callFunE Z.depth ho rfl S.co S.gen rfl M (i pm ctv _ _ _ _ ?_)
 refine wpAny_newFunctionEnv (λy hy=>(S.only y hy).1) O (λh' hn a2=>?_) S.kind
 have hk:∀b o,s.heap.get? b=some o->h'.get? b=some o:=λb o e=>by
  have a3:b≠s.heap.objs.size:=YA (Ys e)
  rw[a2.2 b a3]
  exact Ym _ e
 refine⟨a1.keeps hk,W.kla_codeExpr ?_⟩
 obtain⟨t,ht,hq⟩:=F (Z.deeper _)
 have I:=yV (qual:=qual) (f:=f) (cd:= .ref B) (tk:=s.toks+(L.zip us).length) S Z.hd D hl r hc hn hk
 refine Xc (ht [] _ _ _ _ I hq) (λu0 R hs=>?_) λe R hs=>hs.elim
 have fin :∀{T:St}{H':Hp}{v:V}{u:Value},Inv (cxC P w K mg base N qual a f (.ref B) cl A g s (lX H (cl.map (·.2)))) [] T H' R->RelV v u->Q v (xJ H H' (cl.map (·.2)))->CE g P w H s Q u R:=by
  intro T H' v u J rv q
  have nx:∀b u,H b=some u->(∀X,u≠ .ext X)->b∉cl.map (·.2):=λb u q hn z=>by
   obtain⟨v,x⟩:=G b z
   rw[q]at x
   exact hn _ (Yp x)
  have Y:∀b,H b=none->b∉cl.map (·.2):=λb q z=>by
   obtain⟨v,x⟩:=G b z
   rw[q]at x;cases x
  have hJ:∀c∈cl.map (·.2),H' c=none:=λc hm=>by
   obtain⟨p,hp,rfl⟩:=YR.mp hm
   have q:cl.lookup p.1=some p.2:=nC (by rw[hc.1];exact(List.nodup_append.mp (show (L++ys).Nodup by rw[<-S.pre];exact S.nd.sublist (List.take_sublist _ _))).2.1) hp
   exact J.freeC p.1 p.2 q
  have un:=J.base
  have j:Un (frs g) [] (lX H (cl.map (·.2))) H' s.heap R.heap:=un
  refine⟨v,xJ H H' (cl.map (·.2)),J.os,J.bare,⟨λb o e n i U=>j.keep b o e (by rw[dH (Y b n)];exact n) i U,λb o e n i U=>j.slot b o e (by rw[dH (Y b n)];exact n) i U,λb o e n U=>?_,j.there,λb xs q=>?_,λb o u q=>?_,λb a4 q=>?_⟩,λb o e=>?_,rv,q⟩
  ·rw[iG (Y b n)]
   exact j.free b o e (by rw[dH (Y b n)];exact n) U
  ·have i:=nx b _ q λX z=>by cases z
   rw[iG i]
   exact j.tups b xs (by rw[dH i];exact q)
  ·have i:=nx b _ q λX z=>by cases z
   rw[iG i]
   exact j.frzs b o u (by rw[dH i];exact q)
  ·have i:=nx b _ q λX z=>by cases z
   obtain⟨more,e⟩:=j.tbls b a4 (by rw[dH i];exact q)
   exact⟨more,by rw[iG i];exact e⟩
  ·by_cases i:b∈cl.map (·.2)
   ·rw [a1P i]at e
    obtain⟨v2,x⟩:=G b i
    have a5:b∉frs g:=λz=>by
     have:=D.frf b z
     rw[x]at this;cases this
    rw[x]at e
    cases e
    obtain⟨p,⟨ob,eo⟩,stb⟩:=D.hok b _ x
    have kk:∀u,s.heap.get? b=some u->R.heap.get? b=some u:=λu q=>j.keep b u q (nG i) a5 (by simp)
    exact⟨stb _ _ p kk,⟨ob,kk _ eo⟩,stb⟩
   ·rw [iG i]at e
    refine(J.hok b o e).stay (λd u _ q=>q) (λd q=>?_) λd xs q=>?_
    ·have hd:d∉cl.map (·.2):=λz=>by rw[hJ d z]at q;cases q
     rw[iG hd];exact q
    ·have hd:d∉cl.map (·.2):=λz=>by rw[hJ d z]at q;cases q
     rw[iG hd];exact q
 obtain⟨v,H',J,rv,q⟩:=hs
 exact fin J rv q
def FnE (K:W.Frag)(H:Hp)(f:Addr):Prop:=(∃oc od fd sl,K.lookup f=some ⟨oc,od,.func fd,sl⟩)\/∃φ,H f=some (.ext φ)/\∀h,φ h->W.FnAt f h
def FnE.lam {a:Addr}(h:H f=some (oE f qual params body scope cl a)):FnE K H f:=
 .inr ⟨_,h,λ_ ⟨_,_,e⟩=>⟨_,_,_,_,e⟩⟩
def b3L (K:W.Frag)(a:Addr->List V->Hp->VK->Prop)(i:Nat)(t:TA):TE:=λb H Q=>∃f,b[i]? =some (some (.ref f))/\FnE K H f/\t b H λd c=>FnE K c f/\a f d c Q
section
variable {spc:Addr->List V->Hp->VK->Prop}
def FnE.at (I:Inv X pins σ H s)(h:FnE X.K H f):W.FnAt f s.heap:=by
 rcases h with ⟨a,b,c,d,e⟩ | ⟨g,e,z⟩
 ·exact⟨a,b,c,d,I.kIn _ _ e⟩
 ·exact z _ (I.hok _ _ e).1
def a6Q (F:b2U X.prog X.w X.K X.mg X.base k spc)(hr:cV k X.A)(hv:PE X (.Name x p) (b3H i))(ha:PA X (e::es) t)(hK:X.K=K:=by rfl)(he:starEach (e::es) X.env=(false,eval e X.env)::starEach es X.env:=by rfl)(hpl:(backTo pos (starEach es X.env)).any (·.1)=false:=by rfl):
  PE X (.Call (.Name x p) (e::es) [] pos) (b3L K spc i t):=by
 subst hK
 intro a s g H Q I ⟨f,j,l,m⟩
 refine Xk (thn (hv a s g H (λv n=>v= .ref f/\n=H) I ⟨_,j,rfl,rfl⟩) λu o c=>?_)
 obtain⟨v,q,h,y,z,B⟩:=c
 subst z B
 obtain rfl:u=Value.ref f:=y
 refine W.callWith_F (l.at h) (thn (ha pos a o g q _ h m) λC D ⟨E,G,d,r,J,L⟩=>⟨J.at d,?_⟩) he hpl
 refine wpAny_call (Jb (F f X.A X.stack D G C E Q hr d.env0 r L) λr M b=>?_)
 cases r with
 |error e=>exact b.elim
 | ok fl=>
  cases fl with
  |ret u=>exact d.after b
  |next=>exact False.elim b
  |brk=>exact False.elim b
  |cont=>exact False.elim b
end
def b8Y (X:Cx)(Q:VK)(b:Flow)(a:Shared):Prop:=∃u,b= .ret u/\∃v H',a.os=X.s₀.os/\AllBare a.gens/\Un X.fs X.ex X.H₀ H' X.s₀.heap a.heap/\HOk X.prog X.w H' a.heap/\RelV v u/\Q v H'
def b9E (C P:Addr)(m iq y:Str)(i:Arguments)(j:Expr)(g:Scope)(d:Pos)(iy:Nat)(sp:Sp)(k:TE)(Q:VK):St->Hp->Prop:=λh H=>k h H λx e=>∃a dx fs w,x= .ref a/\e a=some (.ins C dx fs)/\fs.lookup m=none/\h[iy]? =some (some w)/\a3O P d iq e/\
 ∀f c c' H2,e f=none->e c=none->(∀b o,b≠P->e b=some o->H2 b=some o)->xM P d c' H2->(e c'=none\/xM P d c' e)->H2 c'=some (jQ c' iq)->H2 c=some (lJ c w)->H2 f=some (oE f iq i j g [(y,c)] c')->sp [.ref a,.ref f] H2 Q λ_ _ _=>False
theorem b4D {C c0 P bm fa:Addr}{fd:FuncData}{ps:List Str}{k iy:Nat}{sp:Sp}{m iq y:Str}{ip:Arguments}{ib:Expr}{isc:Scope}{lpos pos apos p2:Pos}{o:Expr}{ta:TE}{Q:VK}{pl:Sem Bool}(he:PE X o ta)(c:Cls X.K C)(hm:Meth X.K C m fa)(F:gD X.prog X.w X.K X.mg X.base CX0 k fa fd ps sp)(hr:cV k X.A)(hb:Binds X.K fd ps [])
    (hcode:X.env.code= .ref c0) (Cd:W.codeHdIn X.K c0 P=true) (hbm:Bm X.K X.mg bm) (hcl:∀c,X.env.cells.lookup y=some c->closureFor isc X.env=pure [(y,c)]) (hy:X.N[iy]? =some y) (hyc:X.env.scope.names.lookup y=some .cell) (hfn:X.fn y=true) (hdef:defaultsOf ip X.env=([], [])) (hq:X.env.qual++"<lambda>"=iq)
    (hst:starEach [.Lambda ip ib isc lpos] X.env=(false,eval (.Lambda ip ib isc lpos) X.env)::starEach [] X.env:=by rfl)
    (ht:eval (.Call (.Attribute o m apos) [.Lambda ip ib isc lpos] [] pos) X.env=(do
      let ov<-eval o X.env
      standAt apos.atName
      let (f,first)<-holding [ov] (getMethod ov m pl)
      callWith pos f first (backTo pos (starEach [.Lambda ip ib isc lpos] X.env)) (backToKw pos (keywordEach [] X.env))):=by rfl) :
    PF X [.Return (some (.Call (.Attribute o m apos) [.Lambda ip ib isc lpos] [] pos)) p2] (b9E C P m iq y ip ib isc lpos iy sp ta Q) (b8Y X Q):=by
  intro B s σ H I h
  obtain⟨cc,hc⟩:=I.ok.has y (.inl hyc)
  refine wpAny_execs_cons (wpAny_Return_some ?_)
  have lam:PE X (.Lambda ip ib isc lpos) (λσ H Q=>a3O P lpos iq H/\∀f i D,H f=none->(∀b o,b≠P->H b=some o->D b=some o)->xM P lpos i D->(H i=none\/xM P lpos i H)->D i=some (jQ i iq)->D f=some (oE f iq ip ib isc [(y,cc)] i)->Q (.ref f) D):=by
    intro B s σ H Q I ⟨hT,kk⟩
    refine W.kla_eval hdef ?_
    rw[hq]
    exact b4X I hcode Cd hbm hT (hcl cc hc) λf i D s' hf a8 a9 b1 b2 b3 J=>⟨.ref f,D,J,rfl,kk f i D hf a8 a9 b1 b2 b3⟩
  refine Xp (pl:=pl) (thn (he B s σ H _ I h) λu s1 b4=>?_) ht
  obtain⟨x,H1,I1,rx,a,dx,fs,w,ex,ea,l,hw,hT,q⟩:=b4
  subst ex
  obtain rfl:u=Value.ref a:=rx
  refine eV I1 ea c hm l ?_
  have b5:=I1.freeC y cc hc
  refine XX (first:=[.ref a]) (h₀:=X.base) I.ok.mod.kin hm.kp (thn ((aA lam aC hst) pos B s1 σ H1 (λvs R=>∃f i,vs= [.ref f]/\H1 f=none/\(∀b o,b≠P->H1 b=some o->R b=some o)/\xM P lpos i R/\(H1 i=none\/xM P lpos i H1)/\R i=some (jQ i iq)/\R f=some (oE f iq ip ib isc [(y,cc)] i)) I1 ⟨hT,λf i D h1 h2 h3 U h4 h5=>⟨f,i,rfl,h1,h2,h3,U,h4,h5⟩⟩) λus s2 b6=>?_) hst rfl
  obtain⟨vs,R,p,r,f,i,V,h1,h2,h3,U,h4,h5⟩:=b6
  refine⟨p.kIn,?_⟩
  subst V
  have b7:=p.freeC y cc hc
  obtain⟨mm,_,hl⟩:=p.loc
  obtain⟨uv,ru,lk⟩:=hl iy y w hy hw (.inr (.inl hyc))
  have j:s2.heap.IsCell cc (some uv):=by
    rcases lk with ⟨hk,_⟩ | ⟨_,c2,a0,j⟩
    · have a4:X.env.scope.names.lookup y=some .local:=hk
      rw[hyc]at a4;cases a4
    · rw[hc]at a0
      cases a0
      exact j
  have b9:∃o,s2.heap.get? cc=some o:=by obtain⟨o,ho,_⟩:=j;exact⟨o,ho⟩
  have c1:X.s₀.heap.objs.size<=cc:=p.ok.cab y cc hfn hc
  obtain⟨S,t⟩:∃S,S=upd R cc (lJ cc w):=⟨_,rfl⟩
  have O:∀b o,R b=some o->S b=some o:=λb o z=>by rw[t,aH (aP z b7)];exact z
  have a5:HOk X.prog X.w S s2.heap:=λb o z=>by
    by_cases hbc:b=cc
    · subst hbc
      rw[t,aB]at z
      cases z
      exact⟨⟨uv,ru,j⟩,b9,λk1 k2 ⟨v1,r1,o1,c3,c4⟩ kk=>⟨v1,r1,o1,kk _ c3,c4⟩⟩
    · rw[t,aH hbc]at z
      exact(p.hok b o z).stay (λd u' _ zz=>zz) (λd zz=>O d _ zz) λd xs zz=>O d _ zz
  have T:=p.env0
  have Y:∀b,b<X.s₀.heap.objs.size->b≠cc:=λb z=>YA (Yh z c1)
  have e3 :rE X.prog X.w X.K X.mg X.base X.A X.stack s2 S:=⟨T.frames,T.mod,λb o z=>⟨(T.bs b o z).1,by
      rw[t,aH (Y b (Yh (Ys z) p.ok.bsz))];exact(T.bs b o z).2⟩,T.bsz,T.funs,λb z=>by
      rw[t,aH λq=>?_]
      · exact T.frf b z
      · rcases YI.mp (p.stkSub b z) with e | hb'
        · exact p.cne y cc hc (q.symm.trans e)
        · obtain⟨_,o,ho,_⟩:=p.ok.funs.mem hb'
          exact Y b (Ys ho) q,a5,T.bare⟩
  have E:=q f cc i S h1 b5 (λb o n z=>O b o (h2 b o n z)) (by
    obtain⟨qs,a1,a2,a3⟩:=h3
    exact⟨qs,O _ _ a1,a2,a3⟩) U (O _ _ h4) (by rw[t,aB]) (O _ _ h5)
  have c5:((Value.ref a::us)++[]).length=ps.length:=by
    rw[YH,<-(show Vals (.ref a::[.ref f]) (Value.ref a::us) from .cons rfl r).length];exact F.len _ _ _ _ E
  have a6:=hb s2 (.ref a::us) p.kIn c5
  rw[YH]at a6
  refine wpAny_call (Jb (F.run X.A X.stack s2 S ⟨.ref a::us, []⟩ (.ref a::us) [.ref a,.ref f] Q _ hr e3 a6 (.cons rfl r) E) λr s' G=>?_)
  cases r with
  |error e=>exact G.elim
  | ok fl =>
    cases fl with
    |next=>exact False.elim G
    |brk=>exact False.elim G
    |cont=>exact False.elim G
    | ret u=>
      obtain⟨v,D,os,a7,un,c6,rv,qq⟩:=G
      have L:=p.base
      have Z:∀b g,X.s₀.heap.get? b=some g->R b=none->S b=none:=λb g z n=>by
        rw[t,aH (Y b (Ys z))];exact n
      have c7:∀b g,X.s₀.heap.get? b=some g->b∉X.fs->b∉frs X.stack:=λb g z n hb'=>by
        rcases YI.mp (p.stkSub b hb') with e | hb''
        · have:=p.ok.above
          rw[<-e]at this
          exact absurd (Ys z) (Nat.not_lt.mpr this)
        · exact n hb''
      refine⟨u,rfl,v,D,os.trans p.os,a7,⟨λb g z n hb' M=>?_,λb g z n hb' M=>?_,λb g z n M=>?_,λb g z M=>?_,λb xs z=>?_,λb g uu z=>?_,λb qs z=>?_⟩,c6,rv,qq⟩
      · exact un.keep b g (L.keep b g z n hb' M) (Z b g z (L.free b g z n M)) (c7 b g z hb') (by simp)
      · obtain⟨sl,V⟩:=L.slot b g z n hb' M
        obtain⟨c8,e2⟩:=un.any V (Z b g z (L.free b g z n M)) (by simp)
        exact⟨c8,e2⟩
      · obtain⟨o',V⟩:=L.there b g z M
        exact un.free b o' V (Z b g z (L.free b g z n M)) (by simp)
      · obtain⟨o',V⟩:=L.there b g z M
        exact un.there b o' V (by simp)
      · exact un.tups b xs (O _ _ (L.tups b xs z))
      · exact un.frzs b g uu (O _ _ (L.frzs b g uu z))
      · obtain⟨m1,z1⟩:=L.tbls b qs z
        obtain⟨m2,z2⟩:=un.tbls b _ (O _ _ z1)
        exact⟨m1++m2,by rw[z2,Array.append_assoc]⟩
theorem Fun.okL {CX:CXT}{P:Program}{w:World}{K:W.Frag}{mg:Str->Option Value}{base:Heap}{x qual:Str}{c:Stmt}{f h:Addr}{m:FuncData}{N p:List Str}{k:Nat}{sp:Sp}(F:Fun K x qual c f m)(d:m.code= .ref h)(S:iM N p (bM c))(len:∀vs H Q E,sp vs H Q E->vs.length=p.length)
  (g:∀(A:Around)(a:List Env)(s:Shared)(H:Hp)(vs:List V)(Q:VK)(E:XK),cV k (A.deeper (envOfC qual (bM c) s.heap.objs.size f (.ref h)))->sp vs H Q E->
   ∃u,PF (qU CX P w K mg base N qual (bM c) f (.ref h) A a s H E) (gA c) u (b8Y (qU CX P w K mg base N qual (bM c) f (.ref h) A a s H E) Q)/\u (start N vs) H):gD P w K mg base CX (k+1) f m p sp:=by
 obtain⟨oc,od,kV,R,pm,an,t,ct,T,rfl,U,y⟩:=F.ex
 have z:t= .ref h:=d
 subst z
 refine⟨len,λA a s H J us vs Q E B i X r j=>?_⟩
 have Y:=len _ _ _ _ j
 have L:K.In s.heap:=i.mod.kin.keeps λb o e=>(i.bs b o e).1
 have C:s.heap.NoLimit:=i.mod.nolimit.keeps λb o e=>(i.bs b o e).1
 refine codeAny_call_function B.depth (L _ _ U) rfl S.co S.gen rfl (W.codeRec_of L y) (X _ _ _ _ ?_)
 refine wpAny_newFunctionEnv_cells S.kind (λ⟨n,v⟩ Z=>by
  rcases S.par n (X0 Z).1 with q | q
  ·exact .inl q
  ·exact .inr ⟨q,W.cellsFrom_some _ _ _ (.inl q)⟩) λa0 he M O=>?_
 subst he
 refine⟨C.keeps O.toInCall.keep,codeAny_func ?_⟩
 obtain⟨u,hu,hq⟩:=g A a s H vs Q E (B.deeper _) j
 have I:Inv (qU CX P w K mg base N qual (bM c) f (.ref h) A a s H E) [] (start N vs) H M:=sW S B.hd i Y r O
 refine Xc (hu [] M (start N vs) H I hq) (λfl s' D=>?_) λe s' D=>D
 obtain⟨v,rfl,v',H',os,l,un,G,rv,q⟩:=D
 exact⟨v',H',os,l,un,G,rv,q⟩
section
variable {spc:Addr->Sp}{E:XK}
end
section
variable {mg:Str->Option Value}{base:Heap}{n:Nat}{d:FuncData}{ps:List Str}{sp:Sp}{spc spd:Addr->Sp}
end
end L2
namespace Bm
def fL (n j:Nat):Int:=if n.testBit j then 1 else 0
def bJ (n m:Nat):List Int:=(List.range m).map λi=>fL n (m-1-i)
def jW (bs:List Int):Int:=bs.foldl (λx b=>x*2+b) 0
def bK (bs:List Int):Prop:=∀b∈bs,b=0\/b=1
def b1R (n j:Nat):fL n j=0\/fL n j=1:=by unfold fL;split <;> simp
def gO (n m:Nat):bK (bJ n m):=λb a=>by
 obtain⟨i,_,rfl⟩:=YR.mp a
 exact b1R _ _
def bV (n m:Nat):(bJ n m).length=m:=by unfold bJ;rw[Ya,Y2]
def sX {n m k:Nat}(h:k<(bJ n m).length):(bJ n m)[k]=fL n (m-1-k):=by simp[bJ]
def a8A (n j:Nat):((n / 2 ^ j:Nat):Int)=((n / 2 ^ (j+1):Nat):Int)*2+fL n j:=by
 have e:n / 2 ^ (j+1)=n / 2 ^ j / 2:=by rw[Xm,Nat.div_div_eq_div_mul]
 unfold fL
 rw[YV,e]
 generalize n / 2 ^ j=q
 by_cases h:q % 2=1
 ·rw[Yj h,if_pos rfl];lia
 ·rw[Yl h,if_neg (by decide)];lia
def a6Y:jW []=0:=rfl
def oJ (l:List Int)(b:Int):jW (l++[b])=jW l*2+b:=by
 unfold jW;rw[Xl];rfl
def a2Q (l:List Int):∀x:Int,l.foldl (λx b=>x*2+b) x=x*2 ^ l.length+jW l:=by
 induction l with
 |nil=>intro x;simp[jW]
 | cons b r ih=>
  intro x
  unfold jW
  rw[XN,XN,ih,ih,YM,Int.pow_succ]
  have:(x*2+b)*2 ^ r.length=x*(2 ^ r.length*2)+b*2 ^ r.length:=by
   rw[Int.add_mul,Int.mul_assoc,Int.mul_comm 2 (2 ^ r.length)]
  rw[this]
  simp only[Int.zero_mul,XG]
  lia
def sE (b:Int)(l:List Int):jW (b::l)=b*2 ^ l.length+jW l:=by
 show (b::l).foldl _ 0=_
 rw[XN,a2Q];simp
def uF {l:List Int}(h:bK l):0<=jW l/\jW l<2 ^ l.length:=by
 induction l with
 |nil=>exact⟨XY _,by decide⟩
 | cons b r ih=>
  have:=ih λz a=>h z (Yw _ a)
  rw[sE,YM,Int.pow_succ]
  have p:(0:Int)<2 ^ r.length:=Int.pow_pos (by decide)
  rcases h b Yy with rfl | rfl
  ·lia
  ·lia
def a6W (n m:Nat)(hn:n<2 ^ m):∀k,k<=m->jW ((bJ n m).take k)=((n / 2 ^ (m-k):Nat):Int):=by
 intro k
 induction k with
 | zero=>
  intro _
  rw[X8,a6Y,Nat.sub_zero,Nat.div_eq_of_lt hn];rfl
 | succ k ih=>
  intro e
  have a:k<(bJ n m).length:=by rw[bV];lia
  rw[Yg a,oJ,ih (by lia)]
  have b:(bJ n m)[k]=fL n (m-1-k):=sX a
  rw[b]
  have c:m-k=(m-1-k)+1:=by lia
  have d:m-(k+1)=m-1-k:=by lia
  rw[c,d,a8A n (m-1-k)]
def a6X {n m:Nat}(a:n<2 ^ m):jW (bJ n m)=(n:Int):=by
 have h:=a6W n m a m (Yc _)
 rw[Yi (by rw[bV];exact Yc _),Nat.sub_self,Nat.pow_zero,Nat.div_one]at h
 exact h
end Bm
namespace Rn
open Bm
def Win (l:List Int)(a n:Nat):Prop:=a+n<=l.length/\∀i j,a<=i->i<a+n->a<=j->j<a+n->l.getD i 0=l.getD j 0
def pR {l:List Int}(h:bK l):0<=l.sum/\l.sum<=l.length:=by
 induction l with
 |nil=>exact⟨XY _,XY _⟩
 | cons b r ih=>
  have:=ih λz a=>h z (Yw _ a)
  rw[XB,YM]
  rcases h b Yy with rfl | rfl <;> lia
def vH {l:List Int}(h:bK l)(e:l.sum=0):∀b∈l,b=0:=by
 induction l with
 |nil=>intro b hb;cases hb
 | cons c r ih=>
  have a:bK r:=λz d=>h z (Yw _ d)
  have s:=pR a
  rw[XB]at e
  intro b hb
  rcases h c Yy with rfl | rfl
  ·rcases YI.mp hb with rfl | hb
   ·rfl
   ·exact ih a (by lia) b hb
  ·lia
def vJ {l:List Int}(h:bK l)(e:l.sum=l.length):∀b∈l,b=1:=by
 induction l with
 |nil=>intro b hb;cases hb
 | cons c r ih=>
  have a:bK r:=λz d=>h z (Yw _ d)
  have s:=pR a
  rw[XB,YM]at e
  intro b hb
  rcases h c Yy with rfl | rfl
  ·lia
  ·rcases YI.mp hb with rfl | hb
   ·rfl
   ·exact ih a (by lia) b hb
def a1Y {c:Int}{l:List Int}(h:∀b∈l,b=c):l.sum=c*l.length:=by
 induction l with
 |nil=>simp
 | cons b r ih=>
  rw[XB,ih λz a=>h z (Yw _ a),h b Yy,YM]
  have:((r.length+1:Nat):Int)=(r.length:Int)+1:=by lia
  rw[this,Int.mul_add,Int.mul_one];lia
def a1N {l:List Int}{a n i:Nat}(h:i<n)(b:a+n<=l.length):((l.drop a).take n).getD i 0=l.getD (a+i) 0:=by
 rw[Yf,Yf,Y9 h,List.getElem?_drop]
def nQ {l:List Int}{a n:Nat}(b:a+n<=l.length):((l.drop a).take n).length=n:=by
 rw[Yq,Xu];lia
def b0W {l:List Int}{a n:Nat}{b:Int}(f:a+n<=l.length)(h:b∈(l.drop a).take n):∃i,i<n/\b=l.getD (a+i) 0:=by
 obtain⟨i,d,e⟩:=List.mem_iff_getElem.mp h
 have c:i<n:=by rw[nQ f]at d;exact d
 refine⟨i,c,?_⟩
 rw[<-a1N c f,Yf,Yb d,<-e];rfl
def a8U {l:List Int}(t:bK l){a n:Nat}(w:0<n)(c:a+n<=l.length):((l.drop a).take n).sum % (n:Int)=0↔Win l a n:=by
 have d:bK ((l.drop a).take n):=λb h=>t b (List.mem_of_mem_drop (Xi h))
 have s:=pR d
 rw[nQ c]at s
 constructor
 ·intro h
  have:((l.drop a).take n).sum=0\/((l.drop a).take n).sum=n:=by
   by_cases z:((l.drop a).take n).sum=n
   ·exact .inr z
   ·rw[Int.emod_eq_of_lt s.1 (by lia)]at h;exact .inl h
  refine⟨c,λi j g m o p=>?_⟩
  have f:∀k,a<=k->k<a+n->l.getD k 0∈(l.drop a).take n:=λk x y=>by
   have q:k-a<((l.drop a).take n).length:=by rw[nQ c];lia
   have e:=a1N (l:=l) (a:=a) (n:=n) (i:=k-a) (by lia) c
   have u:a+(k-a)=k:=by lia
   rw[u,Yf,Yb q]at e
   rw[<-e];exact YN q
  rcases this with e | e
  ·rw[vH d e _ (f i g m),vH d e _ (f j o p)]
  ·have r:((l.drop a).take n).sum=((l.drop a).take n).length:=by rw[nQ c];exact e
   rw[vJ d r _ (f i g m),vJ d r _ (f j o p)]
 ·intro h
  have:∀b∈(l.drop a).take n,b=l.getD a 0:=λb v=>by
   obtain⟨i,A,rfl⟩:=b0W c v
   exact h.2 (a+i) a (by lia) (by lia) (by lia) (by lia)
  rw[a1Y this,nQ c]
  exact Int.mul_emod_left _ _
end Rn
namespace Cl
def xs:Nat->(Nat->Nat)->Nat
 |0,_=>0
 |n+1,f=>xs n f ^^^ f n
def xs_congr {n:Nat}{f g:Nat->Nat}(h:∀k,k<n->f k=g k):xs n f=xs n g:=by
 induction n with
 |zero=>rfl
 | succ n ih=>
  show xs n f ^^^ f n=xs n g ^^^ g n
  rw[ih (λk a=>h k (by lia)),h n (by lia)]
def xs_zero {n:Nat}{f:Nat->Nat}(h:∀k,k<n->f k=0):xs n f=0:=by
 induction n with
 |zero=>rfl
 | succ n ih=>
  show xs n f ^^^ f n=0
  rw[ih (λk a=>h k (by lia)),h n (by lia)];rfl
def xor4 (a b c d:Nat):(a ^^^ b) ^^^ (c ^^^ d)=(a ^^^ c) ^^^ (b ^^^ d):=by
 rw[XM,<-XM b c d,Nat.xor_comm b c,XM c b d,<-XM]
def xs_xor {n:Nat}{f g:Nat->Nat}:xs n (λk=>f k ^^^ g k)=xs n f ^^^ xs n g:=by
 induction n with
 |zero=>exact(X5 0).symm
 | succ n ih=>
  show xs n (λk=>f k ^^^ g k) ^^^ (f n ^^^ g n)=(xs n f ^^^ f n) ^^^ (xs n g ^^^ g n)
  rw[ih,xor4]
def xs_more {n m:Nat}{f:Nat->Nat}(hnm:n<=m)(h:∀k,n<=k->k<m->f k=0):xs m f=xs n f:=by
  induction m with
  | zero => have:n=0:=by lia
            subst this;rfl
  | succ m ih=>
    by_cases e:n=m+1
    · subst e;rfl
    · show xs m f ^^^ f m=xs n f
      rw[ih (by lia) (λk a b=>h k a (by lia)),h m (by lia) (by lia)]
      exact X5 _
def self {n:Nat}:∀{a:Nat},a<2 ^ n->a=xs n (λj=>if a.testBit j then 1 <<< j else 0):=by
  induction n with
  | zero => intro a h;have:a=0:=by simpa using h
            subst this;rfl
  | succ n ih=>
    intro a h
    show a=xs n (λj=>if a.testBit j then 1 <<< j else 0) ^^^ (if a.testBit n then 1 <<< n else 0)
    have b:a % 2 ^ n<2 ^ n:=Nat.mod_lt _ (XR n)
    have e:xs n (λj=>if a.testBit j then 1 <<< j else 0)=xs n (λj=>if (a % 2 ^ n).testBit j then 1 <<< j else 0):=by
      refine xs_congr λk f=>?_
      rw[Nat.testBit_mod_two_pow]
      simp[f]
    rw[e,<-ih b]
    apply Nat.eq_of_testBit_eq
    intro i
    rw[XO,Nat.testBit_mod_two_pow]
    by_cases hi:i<n
    · have c:(if a.testBit n=true then 1 <<< n else 0).testBit i=false:=by
        split
        · rw[XU];simp;lia
        · simp
      rw[c];simp[hi]
    · by_cases hin:i=n
      · subst hin
        cases hb:a.testBit i with
        |true=>simp[XU]
        |false=>simp
      · have d:a.testBit i=false:=Y3 (Yh h (Yv (by decide) (by lia)))
        have c:(if a.testBit n=true then 1 <<< n else 0).testBit i=false:=by
          split
          · rw[XU]
            have g:(1:Nat).testBit (i-n)=false:=Y3 (Yh (by decide:1<2 ^ 1) (Yv (by decide) (by lia)))
            rw[g,Bool.and_false]
          · simp
        rw[c,d];simp[hi]
def xs_lt {n m:Nat}{f:Nat->Nat}(h:∀k,k<n->f k<2 ^ m):xs n f<2 ^ m:=by
 induction n with
 |zero=>exact XR m
 |succ n ih=>exact Ja (ih λk a=>h k (by lia)) (h n (by lia))
end Cl
namespace Rm
open Bm
def b3B {a b n:Nat}(h:a<2 ^ (n+1))(j:b<2 ^ (n+1))(c:2 ^ n<=a)(d:2 ^ n<=b):a ^^^ b<2 ^ n:=by
 apply Nat.lt_pow_two_of_testBit
 intro i k
 rw[XO]
 by_cases e:i=n
 ·subst e
  have f:a.testBit i=true:=by
   rw[YV]
   have:a / 2 ^ i=1:=by
    apply X2
    ·simpa using c
    ·rw[Xm]at h;lia
   rw[this];rfl
  have g:b.testBit i=true:=by
   rw[YV]
   have:b / 2 ^ i=1:=by
    apply X2
    ·simpa using d
    ·rw[Xm]at j;lia
   rw[this];rfl
  rw[f,g];rfl
 ·have f:a.testBit i=false:=Y3 (Yh h (Yv (by decide) (by lia)))
  have g:b.testBit i=false:=Y3 (Yh j (Yv (by decide) (by lia)))
  rw[f,g];rfl
def nx (r:Nat):Nat:=if 32768<=2*r then (2*r) ^^^ 64647 else 2*r
def rr:Nat->Nat
 |0=>1
 |k+1=>nx (rr k)
def a6U {r:Nat}(h:r<32768):nx r<32768:=by
 unfold nx
 split
 ·exact b3B (n:=15) (by lia) (by decide) (by lia) (by decide)
 ·lia
theorem b2J:∀k,rr k<32768
 |0=>by decide
 |k+1=>a6U (b2J k)
def uE:nx 0=0:=by decide
def a8X (a b:Nat):2*(a ^^^ b)=2*a ^^^ 2*b:=by
 have h:(a ^^^ b) <<< 1=a <<< 1 ^^^ b <<< 1:=Nat.shiftLeft_xor_distrib
 have e:∀z:Nat,z <<< 1=2*z:=λz=>by rw[Xh];lia
 rw[e,e,e]at h
 exact h
def b2A {a:Nat}(h:a<32768):32768<=2*a↔a.testBit 14=true:=by
 rw[YV,decide_eq_true_iff]
 show _↔a / 16384 % 2=1
 lia
def a6V {a:Nat}(h:a<32768):nx a=2*a ^^^ (if a.testBit 14=true then 64647 else 0):=by
 unfold nx
 by_cases c:a.testBit 14=true
 ·rw[if_pos c,if_pos ((b2A h).mpr c)]
 ·rw[if_neg c,if_neg λz=>c ((b2A h).mp z),X5]
def a6T {a b:Nat}(d:a<32768)(e:b<32768):nx (a ^^^ b)=nx a ^^^ nx b:=by
 have c:a ^^^ b<32768:=Ja (n:=15) d e
 rw[a6V d,a6V e,a6V c,Cl.xor4,a8X,XO]
 cases a.testBit 14 <;> cases b.testBit 14 <;> rfl
def tm (n k:Nat):Nat:=if n.testBit k then rr k else 0
def R (n:Nat):Nat:=Cl.xs 600 (tm n)
def b2B (n k:Nat):tm n k<32768:=by unfold tm;split;exact b2J k;decide
def c0V (n:Nat):R n<32768:=Cl.xs_lt (m:=15) λk _=>b2B n k
def b8V (a b:Nat):R (a ^^^ b)=R a ^^^ R b:=by
 unfold R
 rw[<-Cl.xs_xor]
 refine Cl.xs_congr λk _=>?_
 unfold tm
 rw[XO]
 cases a.testBit k <;> cases b.testBit k <;> simp
def b6E:R 0=0:=Cl.xs_zero λk _=>by unfold tm;rw[Nat.zero_testBit];rfl
def a5W:∀k,k<15->rr k=1 <<< k:=by decide
def pM {r:Nat}(h:r<32768):R r=r:=by
 unfold R
 have e:Cl.xs 600 (tm r)=Cl.xs 15 (tm r):=Cl.xs_more (by decide) λk a _=>by
  unfold tm
  rw[Y3 (Yh h (Yv (n:=2) (i:=15) (by decide) a))];rfl
 rw[e]
 have s:=Cl.self (n:=15) h
 conv=>rhs;rw[s]
 refine Cl.xs_congr λk b=>?_
 unfold tm
 rw[a5W k b]
def b7O {n:Nat}{f:Nat->Nat}(h:∀k,f k<32768):nx (Cl.xs n f)=Cl.xs n λk=>nx (f k):=by
 induction n with
 |zero=>exact uE
 | succ n ih=>
  show nx (Cl.xs n f ^^^ f n)=_ ^^^ _
  rw[a6T (Cl.xs_lt (m:=15) λk _=>h k) (h n),ih]
def a3Y {n:Nat}{f:Nat->Nat}:Cl.xs (n+1) f=f 0 ^^^ Cl.xs n λk=>f (k+1):=by
 induction n with
 |zero=>show 0 ^^^ f 0=f 0 ^^^ 0;rw[Nat.zero_xor,X5]
 | succ n ih=>
  show Cl.xs (n+1) f ^^^ f (n+1)=f 0 ^^^ (Cl.xs n (λk=>f (k+1)) ^^^ f (n+1))
  rw[ih,XM]
def tb2 (n b k:Nat)(a:b<2):(2*n+b).testBit (k+1)=n.testBit k:=by
 rw[Xw]
 congr 1;lia
def b9F (n b:Nat)(a:b<2):(2*n+b).testBit 0=decide (b=1):=by
 rw[Nat.testBit_zero]
 congr 1
 have:(2*n+b) % 2=b:=by lia
 rw[this]
def zP {n b:Nat}(c:n<2 ^ 599)(a:b<2):R (2*n+b)=nx (R n) ^^^ b:=by
 unfold R
 have e:Cl.xs 600 (tm n)=Cl.xs 599 (tm n):=Cl.xs_more (by decide) λk d _=>by
  unfold tm
  rw[Y3 (Yh c (Yv (by decide) d))];rfl
 rw[e,b7O (b2B n),a3Y,Nat.xor_comm]
 congr 1
 ·refine Cl.xs_congr λk _=>?_
  unfold tm
  rw[tb2 n b k a]
  cases n.testBit k
  ·exact uE.symm
  ·rfl
 ·unfold tm
  rw[b9F n b a]
  have:b=0\/b=1:=by lia
  rcases this with rfl | rfl <;> rfl
def b8W {n:Nat}(a:n<2 ^ 599):R (2*n)=nx (R n):=by
 have:=zP a (b:=0) (by decide)
 rwa [Nat.add_zero,X5]at this
def b8X:∀p,p<=500->R (64647 <<< p)=0:=by
 intro p
 induction p with
 | zero=>
  intro _
  have e:(64647:Nat) <<< 0=2*32323+1:=by decide
  rw[e,zP (Yh (m:=2 ^ 15) (by decide) (Yv (by decide) (by decide))) (by decide),pM (by decide)]
  decide
 | succ p ih=>
  intro a
  have e:(64647:Nat) <<< (p+1)=2*64647 <<< p:=by rw[Xh,Xh,Xm];lia
  rw[e,b8W,ih (by lia)]
  ·exact uE
  ·rw[Xh]
   have:(64647:Nat)*2 ^ p<2 ^ 16*2 ^ p:=Nat.mul_lt_mul_of_pos_right (by decide) (XR p)
   rw[<-Nat.pow_add]at this
   exact Yh this (Yv (by decide) (by lia))
def a8N {r p:Nat}(a:p<=500):R (r ^^^ 64647 <<< p)=R r:=by
 rw[b8V,b8X p a,X5]
def nm (bs:List Int):Nat:=(jW bs).toNat
def pH {bs:List Int}(h:bK bs):((nm bs:Nat):Int)=jW bs:=Int.toNat_of_nonneg (uF h).1
def mF {bs:List Int}(h:bK bs):nm bs<2 ^ bs.length:=by
 have a:=(uF h).2
 have b:=pH h
 have:((nm bs:Nat):Int)<((2 ^ bs.length:Nat):Int):=by rw[b];simpa using a
 exact_mod_cast this
def mX {bs:List Int}{b:Int}(h:bK bs)(a:b=0\/b=1):nm (bs++[b])=2*nm bs+b.toNat:=by
 have f:=pH h
 have c:bK (bs++[b]):=λz d=>by
  rcases YL.mp d with q | q
  ·exact h z q
  ·rw[Yk.mp q];exact a
 have e:=pH c
 rw[oJ]at e
 rcases a with rfl | rfl <;> (simp only[Int.toNat_zero,Int.toNat_one];lia)
def rst (bs:List Int):Nat:=R (nm bs)
def yK (bs:List Int):rst bs<32768:=c0V _
def a9U:rst []=0:=b6E
def a5V {bs:List Int}{b:Int}(h:bK bs)(c:bs.length<=500)(a:b=0\/b=1):rst (bs++[b])=nx (rst bs) ^^^ b.toNat:=by
 unfold rst
 rw[mX h a]
 refine zP (Yh (mF h) (Yv (by decide) (by lia))) ?_
 rcases a with rfl | rfl <;> decide
def stp (r:Nat)(b:Int):Nat:=nx r ^^^ b.toNat
def nxn:Nat->Nat->Nat
 |0,d=>d
 |n+1,d=>nxn n (nx d)
def b6A {b:Int}(h:b=0\/b=1):b.toNat<32768:=by rcases h with rfl | rfl <;> decide
def b3N {r:Nat}{b:Int}(a:r<32768)(c:b=0\/b=1):stp r b<32768:=Ja (n:=15) (a6U a) (b6A c)
def qC {bs:List Int}(h:bK bs)(hl:bs.length<=500):rst bs=bs.foldl stp 0:=by
 have a:∀k,k<=bs.length->rst (bs.take k)=(bs.take k).foldl stp 0:=by
  intro k
  induction k with
  |zero=>intro _;exact a9U
  | succ k ih=>
   intro e
   have c:bK (bs.take k):=λb d=>h b (Xi d)
   rw[Yg (by lia),Xl,<-ih (by lia),a5V c (by rw[Yq];lia) (h _ (YN _))]
   rfl
 have:=a bs.length (Yc _)
 rwa [Yi (Yc _)]at this
theorem wV:∀(suf:List Int),bK suf->∀r d,r<32768->d<32768->suf.foldl stp (r ^^^ d)=suf.foldl stp r ^^^ nxn suf.length d
 |[],_,_,_,_,_=>rfl
 | b ::s,h,r,d,hr,hd=>by
  have hb:=h b Yy
  rw[XN,XN]
  have e:stp (r ^^^ d) b=stp r b ^^^ nx d:=by
   unfold stp
   rw[a6T hr hd,XM,Nat.xor_comm (nx d),<-XM]
  rw[e,wV s (λz hz=>h z (Yw _ hz)) _ _ (b3N hr hb) (a6U hd)]
  rfl
end Rm
namespace Wm
open Bm Rn
abbrev S:=Option Int×Nat
def skp (s:S)(b:Int):S:=(some b,if s.1=some b then s.2+1 else 1)
def sk (w:List Int):S:=w.foldl skp (none,0)
def run (w:List Int):Nat:=(sk w).2
def lN (w:List Int)(b:Int):sk (w++[b])=skp (sk w) b:=by unfold sk;rw[Xl];rfl
def run_snoc (w:List Int)(b:Int):run (w++[b])=if (sk w).1=some b then run w+1 else 1:=by unfold run;rw[lN];rfl
def last_snoc (w:List Int)(b:Int):(sk (w++[b])).1=some b:=by rw[lN];rfl
def snoc_ind {P:List Int->Prop}(h0:P [])(hs:∀w b,P w->P (w++[b]))(w:List Int):P w:=by
 have :∀n,∀w:List Int,w.length=n->P w:=by
  intro n
  induction n with
  |zero=>intro w a;rw[List.eq_nil_of_length_eq_zero a];exact h0
  | succ n ih=>
   intro w a
   have c:w≠ []:=λz=>by rw[z]at a;cases a
   rw[<-List.dropLast_concat_getLast c]
   exact hs _ _ (ih _ (by rw[List.length_dropLast,a];rfl))
 exact this _ w rfl
def a5U (w:List Int):run w<=w.length:=by
 refine snoc_ind (P:=λw=>run w<=w.length) (Yc _) (λw b ih=>?_) w
 rw[run_snoc,Yd,Yt]
 split <;> lia
def last_eq (w:List Int)(h:0<w.length):(sk w).1=some (w.getD (w.length-1) 0):=by
 have a:w≠ []:=λz=>by rw[z]at h;cases h
 conv=>lhs;rw[<-List.dropLast_concat_getLast a]
 rw[last_snoc,Yf,Yb (by lia),List.getLast_eq_getElem];rfl
def a9T (w:List Int):∀n,1<=n->n<=w.length->(n<=run w↔Win w (w.length-n) n):=by
 refine snoc_ind (P:=λw=>∀n,1<=n->n<=w.length->(n<=run w↔Win w (w.length-n) n)) (λn s k=>absurd k (by simp;lia)) (λw b ih n s k=>?_) w
 rw[Yd,Yt]at k ⊢
 have e:∀i,i<w.length->(w++[b]).getD i 0=w.getD i 0:=λi l=>by
  rw[Yf,Yf,YS l]
 have p:(w++[b]).getD w.length 0=b:=by
  rw[Yf,YF (Yc _),Nat.sub_self];rfl
 rw[run_snoc]
 by_cases hn:n=1
 ·subst hn
  refine iff_of_true (by split <;> lia) ⟨by rw[Yd,Yt];lia,λi j f g m o=>?_⟩
  have:i=j:=by lia
  rw[this]
 have t:0<w.length:=by lia
 have a:=ih (n-1) (by lia) (by lia)
 have q:=last_eq w t
 constructor
 ·intro h
  by_cases c:(sk w).1=some b
  ·rw [if_pos c]at h
   have u:w.getD (w.length-1) 0=b:=by rw[q]at c;exact Yp c
   have W:=a.mp (by lia)
   refine⟨by rw[Yd,Yt];lia,?_⟩
   have d:∀i,w.length+1-n<=i->i<w.length+1-n+n->(w++[b]).getD i 0=b:=λi f g=>by
    by_cases l:i<w.length
    ·rw[e i l,<-u]
     exact W.2 i (w.length-1) (by lia) (by lia) (by lia) (by lia)
    ·have:i=w.length:=by lia
     rw[this,p]
   intro i j f g m o
   rw[d i f g,d j m o]
  ·rw[if_neg c]at h;lia
 ·intro W
  have r:=W.2 (w.length-1) w.length (by lia) (by lia) (by lia) (by lia)
  rw[e _ (by lia),p]at r
  have c:(sk w).1=some b:=by rw[q,r]
  rw[if_pos c]
  have:=a.mpr ⟨by lia,λi j f g m o=>by
   have:=W.2 i j (by lia) (by lia) (by lia) (by lia)
   rwa [e i (by lia),e j (by lia)]at this⟩
  lia
def a4C {w:List Int}{k a n:Nat}(h:a+n<=k)(l:k<=w.length):Win (w.take k) a n↔Win w a n:=by
 have e:∀i,i<k->(w.take k).getD i 0=w.getD i 0:=λi g=>by
  rw[Yf,Yf,Y9 g]
 constructor
 ·intro W
  exact⟨by lia,λi j b c d f=>by rw[<-e i (by lia),<-e j (by lia)];exact W.2 i j b c d f⟩
 ·intro W
  exact⟨by rw[Yq];lia,λi j b c d f=>by rw[e i (by lia),e j (by lia)];exact W.2 i j b c d f⟩
def a9A {w:List Int}(b:bK w){n k:Nat}(a:0<n)(e:n<=k)(c:k<=w.length):((w.drop (k-n)).take n).sum % (n:Int)=0↔n<=run (w.take k):=by
 have d:(w.take k).length=k:=by rw[Yq];lia
 rw[a8U b a (by lia),a9T (w.take k) n a (by lia),d]
 exact(a4C (by lia) c).symm
def pst (w:List Int)(b:Int):List Int:=if run (w++[b])=5 then w++[b]++[1-b] else w++[b]
def put (l:List Int):List Int:=l.foldl pst []
def fW (l:List Int)(b:Int):put (l++[b])=pst (put l) b:=by unfold put;rw[Xl];rfl
def uG (b:Int):¬ (some b:Option Int)=some (1-b):=λz=>by have:=Yp z;lia
def b0B {w:List Int}{b:Int}(h:run w<=4):run (pst w b)<=4:=by
 unfold pst
 by_cases c:run (w++[b])=5
 ·rw[if_pos c,run_snoc,last_snoc,if_neg (uG b)];lia
 ·rw[if_neg c]
  rw[run_snoc]at c ⊢
  split at c <;> rename_i z
  ·rw[if_pos z];lia
  ·rw[if_neg z];lia
def mQ (l:List Int):run (put l)<=4:=snoc_ind (P:=λl=>run (put l)<=4) (by decide) (λw b ih=>by rw[fW];exact b0B ih) l
def vX {l:List Int}(h:bK l):bK (put l):=by
 have : ∀ k,k<=l.length->bK (put (l.take k)):=by
  intro k
  induction k with
  |zero=>intro _ z a;rw[X8]at a;cases a
  | succ k ih=>
   intro d
   have b:=h _ (YN (show k<l.length by lia))
   have c:=ih (by lia)
   rw[Yg (by lia),fW]
   intro z a
   unfold pst at a
   split at a
   ·rcases YL.mp a with q | q
    ·rcases YL.mp q with q | q
     ·exact c z q
     ·rw[Yk.mp q];exact b
    ·rw[Yk.mp q];lia
   ·rcases YL.mp a with q | q
    ·exact c z q
    ·rw[Yk.mp q];exact b
 have:=this l.length (Yc _)
 rwa [Yi (Yc _)]at this
def b0C (w:List Int)(b:Int):w.length+1<=(pst w b).length/\(pst w b).length<=w.length+2:=by
 unfold pst
 split <;> simp
def mR (l:List Int):l.length<=(put l).length/\(put l).length<=2*l.length:=by
 refine snoc_ind (P:=λl=>l.length<=(put l).length/\(put l).length<=2*l.length) ⟨Yc _,Yc _⟩ (λw b ih=>?_) l
 have:=b0C (put w) b
 rw[fW,Yd,Yt]
 lia
def kst (s:S×List Int)(b:Int):S×List Int:=(skp s.1 b,if s.1.2=5 then s.2 else s.2++[b])
def kp (w:List Int):List Int:=(w.foldl kst ((none,0), [])).2
def b0Y (w:List Int):(w.foldl kst ((none,0), [])).1=sk w:=by
 refine snoc_ind (P:=λw=>(w.foldl kst ((none,0), [])).1=sk w) rfl (λw b ih=>?_) w
 rw[Xl,lN,<-ih];rfl
def fP (w:List Int)(b:Int):kp (w++[b])=if run w=5 then kp w else kp w++[b]:=by
 unfold kp run
 rw[Xl,<-b0Y];rfl
def b5B:kp []= []:=rfl
def Good (w:List Int):Prop:=∀k,k<=w.length->run (w.take k)<=5
def Good.snoc {w:List Int}{b:Int}(h:Good w)(a:run (w++[b])<=5):Good (w++[b]):=λk d=>by
 rw[Yd,Yt]at d
 by_cases c:k<=w.length
 ·rw[YU c];exact h k c
 ·rw[Yi (by rw[Yd,Yt];lia)];exact a
def pZ {w:List Int}{b:Int}:run (w++[b])<=run w+1:=by rw[run_snoc];split <;> lia
def a6B (l:List Int):Good (put l):=by
 refine snoc_ind (P:=λl=>Good (put l)) (λk d=>?_) (λw b ih=>?_) l
 ·have:k=0:=Nat.le_zero.mp d
  subst this;decide
 ·rw [fW]
  have e:=mQ w
  have a:run (put w++[b])<=5:=YY pZ (by lia)
  unfold pst
  split
  ·rename_i c
   refine(ih.snoc a).snoc ?_
   rw[run_snoc,last_snoc,if_neg (uG b)];lia
  ·exact ih.snoc a
def a7K (l:List Int):kp (put l)=l:=by
 refine snoc_ind (P:=λl=>kp (put l)=l) rfl (λw b ih=>?_) l
 rw[fW]
 have d:=mQ w
 have a:kp (put w++[b])=w++[b]:=by rw[fP,if_neg (by lia),ih]
 unfold pst
 split
 ·rename_i c
  rw[fP,if_pos c,a]
 ·exact a
def yM {w:List Int}(hb:bK w)(hg:Good w):put (kp w)=if run w=5 then w++[1-w.getD (w.length-1) 0] else w:=by
 have : ∀ k,k<=w.length->put (kp (w.take k))=if run (w.take k)=5 then w.take k++[1-w.getD (k-1) 0] else w.take k:=by
  intro k
  induction k with
  |zero=>intro _;rfl
  | succ k ih=>
   intro f
   have a:k<w.length:=by lia
   have g:=hb _ (YN a)
   have i:w.getD (k+1-1) 0=w[k]:=by rw[Nat.add_sub_cancel,Yf,Yb a];rfl
   have b:=ih (by lia)
   have e:=hg (k+1) f
   rw[Yg a]at e ⊢
   rw[fP,i]
   by_cases c:run (w.take k)=5
   ·rw [if_pos c,b,if_pos c]
    have j:0<k:=by
     have:=a5U (w.take k)
     rw[Yq]at this
     lia
    have l:(w.take k).length=k:=by rw[Yq];lia
    have l1:=last_eq (w.take k) (by lia)
    have m:(w.take k).getD (k-1) 0=w.getD (k-1) 0:=by
     rw[Yf,Yf,Y9 (by lia)]
    rw[l,m]at l1
    have d:¬ (sk (w.take k)).1=some w[k]:=λz=>by
     rw[run_snoc,if_pos z,c]at e;lia
    have n:w.getD (k-1) 0=0\/w.getD (k-1) 0=1:=by
     rw[Yf,Yb (show k-1<w.length by lia)]
     exact hb _ (YN _)
    have o:1-w.getD (k-1) 0=w[k]:=by
     have:¬ w.getD (k-1) 0=w[k]:=λz=>d (by rw[l1,z])
     lia
    rw[o,if_neg]
    rw[run_snoc,if_neg d];decide
   ·rw[if_neg c,fW,b,if_neg c]
    unfold pst
    split <;> rfl
 have h:=this w.length (Yc _)
 rwa [Yi (Yc _)]at h
def uH {w:List Int}(hb:bK w):bK (kp w):=by
 have : ∀k,k<=w.length->bK (kp (w.take k)):=by
  intro k
  induction k with
  |zero=>intro _ z a;rw[X8,b5B]at a;cases a
  | succ k ih=>
   intro c z a
   have b:=ih (by lia)
   rw[Yg (show k<w.length by lia),fP]at a
   split at a
   ·exact b z a
   ·rcases YL.mp a with q | q
    ·exact b z q
    ·rw[Yk.mp q];exact hb _ (YN _)
 have h:=this w.length (Yc _)
 rwa [Yi (Yc _)]at h
def yR (w:List Int):(kp w).length<=w.length:=by
 refine snoc_ind (P:=λw=>(kp w).length<=w.length) (Yc _) (λw b ih=>?_) w
 rw[fP,Yd,Yt]
 split
 ·lia
 ·rw[Yd,Yt];lia
end Wm
namespace Rm
open Bm
def a7A {a:List Int}(h:bK a)(b:a.length<=15):nm a<32768:=Yh (mF h) (Yv (n:=2) (j:=15) (by decide) b)
def a2L {a:List Int}(h:bK a)(b:a.length<=15):rst a=nm a:=pM (a7A h b)
def gC {as bs:List Int}(a:bK as)(b:bK bs):bK (as++bs):=λz c=>(YL.mp c).elim (a z) (b z)
def a0J {bs a:List Int}(h:bK bs)(b:bK a)(d:bs.length+a.length<=500)(c:a.length<=15):rst (bs++a)=nm a ^^^ nxn a.length (rst bs):=by
 rw[qC (gC h b) (by rw[Yd];exact d),Xl,<-qC h (by lia)]
 have:=wV a b 0 (rst bs) (by decide) (yK bs)
 rw[Nat.zero_xor,<-qC b (by lia),a2L b c]at this
 exact this
def zs (n:Nat):List Int:=List.replicate n 0
def tO (n:Nat):bK (zs n):=λb a=> .inl (Xa a)
def b2M:∀n,nm (zs n)=0:=by
 intro n
 have:∀n,jW (zs n)=0:=λn=>by
  induction n with
  |zero=>rfl
  |succ n ih=>unfold zs;rw[Y1,sE];show 0*_+jW (zs n)=0;rw[ih];simp
 unfold nm;rw[this];rfl
def ckn (bs:List Int):Nat:=rst (bs++zs 15)
def a8J (bs:List Int):ckn bs<32768:=yK _
def ck (bs:List Int):List Int:=bJ (ckn bs) 15
def fY {n m:Nat}(h:n<2 ^ m):nm (bJ n m)=n:=by unfold nm;rw[a6X h];rfl
def yL {bs a:List Int}(h:bK bs)(c:bK a)(d:bs.length<=400)(b:a.length=15):rst (bs++a)=nm a ^^^ ckn bs:=by
 rw[a0J h c (by lia) (by lia)]
 unfold ckn
 rw[a0J h (tO 15) (by unfold zs;rw[YD];lia) (by unfold zs;rw[YD];exact Yc _),b2M,Nat.zero_xor,b]
 unfold zs
 rw[YD]
def b3Y {bs:List Int}(h:bK bs)(a:bs.length<=400):rst (bs++ck bs)=0:=by
 unfold ck
 rw[yL h (gO _ _) a (bV _ _),fY (m:=15) (a8J bs),Nat.xor_self]
end Rm
namespace Wm
open L2 Bm Rn
def a6A (l:List Int):(put l).head? =l.head?:=snoc_ind (P:=λl=>(put l).head? =l.head?) rfl (λw b ih=>by
 rw[fW]
 unfold pst
 split
 ·rw[Y7,Y7,Y7,ih]
  cases w.head? <;> rfl
 ·rw[Y7,Y7,ih]) l
def b1A (w:List Int):(kp w).head? =w.head?:=snoc_ind (P:=λw=>(kp w).head? =w.head?) rfl (λw b ih=>by
 rw[fP]
 split
 ·rename_i h
  rw[ih,Y7]
  cases w with
  |nil=>exact absurd h (by decide)
  |cons x r=>rfl
 ·rw[Y7,Y7,ih]) w
def a3G {l:List Int}{x:Int}(h:l.head? =some x):l.getD 0 0=x:=by
 cases l with
 |nil=>cases h
 |cons y r=>exact Yp h
end Wm
namespace Wm
open Bm Rn Rm
end Wm
namespace Wm
open Bm
def a0L (w:List Int)(b:Int):∃s,pst w b=w++b::s:=by
 unfold pst
 split
 ·exact⟨[1-b],by rw[YC];rfl⟩
 ·exact⟨[],rfl⟩
theorem wW:∀(r w:List Int),∃s,r.foldl pst w=w++s
 |[],w=>⟨[],by rw[YH];rfl⟩
 | b::r,w=>by
  obtain⟨s,hs⟩:=a0L w b
  obtain⟨t,ht⟩:=wW r (pst w b)
  refine⟨b::s++t,?_⟩
  show r.foldl pst (pst w b)=_
  rw[ht,hs,YC]
def put_pre (l:List Int)(b:Int)(r:List Int):∃s,put (l++b::r)=put l++b::s:=by
 obtain⟨s,a⟩:=a0L (put l) b
 obtain⟨t,c⟩:=wW r (pst (put l) b)
 refine⟨s++t,?_⟩
 unfold put at a c ⊢
 rw[Xl]
 show r.foldl pst (pst (l.foldl pst []) b)=_
 rw[c,a,YC]
 rfl
def bitsI_split {a b s:Nat}(f:s<8)(h:∀j,s<j->a.testBit j=b.testBit j)(g:a.testBit s=true)(k:b.testBit s=false):∃c t1 t2:List Int,bJ a 8=c++1::t1/\bJ b 8=c++0::t2/\c.length=7-s:=by
 have e:∀n:Nat,bJ n 8=((List.range (7-s)).map λi=>fL n (7-i))++fL n s::((List.range s).map λi=>fL n (s-1-i)):=by
  intro n
  unfold bJ
  have l:List.range 8=List.range (7-s)++(7-s)::((List.range s).map λi=>8-s+i):=by
   have:∀s,s<8->List.range 8=List.range (7-s)++(7-s)::((List.range s).map λi=>8-s+i):=by decide
   exact this s f
  rw[l,Yr,YE,List.map_map]
  refine congr (YO _ rfl) (congr (YO _ ?_) (List.map_congr_left λi d=>?_))
  ·show fL n (8-1-(7-s))=fL n s
   rw[show 8-1-(7-s)=s by lia]
  ·show fL n (8-1-(8-s+i))=fL n (s-1-i)
   have:=List.mem_range.mp d
   rw[show 8-1-(8-s+i)=s-1-i by lia]
 have m:fL a s=1:=by unfold fL;rw[g];rfl
 have o:fL b s=0:=by unfold fL;rw[k];rfl
 refine⟨(List.range (7-s)).map λi=>fL a (7-i),(List.range s).map λi=>fL a (s-1-i),(List.range s).map λi=>fL b (s-1-i),(e a).trans (by rw[m]),(e b).trans ?_,by rw[Ya,Y2]⟩
 rw[o]
 refine YO (·++_) (List.map_congr_left λi d=>?_)
 have p:=List.mem_range.mp d
 unfold fL
 rw[h (7-i) (by lia)]
end Wm
namespace Wm
open Bm Rn Rm
def qI {a:List Int}(e:bK a):∀{b:List Int},bK b->nm (a++b)=2 ^ b.length*nm a+nm b:=by
 intro b
 refine snoc_ind (P:=λb=>bK b->nm (a++b)=2 ^ b.length*nm a+nm b) (λ_=>by rw[YH];show nm a=1*nm a+0;lia) (λl x ih h=>?_) b
 have c:bK l:=λz f=>h z (Xr _ f)
 have d:x=0\/x=1:=h x (by simp)
 rw[<-YC,mX (gC e c) d,mX c d,ih c,Yd,Yt,Xm,Nat.mul_add,XT (2 ^ l.length) 2,Nat.mul_assoc]
 lia
def b4S:∀{a b:List Int},bK a->bK b->a.length=b.length->nm a=nm b->a=b:=by
 intro a
 refine snoc_ind (P:=λa=>∀{b:List Int},bK a->bK b->a.length=b.length->nm a=nm b->a=b) (λ{b} _ _ c _=>(List.eq_nil_of_length_eq_zero c.symm).symm) (λl x ih {b} g h c e=>?_) a
 have d:b≠ []:=λz=>by rw[z,Yd]at c;simp at c
 obtain⟨m,y,rfl⟩:∃m y,b=m++[y]:=⟨b.dropLast,b.getLast d,(List.dropLast_concat_getLast d).symm⟩
 have i:bK l:=λz f=>g z (Xr _ f)
 have j:bK m:=λz f=>h z (Xr _ f)
 have k:x=0\/x=1:=g x (by simp)
 have n:y=0\/y=1:=h y (by simp)
 rw[mX i k,mX j n]at e
 rw[Yd,Yd]at c
 have o:x=y/\nm l=nm m:=by rcases k with rfl | rfl <;> rcases n with rfl | rfl <;> simp at e <;> lia
 rw[o.1,ih i j (by simpa using c) o.2]
def a8M {c:List Int}(h:bK c):bJ (nm c) c.length=c:=b4S (gO _ _) h (bV _ _) (fY (mF h))
end Wm
namespace My
open PySem L2
variable {H:Hp}{p:Addr}{H':Hp}{a:Addr}{v:Nat}{n:Nat}{x:Addr}{C:Addr}{dx:Addr}{fs:List (Nat×Nat×List Int)}{m:Nat}{i:Nat}{bs:List Int}{xs:List (List Int)}{w:List Int}{CK:Addr}{r:Addr}{st:Stmt}{ks:Addr}{t:Addr}{ds:List Int}{l:Nat}{j:Nat}{b:Int}{C1:Addr}{C2:Addr}{K:W.Frag}{vs:List V}{H1:Hp}{h:List Int}{nwf:Addr}{ch:Addr}{wl:Addr}{ul:Addr}{ct:Value}{ws:List V}{us:List V}{nw:Addr}{H0:Hp}{nw':Addr}{k:Nat}{y:Nat}{c:Nat}{dp:Addr}{ps:List Addr}{L:List (Addr×HO)}{v':HO}{as:List Addr}{hs:List Int}{L1:List (Addr×HO)}{mg:Str->Option Value}{cd:Value}{P:Addr}{n1:Nat}{ds1:List Int}{wp:Option Nat}{z:Nat}{q:Nat}{sp:Bool}{T:Nat->Int}{on:Bool}{mp:Bool}{tp:Int}{u:Nat}{oc:Value}{kV:Value}{dc:Value}{pm:Value}{od:Option Addr}{an:Option Addr}{sl:Array (Option Value)}{d:FuncData}
def top (i:Nat):Stmt:=PySem.Challenge.pw_bitrail_k94_whole_a_wrong_post.main.body.getD i (.Pass ⟨0,0,0,0⟩)
def aN (s:Stmt):List Stmt:=match s with | .ClassDef _ _ _ b _ _ _ _ _ _ _=>b | _=>[]
abbrev Zhf:Stmt:=(aN (top 27)).getD 0 (.Pass ⟨0,0,0,0⟩)
abbrev Zfc:Stmt:=(aN (top 27)).getD 1 (.Pass ⟨0,0,0,0⟩)
abbrev Zfz:Stmt:=(aN (top 27)).getD 2 (.Pass ⟨0,0,0,0⟩)
abbrev ZeJ:Stmt:=(aN (top 27)).getD 3 (.Pass ⟨0,0,0,0⟩)
abbrev Zko:Stmt:=top 10
abbrev ZiL:Stmt:=top 11
abbrev ZiJ:Stmt:=top 12
abbrev Zkp:Stmt:=top 14
abbrev Zkr:Stmt:=top 18
abbrev ZjF:Stmt:=top 19
abbrev Zkq:Stmt:=top 23
abbrev ZlV:Stmt:=top 28
abbrev Zhh:Stmt:=top 35
abbrev ZhW:Stmt:=top 36
abbrev Zks:Stmt:=top 40
abbrev ZiM:Stmt:=top 38
abbrev Zhj:Stmt:=top 37
abbrev ZhX:Stmt:=top 39
abbrev Zg9:Stmt:=(aN (top 48)).getD 0 (.Pass ⟨0,0,0,0⟩)
abbrev ZfN:Stmt:=(aN (top 48)).getD 2 (.Pass ⟨0,0,0,0⟩)
abbrev Zg8:Stmt:=(aN (top 48)).getD 1 (.Pass ⟨0,0,0,0⟩)
abbrev Zgl:Stmt:=(aN (top 48)).getD 3 (.Pass ⟨0,0,0,0⟩)
abbrev Zgk:Stmt:=(aN (top 48)).getD 4 (.Pass ⟨0,0,0,0⟩)
abbrev ZiE:Stmt:=(aN (top 52)).getD 0 (.Pass ⟨0,0,0,0⟩)
abbrev ZiF:Stmt:=(aN (top 52)).getD 1 (.Pass ⟨0,0,0,0⟩)
abbrev ZhV:Stmt:=(aN (top 52)).getD 5 (.Pass ⟨0,0,0,0⟩)
abbrev ZfP:Stmt:=(aN (top 52)).getD 3 (.Pass ⟨0,0,0,0⟩)
abbrev Ze6:Stmt:=(aN (top 52)).getD 4 (.Pass ⟨0,0,0,0⟩)
abbrev ZiD:Stmt:=(aN (top 52)).getD 2 (.Pass ⟨0,0,0,0⟩)
abbrev ZfM:Stmt:=(aN (top 53)).getD 0 (.Pass ⟨0,0,0,0⟩)
abbrev Zfy:Stmt:=(aN (top 54)).getD 0 (.Pass ⟨0,0,0,0⟩)
abbrev ZhK:Stmt:=(aN (top 46)).getD 0 (.Pass ⟨0,0,0,0⟩)
abbrev Zfu:Stmt:=(aN (top 46)).getD 6 (.Pass ⟨0,0,0,0⟩)
abbrev Zgf:Stmt:=(aN (top 46)).getD 7 (.Pass ⟨0,0,0,0⟩)
abbrev Zgg:Stmt:=(aN (top 46)).getD 5 (.Pass ⟨0,0,0,0⟩)
abbrev ZhL:Stmt:=(aN (top 46)).getD 4 (.Pass ⟨0,0,0,0⟩)
abbrev ZgZ:Stmt:=(aN (top 46)).getD 1 (.Pass ⟨0,0,0,0⟩)
abbrev ZgY:Stmt:=(aN (top 46)).getD 2 (.Pass ⟨0,0,0,0⟩)
abbrev ZhJ:Stmt:=(aN (top 46)).getD 3 (.Pass ⟨0,0,0,0⟩)
abbrev Zgq:Stmt:=top 60
abbrev Zit:Stmt:=(aN (top 65)).getD 0 (.Pass ⟨0,0,0,0⟩)
abbrev Zhc:Stmt:=(aN (top 66)).getD 0 (.Pass ⟨0,0,0,0⟩)
abbrev ZhP:Stmt:=(aN (top 67)).getD 0 (.Pass ⟨0,0,0,0⟩)
abbrev Zg0:Stmt:=(aN (top 68)).getD 0 (.Pass ⟨0,0,0,0⟩)
abbrev ZfI:Stmt:=(aN (top 69)).getD 0 (.Pass ⟨0,0,0,0⟩)
abbrev Zgm:Stmt:=(aN (top 70)).getD 0 (.Pass ⟨0,0,0,0⟩)
abbrev ZhS:Stmt:=(aN (top 71)).getD 0 (.Pass ⟨0,0,0,0⟩)
abbrev ZfL:Stmt:=(aN (top 78)).getD 8 (.Pass ⟨0,0,0,0⟩)
abbrev Zg3:Stmt:=(aN (top 78)).getD 9 (.Pass ⟨0,0,0,0⟩)
abbrev Zfw:Stmt:=(aN (top 78)).getD 10 (.Pass ⟨0,0,0,0⟩)
abbrev ZeI:Stmt:=(aN (top 78)).getD 11 (.Pass ⟨0,0,0,0⟩)
abbrev ZeH:Stmt:=(aN (top 78)).getD 12 (.Pass ⟨0,0,0,0⟩)
abbrev ZiK:Stmt:=top 24
abbrev Zgi:Stmt:=(aN (top 78)).getD 13 (.Pass ⟨0,0,0,0⟩)
abbrev Zix:Stmt:=(aN (top 78)).getD 1 (.Pass ⟨0,0,0,0⟩)
abbrev ZlU:Stmt:=top 77
abbrev ZhN:Stmt:=(aN (top 78)).getD 5 (.Pass ⟨0,0,0,0⟩)
abbrev ZjA:Stmt:=(aN (top 78)).getD 6 (.Pass ⟨0,0,0,0⟩)
abbrev ZhZ:Stmt:=top 61
abbrev ZjG:Stmt:=top 62
abbrev ZhY:Stmt:=top 63
abbrev ZjE:Stmt:=top 64
abbrev Zhi:Stmt:=top 75
abbrev Zgr:Stmt:=top 76
abbrev Ziz:Stmt:=(aN (top 78)).getD 0 (.Pass ⟨0,0,0,0⟩)
abbrev ZhM:Stmt:=(aN (top 65)).getD 1 (.Pass ⟨0,0,0,0⟩)
abbrev Zgp:Stmt:=(aN (top 66)).getD 1 (.Pass ⟨0,0,0,0⟩)
abbrev Zha:Stmt:=(aN (top 67)).getD 1 (.Pass ⟨0,0,0,0⟩)
abbrev Zgh:Stmt:=(aN (top 68)).getD 1 (.Pass ⟨0,0,0,0⟩)
abbrev Zfv:Stmt:=(aN (top 69)).getD 1 (.Pass ⟨0,0,0,0⟩)
abbrev ZfO:Stmt:=(aN (top 70)).getD 1 (.Pass ⟨0,0,0,0⟩)
abbrev Zhb:Stmt:=(aN (top 71)).getD 1 (.Pass ⟨0,0,0,0⟩)
abbrev Ziw:Stmt:=(aN (top 72)).getD 0 (.Pass ⟨0,0,0,0⟩)
abbrev Ziu:Stmt:=(aN (top 65)).getD 2 (.Pass ⟨0,0,0,0⟩)
abbrev Zhd:Stmt:=(aN (top 66)).getD 2 (.Pass ⟨0,0,0,0⟩)
abbrev ZhQ:Stmt:=(aN (top 67)).getD 2 (.Pass ⟨0,0,0,0⟩)
abbrev Zg1:Stmt:=(aN (top 68)).getD 2 (.Pass ⟨0,0,0,0⟩)
abbrev ZfJ:Stmt:=(aN (top 69)).getD 2 (.Pass ⟨0,0,0,0⟩)
abbrev Zgn:Stmt:=(aN (top 70)).getD 2 (.Pass ⟨0,0,0,0⟩)
abbrev ZhT:Stmt:=(aN (top 71)).getD 2 (.Pass ⟨0,0,0,0⟩)
abbrev Zjy:Stmt:=(aN (top 72)).getD 1 (.Pass ⟨0,0,0,0⟩)
abbrev Zjz:Stmt:=(aN (top 72)).getD 2 (.Pass ⟨0,0,0,0⟩)
abbrev ZfK:Stmt:=(aN (top 69)).getD 3 (.Pass ⟨0,0,0,0⟩)
abbrev Zgo:Stmt:=(aN (top 70)).getD 3 (.Pass ⟨0,0,0,0⟩)
abbrev ZhU:Stmt:=(aN (top 71)).getD 3 (.Pass ⟨0,0,0,0⟩)
abbrev Ziv:Stmt:=(aN (top 65)).getD 3 (.Pass ⟨0,0,0,0⟩)
abbrev ZhR:Stmt:=(aN (top 67)).getD 3 (.Pass ⟨0,0,0,0⟩)
abbrev Zhe:Stmt:=(aN (top 66)).getD 3 (.Pass ⟨0,0,0,0⟩)
abbrev Zg2:Stmt:=(aN (top 68)).getD 3 (.Pass ⟨0,0,0,0⟩)
abbrev Zg4:Stmt:=(aN (top 78)).getD 4 (.Pass ⟨0,0,0,0⟩)
abbrev ZiA:Stmt:=(aN (top 78)).getD 2 (.Pass ⟨0,0,0,0⟩)
abbrev Ziy:Stmt:=(aN (top 78)).getD 3 (.Pass ⟨0,0,0,0⟩)
abbrev Zgj:Stmt:=(aN (top 81)).getD 5 (.Pass ⟨0,0,0,0⟩)
abbrev ZiC:Stmt:=(aN (top 81)).getD 0 (.Pass ⟨0,0,0,0⟩)
abbrev ZiB:Stmt:=(aN (top 81)).getD 1 (.Pass ⟨0,0,0,0⟩)
abbrev Zfx:Stmt:=(aN (top 81)).getD 4 (.Pass ⟨0,0,0,0⟩)
abbrev Zdn:Stmt:=(aN (top 81)).getD 2 (.Pass ⟨0,0,0,0⟩)
abbrev Zg5:Stmt:=(aN (top 81)).getD 10 (.Pass ⟨0,0,0,0⟩)
abbrev Zg7:Stmt:=(aN (top 81)).getD 11 (.Pass ⟨0,0,0,0⟩)
abbrev ZhO:Stmt:=(aN (top 81)).getD 12 (.Pass ⟨0,0,0,0⟩)
abbrev ZjB:Stmt:=(aN (top 81)).getD 13 (.Pass ⟨0,0,0,0⟩)
abbrev Zg6:Stmt:=(aN (top 81)).getD 16 (.Pass ⟨0,0,0,0⟩)
abbrev ZiG:Stmt:=top 83
abbrev ZiI:Stmt:=top 84
abbrev Zhg:Stmt:=top 85
abbrev ZjC:Stmt:=top 86
abbrev ZiH:Stmt:=top 87
abbrev ZjD:Stmt:=top 88
abbrev Zm5:Stmt:=top 89
def aJ (h:H p=none)(o:HO):Same H (upd H p o):=λb u q=>by rw[aH (aP q h)];exact q
def nS {v:HO}(h:H a=none)(e:upd H a v=H'):Same H H':=e▸aJ h v
def nE {v:HO}(e:upd H a v=H'):H' a=some v:=e▸aB
def small (h:n<=1000):n<=sizeLine:=Xx (rY h)
def aL (h:decide (n<=1000)=true):n<=sizeLine:=small (YK h)
def cD (h:n<=1000):n<sizeLine:=rY h
def _root_.L2.Same.put {o:HO}(g:Same H H')(h:H p=none):Same H (upd H' p o):=λb u q=>by rw[aH (aP q h)];exact g b u q
def _root_.L2.Same.none (g:Same H H')(h:H' x=none):H x=none:=by
 cases e:H x with
 |none=>rfl
 |some o=>rw[g x o e]at h;cases h
def bG {fs:List (Str×V)}(a:H x=none)(hd:H dx=none):Same H (upd (upd (upd H dx (.own x)) x (.ins C dx [])) x (.ins C dx fs)):=λb u q=>by
 rw[aH (aP q a),aH (aP q a),aH (aP q hd)];exact q
open Bm Rm
def b2T (n k:Nat):Builtin.bitAnd ((n:Int) / 2 ^ ((k:Int)).toNat) 1=fL n k:=by
 rw[c0J]
 have h:Builtin.bitAnd ((n >>> k:Nat):Int) 1=(((n >>> k:Nat) &&& 1:Nat):Int):=band (n >>> k) 1
 rw[h]
 unfold fL
 have a:=bit_at n k
 have b:((n >>> k:Nat) &&& 1)=(n >>> k) % 2:=Nat.and_one_is_mod _
 split
 ·rename_i c;exact a.mpr c
 ·rename_i c
  have:¬ (((n >>> k:Nat) &&& 1:Nat):Int)=1:=λz=>c (a.mp z)
  lia
def a5Q:Sp:=λa H Q _=>∃n m:Nat,a= [.int n,.int m]/\n<2 ^ m/\m<=128/\∀p,H p=none->Q (.ref p) (upd H p (.lst ((bJ n m).map V.int)))
def yD (K:W.Frag):Sp:=λb H Q _=>∃(a:Addr)(bs:List Int),b= [.ref a]/\SqL K H a (bs.map V.int)/\bK bs/\bs.length<=450/\Q (.int ((nm bs:Nat):Int)) H
def a3J (h:n<2 ^ m):(n:Int) / 2 ^ ((m:Int)).toNat=0:=by
 rw[qD]
 exact Int.ediv_eq_zero_of_lt (Int.natCast_nonneg n) (by exact_mod_cast h)
def a1W (h:i<m):(bJ n m).take (i+1)=(bJ n m).take i++[fL n (m-1-i)]:=by
 have a:i<(bJ n m).length:=by rw[bV];exact h
 rw[Yg a,sX a]
def uV (h:i<bs.length):atI (bs.map V.int) ((i:Nat):Int)=some (.int bs[i]):=gZ (by rw[Yo,Yb h];rfl)
def nM {x:V}(a:(bs.map V.int)[i]? =some x):∃h:i<bs.length,x= .int bs[i]:=by
 have b:i<bs.length:=by
  have:=(Ye.mp a).1
  rwa [Ya]at this
 refine⟨b,?_⟩
 rw[Yo,Yb b]at a
 exact(Yp a).symm
abbrev bl (a:Nat):Nat:=Builtin.Int.intBits (a:Int)
def b8S {a:Nat}(h:a≠0):2 ^ (bl a-1)<=a:=by
 show 2 ^ (Builtin.Int.intBits (a:Int)-1)<=a
 rw[qZ,if_neg h]
 exact Nat.log2_self_le h
def a8L {a:Nat}(h:a<2 ^ n):bl a<=n:=bits_le h
def b2P (a:Nat):a<2 ^ bl a:=b1Q a
def zM:bl 64647=16:=by decide
def a7M {r:Nat}(d:r<2 ^ 450)(h:16<=bl r):(r ^^^ 64647 <<< (bl r-16))<2 ^ 450/\R (r ^^^ 64647 <<< (bl r-16))=R r/\bl (r ^^^ 64647 <<< (bl r-16))<bl r:=by
 have e:=a8L d
 have b:r≠0:=by
  intro z
  subst z
  have:bl 0=0:=by decide
  lia
 have l1:64647 <<< (bl r-16)<2 ^ (bl r-1+1):=by
  rw[Xh]
  have a:bl r-1+1=16+(bl r-16):=by lia
  rw[a,Nat.pow_add]
  exact Nat.mul_lt_mul_of_lt_of_le (by decide) (Yc _) (XR _)
 have l2:2 ^ (bl r-1)<=64647 <<< (bl r-16):=by
  rw[Xh]
  have a:bl r-1=15+(bl r-16):=by lia
  rw[a,Nat.pow_add]
  exact Nat.mul_le_mul_right _ (by decide)
 have l3:r<2 ^ (bl r-1+1):=by
  have a:bl r-1+1=bl r:=by lia
  rw[a];exact b2P r
 have c:=a8R l3 l1 (b8S b) l2
 have f:bl (r ^^^ 64647 <<< (bl r-16))<=bl r-1:=a8L c
 exact⟨Yh c (Yv (by decide) (by lia)),a8N (by lia),by lia⟩
def a2H:Sp:=λb H Q _=>∃a:Nat,b= [.int a,.int 64647]/\a<2 ^ 450/\∀(w:Nat)(p:Addr),H p=none->Q (.ref p) (upd H p (.tup [.int (w:Int),.int ((R a:Nat):Int)]))
def b3P (K:W.Frag):Sp:=λb H Q _=>∃(a:Addr)(bs:List Int),b= [.ref a]/\SqL K H a (bs.map V.int)/\bK bs/\bs.length<=450/\∀H',Same H H'->Q (.int ((rst bs:Nat):Int)) H'
def a9K (K:W.Frag):Sp:=λb H Q _=>∃(a:Addr)(bs:List Int),b= [.ref a]/\SqL K H a (bs.map V.int)/\bK bs/\bs.length<=400/\∀p H',H p=none->Same H H'->H' p=some (.lst ((ck bs).map V.int))->Q (.ref p) H'
def b0S (h:bK bs):jW bs=((nm bs:Nat):Int):=(pH h).symm
def szB (bs:List Int):Nat:=nm ((bs.drop 9).take 3)
def nmB (bs:List Int):Nat:=nm ((bs.drop 1).take 8)
def dtB (bs:List Int)(k:Nat):Int:=((nm ((bs.drop (12+8*k)).take 8):Nat):Int)
def daB (bs:List Int):List Int:=(List.range (szB bs)).map (dtB bs)
def lH (bs:List Int):Prop:=12<=bs.length/\bs.length=27+8*szB bs
def zO (bs:List Int):Prop:=lH bs/\bs.getD 0 0=0/\rst bs=0
def lE (h:bK bs)(a n:Nat):bK ((bs.drop a).take n):=λb c=>h b (List.mem_of_mem_drop (Xi c))
def a4N (h:bK bs):szB bs<8:=by
 have:=mF (lE h 9 3)
 refine Yh this (Yv (n:=2) (j:=3) (by decide) ?_)
 rw[Yq];lia
def b3O (K:W.Frag):Sp:=λb H Q _=>∃(a:Addr)(bs:List Int),b= [.ref a]/\SqL K H a (bs.map V.int)/\bK bs/\12<=bs.length/\bs.length<=450/\∀H',Same H H'->Q (.int ((szB bs:Nat):Int)) H'
def b7C (K:W.Frag):Sp:=λb H Q _=>∃(a:Addr)(bs:List Int),b= [.ref a]/\SqL K H a (bs.map V.int)/\bK bs/\bs.length<=450/\(lH bs->∀H',Same H H'->Q (.bl true) H')/\(¬ lH bs->∀H',Same H H'->Q (.bl false) H')
def b3Q (K:W.Frag)(C:Addr):Sp:=λb H Q E=>∃(a:Addr)(bs:List Int),b= [.ref a]/\SqL K H a (bs.map V.int)/\bK bs/\bs.length<=450/\
 (zO bs->∀t p H',H p=none->Same H H'->H' p=some (.lst ((daB bs).map V.int))->H' t=some (.tup [.int ((nmB bs:Nat):Int),.ref p])->Q (.ref t) H')/\(¬ zO bs->∀H',Same H H'->False)
def a1L (bs:List Int):(daB bs).length=szB bs:=by unfold daB;rw[Ya,Y2]
def a8C (h:i<szB bs):(daB bs).take (i+1)=(daB bs).take i++[dtB bs i]:=by
 have a:i<(daB bs).length:=by rw[a1L];exact h
 have e:(daB bs)[i]=dtB bs i:=by simp[daB]
 rw[Yg a,e]
def c0L (h:0<bs.length):bs[0]=bs.getD 0 0:=by rw[Yf,Yb h];rfl
def zJ {a n:Nat}{x y:Int}(b:x=(a:Int))(c:y=((a+n:Nat):Int))(h:a+n<=bs.length):lY (bs.map V.int) (some x) (some y)=((bs.drop a).take n).map V.int:=by
 rw[b,c];exact b1P h
open Bm Rn Wm
def b7Z:Option Int->V
 |none=> .non
 |some b=> .int b
abbrev skF (s:S):List (Str×V):=[("last",b7Z s.1),("alike",.int ((s.2:Nat):Int))]
def jP (C:Addr)(H:Hp)(a:Addr)(s:S):Prop:=∃dx,H a=some (.ins C dx (skF s))
def jP.same {n:S}(h:jP C H a n)(g:Same H H'):jP C H' a n:=by
 obtain⟨b,e⟩:=h
 exact⟨b,g _ _ e⟩
def jP.at_ {n:S}(h:jP C H a n)(g:H' a=H a):jP C H' a n:=by
 obtain⟨b,e⟩:=h
 exact⟨b,g.trans e⟩
def jP.ne {n:S}{xs:List V}(h:jP C H a n)(e:H p=some (.lst xs)):p≠a:=λz=>by
 obtain⟨b,q⟩:=h
 rw[z,q]at e;cases e
def jP.set {n:S}{xs ys:List V}(h:jP C H a n)(e:H p=some (.lst xs)):jP C (upd H p (.lst ys)) a n:=by
 obtain⟨b,q⟩:=h
 exact⟨b,by rw[aH (λz=>by rw[z,e]at q;cases q)];exact q⟩
def a4Y (C:Addr):Sp:=λb H Q _=>∃a dx,b= [.ref a]/\H a=some (.ins C dx [])/\∀H',H'=upd H a (.ins C dx (skF (none,0)))->Q .non H'
def a9E (C:Addr):Sp:=λc H Q _=>∃a s b,c= [.ref a,.int b]/\jP C H a s/\∀H',jP C H' a (skp s b)->(∀x,x≠a->H' x=H x)->Q .non H'
def a4Z (C:Addr):Sp:=λb H Q _=>∃a s,b= [.ref a]/\jP C H a s/\Q (.bl (decide (s.2=5))) H
def a4X (C:Addr):Sp:=λb H Q _=>∃a s,b= [.ref a]/\jP C H a s/\Q (.bl (decide (5<s.2))) H
def a3K (n:Nat):decide ((n:Int)=5)=decide (n=5):=by
 by_cases h:n=5
 ·subst h;rfl
 ·rw[Yl h,Yl (by lia)]
def b1K (n:Nat):decide ((5:Int)<(n:Int))=decide (5<n):=by
 by_cases h:5<n
 ·rw[Yj h,Yj (by lia)]
 ·rw[Yl h,Yl (by lia)]
def a7R:Good []:=λk a=>by
 have:k=0:=Nat.le_zero.mp a
 subst this;decide
def a9F (K:W.Frag):Sp:=λb H Q _=>∃(a:Addr)(bs:List Int),b= [.ref a]/\SqL K H a (bs.map V.int)/\bs.length<=400/\∀p H',H p=none->Same H H'->H' p=some (.lst ((put bs).map V.int))->Q (.ref p) H'
def vW (h:i<bs.length):put (bs.take (i+1))=pst (put (bs.take i)) bs[i]:=by rw[Yg h,fW]
instance decCmp (bs:List Int):Decidable (lH bs):=by unfold lH;infer_instance
def ans (w:List Int):Str:=if 5<run w then "six" else if run w=5\/¬ lH (kp w) then "more" else if rst (kp w)=0 then "whole" else "bad"
def lW (h:5<run w):ans w="six":=if_pos h
def lF (h:¬ 5<run w)(g:run w=5\/¬ lH (kp w)):ans w="more":=(if_neg h).trans (if_pos g)
def oN (h:¬ 5<run w)(g:¬ (run w=5\/¬ lH (kp w)))(r:rst (kp w)=0):ans w="whole":=(if_neg h).trans ((if_neg g).trans (if_pos r))
def uX (h:¬ 5<run w)(g:¬ (run w=5\/¬ lH (kp w)))(r:¬ rst (kp w)=0):ans w="bad":=(if_neg h).trans ((if_neg g).trans (if_neg r))
abbrev rdF (st ks:Addr)(t:Str):List (Str×V):=[("streak",.ref st),("kept",.ref ks),("answer",.str t)]
structure iK (C CK:Addr)(H:Hp)(r st ks:Addr)(w:List Int)(t:Str):Prop where
 rd:∃dx,H r=some (.ins C dx (rdF st ks t))
 sk:jP CK H st (sk w)
 kp:H ks=some (.lst ((kp w).map V.int))
def iK.same {a:Addr}{t:Str}(h:iK C CK H r a ks w t)(g:Same H H'):iK C CK H' r a ks w t:=⟨let ⟨dx,e⟩:=h.rd;⟨dx,g _ _ e⟩,h.sk.same g,g _ _ h.kp⟩
def iK.ne1 {a:Addr}{t:Str}(h:iK C CK H r a ks w t):r≠a:=λz=>by
 obtain⟨b,e⟩:=h.rd
 obtain⟨c,f⟩:=h.sk
 rw[z,f]at e
 cases e
def iK.ne2 {a:Addr}{t:Str}(h:iK C CK H r a ks w t):r≠ks:=λz=>by
 obtain⟨b,e⟩:=h.rd
 rw[z,h.kp]at e
 cases e
def iK.ne3 {a:Addr}{t:Str}(h:iK C CK H r a ks w t):ks≠a:=λz=>by
 obtain⟨b,f⟩:=h.sk
 rw[<-z,h.kp]at f
 cases f
def b1V (H H':Hp)(r a b:Addr):Prop:=∀x o,x≠r->x≠a->x≠b->H x=some o->H' x=some o
def a5G (C b:Addr):Sp:=λc H Q _=>∃a dx,c= [.ref a]/\H a=some (.ins C dx [])/\∀H' st ks,iK C b H' a st ks [] "more"->H st=none->H ks=none->(∀x o,x≠a->H x=some o->H' x=some o)->Q .non H'
def xZ (C a:Addr):Sp:=λb H Q _=>∃r st ks w t,b= [.ref r]/\iK C a H r st ks w t/\bK w/\w.length<=450/\∀H',Same H H'->Q (.str (ans w)) H'
def a5H (C a:Addr):Sp:=λc H Q _=>∃r st ks w t b,c= [.ref r,.int b]/\iK C a H r st ks w t/\bK (w++[b])/\w.length<450/\∀H',iK C a H' r st ks (w++[b]) (ans (w++[b]))->b1V H H' r st ks->Q (.str (ans (w++[b]))) H'
def a2E (C a:Addr):Sp:=λb H Q _=>∃r st ks w t,b= [.ref r]/\iK C a H r st ks w t/\∀p H',H p=none->Same H H'->H' p=some (.lst ((kp w).map V.int))->Q (.ref p) H'
def a2F (C a:Addr):Sp:=λb H Q _=>∃r st ks w,b= [.ref r]/\iK C a H r st ks w (ans w)/\bK w/\w.length<=450/\(ans w="whole"->(kp w).getD 0 0=0)/\
 (ans w="whole"->zO (kp w)->∀t p H',H p=none->Same H H'->H' p=some (.lst ((daB (kp w)).map V.int))->H' t=some (.tup [.int ((nmB (kp w):Nat):Int),.ref p])->Q (.ref t) H')/\(ans w≠"whole"->Q .non H)
def uW (h:ans w="whole"):lH (kp w)/\rst (kp w)=0:=by
 by_cases h1:5<run w
 ·rw[lW h1]at h;exact absurd h (by decide +kernel)
 by_cases h2:run w=5\/¬ lH (kp w)
 ·rw[lF h1 h2]at h;exact absurd h (by decide +kernel)
 by_cases h3:rst (kp w)=0
 ·exact⟨YB λz=>h2 (.inr z),h3⟩
 ·rw[uX h1 h2 h3]at h;exact absurd h (by decide +kernel)
def byt (n:Int):Bool:=decide (0<=n) && decide (n<=255)
def gY {n:Int}:byt n=true↔0<=n/\n<=255:=by unfold byt;simp
def uR {n:Int}(h:byt n=true):∃m:Nat,n=m/\m<256:=by
 obtain⟨a,b⟩:=gY.mp h
 exact⟨n.toNat,by lia,by lia⟩
def b7D:Sp:=λa H Q _=>∃n,a= [.int n]/\Q (.bl (byt n)) H
def a9L (K:W.Frag):Sp:=λb H Q _=>∃(a:Addr)(ns:List Int),b= [.ref a]/\SqA K H a (ns.map V.int)/\ns.length<=500/\∀H',Same H H'->Q (.bl (ns.all byt)) H'
def oR (n:Int)(ds:List Int):Prop:=byt n=true/\ds.length<=7/\ds.all byt=true
def b3V (K:W.Frag)(C:Addr):Sp:=λb H Q E=>∃(n:Int)(a:Addr)(ds:List Int),b= [.int n,.ref a]/\SqL K H a (ds.map V.int)/\ds.length<=500/\(oR n ds->∀H',Same H H'->Q .non H')/\(¬ oR n ds->∀H',Same H H'->False)
def b8 (d:Int):List Int:=bJ d.toNat 8
def hdD (n:Int)(k:Nat)(ds:List Int):List Int:=[0]++b8 n++bJ k 3++(ds.map b8).flatten
def hd (n:Int)(ds:List Int):List Int:=hdD n ds.length ds
def fb (n:Int)(ds:List Int):List Int:=hd n ds++ck (hd n ds)
def jK (d:Int):(b8 d).length=8:=bV _ _
def nY (d:Int):bK (b8 d):=gO _ _
theorem wX:∀ds:List Int,(ds.map b8).flatten.length=8*ds.length
 |[]=>rfl
 |d::r=>by rw[YE,Y6,Yd,wX r,jK,YM];lia
theorem tD:∀ds:List Int,bK (ds.map b8).flatten
 |[]=>λ_ z=>nomatch z
 |d::r=>by rw[YE,Y6];exact gC (nY d) (tD r)
def pK (n:Int)(k:Nat)(ds:List Int):(hdD n k ds).length=12+8*ds.length:=by
 unfold hdD
 rw[Yd,Yd,Yd,wX,jK,bV,Yt]
def nJ (n:Int)(k:Nat)(ds:List Int):bK (hdD n k ds):=by
 unfold hdD
 refine gC (gC (gC ?_ (nY n)) (gO _ _)) (tD ds)
 intro b a
 exact .inl (Yk.mp a)
def wQ (n:Int)(k:Nat)(ds:List Int)(d:Int):hdD n k (ds++[d])=hdD n k ds++b8 d:=by
 unfold hdD
 rw[Yr,List.flatten_append,<-YC]
 simp
def yX (n:Int)(ds:List Int):(hd n ds).length=12+8*ds.length:=pK n _ ds
def nH (n:Int)(ds:List Int):bK (hd n ds):=nJ n _ ds
def zL (bs:List Int):(ck bs).length=15:=bV _ _
def a1O (bs:List Int):bK (ck bs):=gO _ _
def mJ (n:Int)(ds:List Int):(fb n ds).length=27+8*ds.length:=by unfold fb;rw[Yd,yX,zL];lia
def pL (n:Int)(ds:List Int):bK (fb n ds):=gC (nH n ds) (a1O _)
def b5L (n:Int)(ds:List Int)(h:ds.length<=40):rst (fb n ds)=0:=b3Y (nH n ds) (by rw[yX];lia)
def a9I (K:W.Frag)(C:Addr):Sp:=λb H Q E=>∃(n:Int)(a:Addr)(ds:List Int),b= [.int n,.ref a]/\SqL K H a (ds.map V.int)/\ds.length<=500/\(oR n ds->∀p H',H p=none->Same H H'->H' p=some (.lst ((fb n ds).map V.int))->Q (.ref p) H')/\(¬ oR n ds->∀H',Same H H'->False)
def a6Z {n:Int}(h:¬ byt n=true\/7<ds.length\/∃d∈ds,¬ byt d=true):¬ oR n ds:=λ⟨a,c,b⟩=>by
 rcases h with h | h | ⟨d,hd,h⟩
 ·exact h a
 ·lia
 ·exact h (XW.mp b d hd)
def xK (h:ds.all byt=true)(a:i<ds.length):byt ds[i]=true:=XW.mp h _ (YN a)
def a1F (a:n<256)(b:ds.length<=7):szB (fb (n:Int) ds)=ds.length:=by
 unfold szB fb hd hdD
 have e:(([0]++b8 (n:Int)++bJ ds.length 3++(ds.map b8).flatten++ck ([0]++b8 (n:Int)++bJ ds.length 3++(ds.map b8).flatten)).drop 9).take 3=bJ ds.length 3:=by
  have c:([0]++b8 (n:Int)).length=9:=by rw[Yd,jK];rfl
  rw[YC,YC ([0]++b8 (n:Int)),Xj (by lia),List.drop_of_length_le (by lia),List.nil_append,YU (by rw[bV];exact Yc _),Yi (by rw[bV];exact Yc _)]
 rw[e]
 exact fY (by show ds.length<2 ^ 3;lia)
def a1G (a:n<256):nmB (fb (n:Int) ds)=n:=by
 unfold nmB fb hd hdD
 have e:(([0]++b8 (n:Int)++bJ ds.length 3++(ds.map b8).flatten++ck ([0]++b8 (n:Int)++bJ ds.length 3++(ds.map b8).flatten)).drop 1).take 8=b8 (n:Int):=by
  rw[YC,YC,YC [0]]
  show (b8 (n:Int)++_).take 8=_
  rw[YU (by rw[jK];exact Yc _),Yi (by rw[jK];exact Yc _)]
 rw[e]
 exact fY (by show n<2 ^ 8;lia)
theorem wY:∀(ds:List Int)(k:Nat)(h:k<ds.length)(r:List Int),(((ds.map b8).flatten++r).drop (8*k)).take 8=b8 ds[k]
 | d::ds,0,_,r=>by
  rw[YE,Y6,Nat.mul_zero,List.drop_zero,YC,YU (by rw[jK];exact Yc _),Yi (by rw[jK];exact Yc _)];rfl
 | d::ds,k+1,h,r=>by
  rw[YE,Y6,YC]
  have e:8*(k+1)=(b8 d).length+8*k:=by rw[jK];lia
  rw[e,<-List.drop_drop,List.drop_left,wY ds k (by simpa using h) r];rfl
def b1I (c:n<256)(d:ds.length<=7)(a:ds.all byt=true):daB (fb (n:Int) ds)=ds:=by
 unfold daB
 rw[a1F c d]
 apply List.ext_getElem
 ·rw[Ya,Y2]
 ·intro k h b
  rw[List.getElem_map,List.getElem_range]
  unfold dtB fb hd hdD
  have f:([0]++b8 (n:Int)++bJ ds.length 3).length=12:=by rw[Yd,Yd,jK,bV];rfl
  rw[YC,<-List.drop_drop]
  have e:([0]++b8 (n:Int)++bJ ds.length 3++((ds.map b8).flatten++ck ([0]++b8 (n:Int)++bJ ds.length 3++(ds.map b8).flatten))).drop 12=(ds.map b8).flatten++ck ([0]++b8 (n:Int)++bJ ds.length 3++(ds.map b8).flatten):=by
   rw[Xj (by lia),List.drop_of_length_le (by lia),List.nil_append]
  rw[e,wY ds k b]
  obtain⟨m,g,i⟩:=uR (xK a b)
  rw[g]
  show ((nm (bJ m 8):Nat):Int)=_
  rw[fY (by show m<2 ^ 8;lia)]
def b8I (a:n<256)(b:ds.length<=7):zO (fb (n:Int) ds):=by
 refine⟨⟨by rw[mJ];lia,by rw[mJ,a1F a b]⟩,?_,b5L _ _ (by lia)⟩
 unfold fb hd hdD
 rfl
def nZ {as:List Int}(a:bK as)(b:bK bs):bK (as++bs):=λz c=>(YL.mp c).elim (a z) (b z)
def tV {as:List Int}(a:bK as):bK (as.take n):=λz b=>a z (Xi b)
def a7L (u:List Int):∀v:List Int,∃x,kp (u++v)=kp u++x:=by
 refine snoc_ind (P:=λv=>∃x,kp (u++v)=kp u++x) ⟨[],by rw[YH,YH]⟩ (λv b ih=>?_)
 obtain⟨x,e⟩:=ih
 rw[<-YC,fP]
 split
 ·exact⟨x,e⟩
 ·exact⟨x++[b],by rw[e,YC]⟩
def a1X {l x:List Int}(h:12<=l.length):szB (l++x)=szB l:=by
 unfold szB
 rw[Xj (by lia),YU (by rw[Xu];lia)]
structure Wr (w:List Int)(bs:List Int):Prop where
 w:w=put bs
 bits:bK bs
 ok:zO bs
def Wr.take_run (h:Wr w bs)(a:j<=w.length):run (w.take j)<=5:=by
 have:=a6B bs
 rw[<-h.w]at this
 exact this j a
def Wr.wbits (h:Wr w bs):bK w:=by rw[h.w];exact vX h.bits
def Wr.kp (h:Wr w bs):kp w=bs:=by rw[h.w];exact a7K bs
def Wr.more (h:Wr w bs)(g:j<w.length):ans (w.take j)="more":=by
 have s:=h.take_run (Xx g)
 refine lF (by lia) (YB λz=>?_)
 have i:¬ run (w.take j)=5:=λy=>z (.inl y)
 have a:lH (Wm.kp (w.take j)):=YB λy=>z (.inr y)
 obtain⟨x,e⟩:=a7L (w.take j) (w.drop j)
 rw[List.take_append_drop,h.kp]at e
 have m:lH (Wm.kp (w.take j)):=a
 have b:=a.1
 have o:=a.2
 have p:=a1X (l:=Wm.kp (w.take j)) (x:=x) b
 have d:=h.ok.1.2
 rw[e]at d
 have c:(Wm.kp (w.take j)++x).length=27+8*szB (Wm.kp (w.take j)++x):=d
 rw[p,Yd]at c
 have q:x= []:=List.eq_nil_of_length_eq_zero (by lia)
 rw[q,YH]at e
 have good:Good (w.take j):=λk r=>by
  rw[List.take_take]
  exact h.take_run (by rw[Yq]at r;lia)
 have f:=yM (tV (n:=j) h.wbits) good
 rw[if_neg i,<-e,<-h.w]at f
 have:=YO List.length f
 rw[Yq]at this
 lia
def Wr.whole (h:Wr w bs):ans w="whole":=by
 have a:=mQ bs
 rw[<-h.w]at a
 refine oN (by lia) (λz=>?_) ?_
 ·rcases z with z | z
  ·lia
  ·rw[h.kp]at z;exact z h.ok.1
 ·rw[h.kp];exact h.ok.2.2
structure On (w:List Int):Prop where
 good:Good w
 le:12<=(kp w).length->(kp w).length<=27+8*szB (kp w)
 five:lH (kp w)->run w=5
def On.nil:On []:=⟨a7R,λz=>absurd z (by decide),λz=>absurd z.1 (by decide)⟩
def a4M {l:List Int}(h:12<=l.length):szB (l++[b])=szB l:=by
 unfold szB
 rw[Xj (by lia),YU (by rw[Xu];lia)]
def On.le' (h:On w):12<=(kp (w++[b])).length->(kp (w++[b])).length<=27+8*szB (kp (w++[b])):=by
 rw[fP]
 by_cases c:run w=5
 ·rw[if_pos c];exact h.le
 ·rw [if_neg c]
  intro a
  rw[Yd,Yt]at a ⊢
  by_cases z:12<=(kp w).length
  ·rw[a4M z]
   have d:=h.le z
   have e:¬ (kp w).length=27+8*szB (kp w):=λy=>c (h.five ⟨z,y⟩)
   lia
  ·lia
def On.next (h:On w)(a:ans (w++[b])="more"):On (w++[b]):=by
 have c:¬ 5<run (w++[b]):=λz=>by
  rw[lW z]at a;exact absurd a (by decide +kernel)
 refine⟨h.good.snoc (by lia),h.le',λe=>YB λz=>?_⟩
 have d:¬ (run (w++[b])=5\/¬ lH (kp (w++[b]))):=λy=>y.elim z λx=>x e
 by_cases r:rst (kp (w++[b]))=0
 ·rw[oN c d r]at a;exact absurd a (by decide +kernel)
 ·rw[uX c d r]at a;exact absurd a (by decide +kernel)
def a4R (K:W.Frag)(C:Addr):Sp:=λb H Q E=>∃(n:Int)(a:Addr)(ds:List Int),b= [.int n,.ref a]/\SqL K H a (ds.map V.int)/\ds.length<=500/\(oR n ds->∀p H',H p=none->Same H H'->H' p=some (.lst ((put (fb n ds)).map V.int))->Q (.ref p) H')/\(¬ oR n ds->∀H',Same H H'->False)
def a9D (C:Addr):Sp:=λa H Q E=>∃v:Int,a= [.int v]/\((v=1\/v=3\/v=5)->Q .non H)/\(¬ (v=1\/v=3\/v=5)->False)
def sI (v:Int):decide (v∈ [(1:Int),3,5])=true↔(v=1\/v=3\/v=5):=by
 rw[decide_eq_true_iff]
 simp
structure TCl (K:W.Frag)(C:Addr):Prop where
 cls:Cls K C
 n1:bF K C "votes"
 n2:bF K C "spoke"
 n3:bF K C "over"
 n4:bF K C "noughts"
abbrev tlF (v:Nat)(s:Bool)(o n:Nat):List (Str×V):=[("votes",.int v),("spoke",.bl s),("over",.int o),("noughts",.int n)]
def oO (a b:Addr)(H:Hp)(t:Addr)(v:Nat)(s:Bool)(o n:Nat):Prop:=∃C dx,(C=a\/C=b)/\H t=some (.ins C dx (tlF v s o n))
def oO.same {s:Bool}{o:Nat}(h:oO C1 C2 H t v s o n)(g:Same H H'):oO C1 C2 H' t v s o n:=let ⟨C,dx,c,e⟩:=h;⟨C,dx,c,g _ _ e⟩
def fH (s:Bool)(o:Nat):Int:=if o=1/\s=false then 0 else 1
def fV (s:Bool)(o:Nat)(b:Int):Bool:=if o=1 then s && decide (b=1) else decide (b=0)
def tlN (o:Nat)(b:Int)(n:Nat):Nat:=if 9<=o/\b=0 then n+1 else n
def oG (v o n:Nat):Str:=if o<9+v then ("more":Str) else if v / 2<n then ("refused":Str) else ("taken":Str)
def bW (v:Nat)(s:Bool)(o n:Nat)(b:Int):Str:=if 9<=o then oG v (o+1) (tlN o b n) else if fV s o b=true then ("fault":Str) else ("more":Str)
def a8Q (H H':Hp)(t:Addr):Prop:=∀x o,x≠t->H x=some o->H' x=some o
def a4V (K:W.Frag)(a b:Addr):Sp:=λc H Q _=>∃(t C dx:Addr)(v:Nat)(s:Bool),c= [.ref t,.int v,.bl s]/\(C=a\/C=b)/\H t=some (.ins C dx [])/\Q .non (upd H t (.ins C dx (tlF v s 0 0)))
def vM (C:Addr)(s:Bool):Sp:=λa H Q _=>∃(t dx:Addr)(v:Nat),a= [.ref t,.int v]/\H t=some (.ins C dx [])/\∀H',H'=upd H t (.ins C dx (tlF v s 0 0))->Q .non H'
def a4U (a b:Addr):Sp:=λc H Q _=>∃t v s o n,c= [.ref t]/\oO a b H t v s o n/\Q (.int (fH s o)) H
def a2A (a b:Addr):Sp:=λc H Q _=>∃t v s o n,c= [.ref t]/\oO a b H t v s o n/\Q (.int ((o:Nat):Int)) H
def a2C (c d:Addr):Sp:=λe H Q _=>∃t v s o n,∃(a:Nat)(b:Int),e= [.ref t,.int (a:Int),.int b]/\oO c d H t v s o n/\Q (.bl (fV s a b)) H
def a2B (a c:Addr):Sp:=λd H Q _=>∃t v s o n,∃b:Int,d= [.ref t,.int b]/\oO a c H t v s o n/\∀H',oO a c H' t v s o (if b=0 then n+1 else n)->a8Q H H' t->Q (.str (oG v o (if b=0 then n+1 else n))) H'
def a4W (a c:Addr):Sp:=λd H Q _=>∃t v s o n,∃b:Int,d= [.ref t,.int b]/\oO a c H t v s o n/\∀H',oO a c H' t v s (o+1) (tlN o b n)->a8Q H H' t->Q (.str (bW v s o n b)) H'
def jF (a:TCl K C1)(b:TCl K C2)(h:C=C1\/C=C2):TCl K C:=h.elim (λz=>z▸a) (λz=>z▸b)
def oU {a:Addr}{m:Str}(b:Meth K C1 m a)(c:Meth K C2 m a)(h:C=C1\/C=C2):Meth K C m a:=h.elim (λz=>z▸b) (λz=>z▸c)
abbrev ctF (n:Int):List (Str×V):=[("total",.int n)]
def rJ (C:Addr)(H:Hp)(a:Addr)(n:Int):Prop:=∃dx,H a=some (.ins C dx (ctF n))
def a5N (C:Addr):Sp:=λb H Q _=>∃a dx,b= [.ref a]/\H a=some (.ins C dx [])/\Q .non (upd H a (.ins C dx (ctF 0)))
def b2H (C:Addr)(b:Int):Sp:=λc H Q _=>∃a n,c= [.ref a]/\rJ C H a n/\Q (.bl (decide (b<=n))) H
def b7B (C:Addr):Sp:=λb H Q _=>∃a n,b= [.ref a]/\rJ C H a n/\Q (.int n) H
def mvd (n a:Int):Int:=if 18<=n then n else max 0 (n+a)
def a5M (C:Addr):Sp:=λc H Q _=>∃a n st,c= [.ref a,.int st]/\rJ C H a n/\∀H',rJ C H' a (mvd n st)->(∀b,b≠a->H' b=H b)->Q .non H'
def a2I (C:Addr):Sp:=λc H Q _=>∃a n b,c= [.ref a,.bl b]/\rJ C H a n/\∀H',rJ C H' a (mvd n (if b=true then 8 else 1))->(∀b,b≠a->H' b=H b)->Q .non H'
def vO (C:Addr)(c:Int):Sp:=λd H Q _=>∃a n,d= [.ref a]/\rJ C H a n/\∀H',rJ C H' a (mvd n c)->(∀b,b≠a->H' b=H b)->Q .non H'
abbrev Own:=Addr->Prop
variable {o:Own}{o':Own}{o1:Own}{ob:Own}{os:Own}
def isT (o:HO):Prop:=∃vs,o= .tup vs
def cL (o:Own)(H H':Hp):Prop:=∀x v,H x=some v->(¬ o x\/isT v)->H' x=some v
def Mv (o:Own)(H:Hp)(o':Own)(H':Hp):Prop:=cL o H H'/\∀x,o' x->o x\/H x=none
abbrev Or2 (a b:Own):Own:=λx=>a x\/b x
def cL.of (g:Same H H'):cL o H H':=λx v e _=>g x v e
def cL.refl:cL o H H:=λ_ _ e _=>e
def cL.tup (k:cL o H H')(e:H x=some (.tup vs)):H' x=some (.tup vs):=k x _ e (.inr ⟨vs,rfl⟩)
def cL.le (k:cL o H H')(h:∀x,o x->o' x):cL o' H H':=λx v e z=>k x v e (z.elim (λy=> .inl λw=>y (h x w)) .inr)
def Mv.refl:Mv o H o H:=⟨cL.refl,λ_=> .inl⟩
def Mv.of (g:Same H H'):Mv o H o H':=⟨cL.of g,λ_=> .inl⟩
def Mv.trans {o2:Own}{H2:Hp}(a:Mv o H o1 H1)(b:Mv o1 H1 o2 H2):Mv o H o2 H2:=by
 refine⟨λx v e z=>b.1 x v (a.1 x v e z) ?_,λx d=>?_⟩
 ·rcases z with z | z
  ·exact .inl λw=>(a.2 x w).elim z λn=>by rw[n]at e;cases e
  ·exact .inr z
 ·rcases b.2 x d with h | h
  ·exact a.2 x h
  ·rcases Classical.em (o x) with c | c
   ·exact .inl c
   ·right
    cases e:H x with
    |none=>rfl
    |some v=>rw[a.1 x v e (.inl c)]at h;cases h
def Mv.out (a:Mv o H o1 H1){v:HO}(e:H x=some v)(h:¬ o x):¬ o1 x:=λw=>(a.2 x w).elim h λn=>by rw[n]at e;cases e
structure Cs where
 (post count free speaks reads intail flag settles rests off reader streak rtail stail:Addr)
variable {A:Cs}
inductive Stc where
 |free (k:Nat) | speaks (n:Nat) (ds:List Int) (k:Nat) | reads (h:List Int) | tlS (v c:Nat) | tlR (n:Nat) (ds:List Int) (v c:Nat) | flag (l:Nat) (m:Bool) | settles (m:Bool) | rests (l:Nat) | off
variable {nx:Stc}
abbrev Fr:=Nat×List Int
variable {g:Nat->List Fr}
structure PS where
 (m1 m2 vt:Nat) (wt up:List Fr) (tot:Int) (now:Stc)
variable {S:PS}{B:Nat->PS}
abbrev wr (n:Nat)(ds:List Int):List Int:=put (fb (n:Int) ds)
def Stc.shown:Stc->Str×Nat
 |.free k=>("free",k)
 |.speaks _ _ k=>("speaks",k)
 |.reads h=>("reads",h.length)
 |.tlS v _=>("tail speaks",v)
 |.tlR _ _ v _=>("tail reads",v)
 |.flag l _=>("flag",l)
 |.settles _=>("settles",0)
 |.rests l=>("rests",l)
 |.off=>("off",0)
def bB (S:PS):Int:=match S.now with
 |.free k=>if S.wt= [] then 1 else if 12<=S.tot/\k<8 then 1 else 0
 |.speaks n ds k=>(wr n ds).getD k 0
 |.tlS v _=>fH true v
 |.tlR _ _ v _=>fH false v
 |.flag _ _=>0
 |_=>1
def cH (S:PS)(a:Int)(w:Str)(nx:Stc):Str×PS:=if 18<=mvd S.tot a then ("off",{ S with tot:=mvd S.tot a,now:= .off }) else (w,{ S with tot:=mvd S.tot a,now:=nx })
def bQ (S:PS)(sp:Bool):Str×PS:=cH S (if sp=true then 8 else 1) "fault" (.flag 6 (!sp))
def cR (S:PS)(sp:Bool):Str×PS:=cH S (if sp=true then 8 else 1) "refuses" (.settles false)
def eE (S:PS):Str×PS:=cH S 8 "" (.settles false)
def mD (S:PS)(n:Nat):Bool:=decide (Builtin.bitAnd (n:Int) ((S.m1:Nat):Int)=((S.m2:Nat):Int))
def aZ (S:PS)(b:Int):Str×PS:=match S.now with
 |.free k=>if bB S=0 then (if b=0 then ("begins",{ S with now:= .speaks (S.wt.headD (0, [])).1 (S.wt.headD (0, [])).2 1 }) else bQ S true) else if b=0 then ("",{ S with now:= .reads [0] }) else ("",{ S with now:= .free (k+1) })
 |.speaks n ds k=>if ans ((wr n ds).take k++[b])="six" then bQ S true else if (wr n ds).getD k 0=1/\b=0/\(kp ((wr n ds).take k)).length<9 then ("loses",{ S with now:= .reads ((wr n ds).take k++[b]) }) else if b=(wr n ds).getD k 0 then (if k+1=(wr n ds).length then ("",{ S with now:= .tlS 0 0 }) else ("",{ S with now:= .speaks n ds (k+1) })) else bQ S true
 |.reads h=>if ans (h++[b])="more" then ("",{ S with now:= .reads (h++[b]) }) else if ans (h++[b])="whole" then ("",{ S with now:= .tlR (nmB (kp (h++[b]))) (daB (kp (h++[b]))) 0 0 }) else bQ S false
 |.tlS v c=>if bW S.vt true v c b="more" then ("",{ S with now:= .tlS (v+1) (tlN v b c) }) else if bW S.vt true v c b="fault" then bQ S true else if bW S.vt true v c b="refused" then cR S true else ("done",{ S with tot:=mvd S.tot (-1),wt:=S.wt.tail,now:= .rests 3 })
 |.tlR n ds v c=>if bW S.vt false v c b="more" then ("",{ S with now:= .tlR n ds (v+1) (tlN v b c) }) else if bW S.vt false v c b="fault" then bQ S false else if bW S.vt false v c b="refused" then cR S false else ("takes",{ S with tot:=mvd S.tot (-1),up:=if mD S n=true then S.up++[(n,ds)] else S.up,now:= .rests 3 })
 |.flag l m=>if l=1 then ("",{ S with now:= .settles m }) else ("",{ S with now:= .flag (l-1) m })
 |.settles m=>if b=1 then ("",{ S with now:= .rests 3 }) else if m=true then eE S else ("",S)
 |.rests l=>if b=0 then bQ S false else ("",{ S with now:=if l=1 then .free 0 else .rests (l-1) })
 |.off=>("",S)
def FrN (f:Fr):Prop:=f.1<256/\f.2.length<=7/\f.2.all byt=true
def FrN.ok {f:Fr}(h:FrN f):oR (f.1:Int) f.2:=⟨gY.mpr ⟨by lia,by have:=h.1;lia⟩,h.2.1,h.2.2⟩
def Stc.Wf (wt:List Fr):Stc->Prop
 |.speaks n ds k=>FrN (n,ds)/\1<=k/\k<(wr n ds).length/\wt≠ []
 |.reads h=>bK h/\On h/\h.head? =some 0
 |.tlS _ _=>wt≠ []
 |.flag l _=>1<=l
 |.rests l=>1<=l
 |_=>True
structure Wf (S:PS):Prop where
 vt:S.vt<=5
 wt:∀f∈S.wt,FrN f
 now:S.now.Wf S.wt
def nm3 {l:List Int}(a:bK l):szB l<=7:=by
 unfold szB
 have h:=mF (lE a 9 3)
 have b:((l.drop 9).take 3).length<=3:=by rw[Yq];lia
 have c:=Yv (n:=2) (by decide) b
 have:(2:Nat) ^ 3=8:=rfl
 lia
def b4R (a:bK h)(b:On h):h.length<=170:=by
 have e:=yM a b.good
 have l:=(mR (kp h)).2
 have s:=nm3 (uH a)
 have d:(kp h).length<=83:=by
  by_cases c:12<=(kp h).length
  ·have:=b.le c;lia
  ·lia
 have:h.length<=(put (kp h)).length:=by
  rw[e]
  split
  ·rw[Yd];lia
  ·exact Yc _
 lia
def kW (h:FrN (n,ds)):Wr (wr n ds) (fb (n:Int) ds):=⟨rfl,pL _ _,b8I h.1 h.2.1⟩
def kO (h:FrN (n,ds)):27<=(wr n ds).length/\(wr n ds).length<=166:=by
 have a:=mJ (n:Int) ds
 have b:=mR (fb (n:Int) ds)
 have c:=h.2.1
 have d:ds.length<=7:=c
 show 27<=(put (fb (n:Int) ds)).length/\(put (fb (n:Int) ds)).length<=166
 lia
def a0B (n:Nat)(ds:List Int):(wr n ds).head? =some 0:=by
 show (put (fb (n:Int) ds)).head? =some 0
 rw[a6A]
 unfold fb hd hdD
 rfl
def tR:(wr n ds).take 1= [0]:=by
 have:=a0B n ds
 generalize wr n ds=w at this
 cases w with
 |nil=>cases this
 |cons a b=>exact YO (λy=>[y]) (Yp this)
theorem a3Z (h:FrN (n,ds)):∀k,k<(wr n ds).length->On ((wr n ds).take k)
 |0,_=>On.nil
 | k+1,hk=>by
  have ih:=a3Z h k (by lia)
  have e:(wr n ds).take (k+1)=(wr n ds).take k++[(wr n ds)[k]]:=Yg (by lia)
  have m:=(kW h).more hk
  rw[e]at m ⊢
  exact ih.next m
def a2X (a:¬ ans (w++[b])="six")(e:(kp w).length<9):ans (w++[b])="more":=by
 have d:¬ 5<run (w++[b]):=λz=>a (lW z)
 refine lF d (.inr λc=>?_)
 have:=c.1
 rw[fP]at this
 split at this
 ·lia
 ·rw[Yd,Yt]at this;lia
def qO {a:Int}{w:Str}(h:Wf S)(b:nx.Wf S.wt):Wf (cH S a w nx).2:=by
 unfold cH
 split
 ·exact⟨h.vt,h.wt,trivial⟩
 ·exact⟨h.vt,h.wt,b⟩
def Wf.hear (h:Wf S)(hb:b=0\/b=1):Wf (aZ S b).2:=by
 have d:∀g,Wf (bQ S g).2:=λg=>qO h (by show 1<=6;decide)
 have t:∀g,Wf (cR S g).2:=λg=>qO h trivial
 have a:=h.now
 unfold aZ
 cases e:S.now with
 | free k =>
  dsimp only
  split
  ·rename_i c
   split
   ·refine⟨h.vt,h.wt,?_⟩
    have A:S.wt≠ []:=λz=>by
     unfold bB at c
     rw[e]at c
     dsimp only at c
     rw[if_pos z]at c
     cases c
    cases ew:S.wt with
    |nil=>exact absurd ew A
    | cons f r=>
     have i:=h.wt f (by rw[ew];exact Yy)
     have:=kO (n:=f.1) (ds:=f.2) i
     exact⟨i,Yc _,by show 1<(wr f.1 f.2).length;lia,by intro z;cases z⟩
   ·exact d true
  ·split
   ·refine⟨h.vt,h.wt,⟨λz j=> .inl (Yk.mp j),?_,rfl⟩⟩
    exact On.nil.next (b:=0) (by decide +kernel)
   ·exact⟨h.vt,h.wt,trivial⟩
 | speaks n ds k=>
  rw[e]at a
  obtain⟨o,q,p,u⟩:=a
  dsimp only
  split
  ·exact d true
  rename_i c6
  split
  ·rename_i c
   have B:=a3Z o k p
   refine⟨h.vt,h.wt,⟨?_,B.next (a2X c6 c.2.2),?_⟩⟩
   ·exact nZ (tV (kW o).wbits) (λz j=>by rw[Yk.mp j];exact hb)
   ·have s:=a0B n ds
    generalize wr n ds=w at s p
    cases w with
    |nil=>cases s
    | cons x y=>
     cases k with
     |zero=>cases q
     |succ k=>exact s
  split
  ·split
   ·exact⟨h.vt,h.wt,u⟩
   ·exact⟨h.vt,h.wt,⟨o,by lia,by lia,u⟩⟩
  ·exact d true
 | reads r=>
  rw[e]at a
  obtain⟨o,q,p⟩:=a
  dsimp only
  split
  ·rename_i c
   refine⟨h.vt,h.wt,⟨nZ o (λz j=>by rw[Yk.mp j];exact hb),q.next c,?_⟩⟩
   rw[Y7,p];rfl
  split
  ·exact⟨h.vt,h.wt,trivial⟩
  ·exact d false
 | tlS v c=>
  rw[e]at a
  dsimp only
  split
  ·exact⟨h.vt,h.wt,a⟩
  split
  ·exact d true
  split
  ·exact t true
  ·exact⟨h.vt,λf d=>h.wt f (List.mem_of_mem_tail d),by show 1<=3;decide⟩
 | tlR n ds v c=>
  dsimp only
  split
  ·exact⟨h.vt,h.wt,trivial⟩
  split
  ·exact d false
  split
  ·exact t false
  ·exact⟨h.vt,h.wt,by show 1<=3;decide⟩
 | flag l m=>
  rw[e]at a
  have C:1<=l:=a
  dsimp only
  split
  ·exact⟨h.vt,h.wt,trivial⟩
  ·exact⟨h.vt,h.wt,by show 1<=l-1;lia⟩
 | settles m=>
  dsimp only
  split
  ·exact⟨h.vt,h.wt,by show 1<=3;decide⟩
  split
  ·exact qO h trivial
  ·exact h
 | rests l=>
  rw[e]at a
  have C:1<=l:=a
  dsimp only
  split
  ·exact d false
  ·refine⟨h.vt,h.wt,?_⟩
   show Stc.Wf S.wt (if l=1 then .free 0 else .rests (l-1))
   split
   ·trivial
   ·show 1<=l-1;lia
 |off=>exact h
def a3Q (H:Hp)(o:Own)(t:Addr)(f:Fr):Prop:=∃d,H t=some (.tup [.int ((f.1:Nat):Int),.ref d])/\H d=some (.lst (f.2.map V.int))/\o d
inductive cQ (H:Hp)(o:Own):List V->List Fr->Prop
 |nil:cQ H o [] []
 |cons {t:Addr} {f:Fr} {ts:List V} {fs:List Fr}:a3Q H o t f->cQ H o ts fs->cQ H o (.ref t::ts) (f::fs)
theorem cQ.len:∀{ts:List V}{fs:List Fr},cQ H o ts fs->ts.length=fs.length
 |_,_,.nil=>rfl
 |_,_,.cons _ r=>YO (·+1) r.len
theorem cQ.snoc {f:Fr}:∀{ts:List V}{fs:List Fr},cQ H o ts fs->a3Q H o t f->cQ H o (ts++[.ref t]) (fs++[f])
 |_,_,.nil,h=> .cons h .nil
 |_,_,.cons a r,h=> .cons a (r.snoc h)
def a3Q.imp {f:Fr}(h:a3Q H o t f)(g:∀x v,H x=some v->(o x\/isT v)->H' x=some v)(w:∀x,o x->o' x):a3Q H' o' t f:=by
 obtain⟨d,b,c,a⟩:=h
 exact⟨d,g _ _ b (.inr ⟨_,rfl⟩),g _ _ c (.inl a),w d a⟩
theorem cQ.imp (g:∀x v,H x=some v->(o x\/isT v)->H' x=some v)(w:∀x,o x->o' x):∀{ts:List V}{fs:List Fr},cQ H o ts fs->cQ H' o' ts fs
 |_,_,.nil=> .nil
 |_,_,.cons a r=> .cons (a.imp g w) (r.imp g w)
theorem cQ.get:∀{ts:List V}{fs:List Fr},cQ H o ts fs->∀{i:Nat}{v:V},ts[i]? =some v->∃t f,v= .ref t/\fs[i]? =some f/\a3Q H o t f
 |_,_,.cons a _,0,_,rfl=>⟨_,_,rfl,rfl,a⟩
 |_,_,.cons _ r,i+1,_,h=>r.get (i:=i) h
abbrev pF (ch:Addr)(vt:Nat)(wl ul ct nw:Addr):List (Str×V):=[("choice",.ref ch),("votes",.int vt),("waiting",.ref wl),("handed_up",.ref ul),("tally",.ref ct),("now",.ref nw)]
abbrev Dl (o:Own)(wl ul:Addr):Own:=λx=>o x/\x≠wl/\x≠ul
structure BAt (A:Cs)(H:Hp)(p nwf:Addr)(S:PS)(o:Own)(dx ch wl ul ct:Addr)(ws us:List V):Prop where
 e:H p=some (.ins A.post dx (pF ch S.vt wl ul ct nwf))
 ec:H ch=some (.tup [.int S.m1,.int S.m2])
 ew:H wl=some (.lst ws)
 fw:cQ H (Dl o wl ul) ws S.wt
 eu:H ul=some (.lst us)
 fu:cQ H (Dl o wl ul) us S.up
 et:rJ A.count H ct S.tot
 op:o p
 ow:o wl
 ou:o ul
 ot:o ct
 ne:wl≠ul
 al:∀x,o x->H x≠none
def Bd (A:Cs)(H:Hp)(p a:Addr)(S:PS)(o:Own):Prop:=∃dx ch wl ul ct ws us,BAt A H p a S o dx ch wl ul ct ws us
def BAt.move {ct:Addr}(h:BAt A H p nwf S o dx ch wl ul ct ws us)(g:∀x v,H x=some v->(o x\/isT v)->H' x=some v):BAt A H' p nwf S o dx ch wl ul ct ws us:=
 ⟨g _ _ h.e (.inl h.op),g _ _ h.ec (.inr ⟨_,rfl⟩),g _ _ h.ew (.inl h.ow),h.fw.imp (λx v e z=>g x v e (z.imp_left And.left)) λ_ z=>z,g _ _ h.eu (.inl h.ou),h.fu.imp (λx v e z=>g x v e (z.imp_left And.left)) λ_ z=>z,
  let ⟨d,e⟩:=h.et;⟨d,g _ _ e (.inl h.ot)⟩,h.op,h.ow,h.ou,h.ot,h.ne,λx a=>by
   have:=h.al x a
   cases e:H x with
   |none=>exact absurd e this
   |some v=>rw[g x v e (.inl a)];simp⟩
def Bd.move (h:Bd A H p nwf S o)(g:∀x v,H x=some v->(o x\/isT v)->H' x=some v):Bd A H' p nwf S o:=
 let ⟨dx,ch,wl,ul,ct,ws,us,b⟩:=h;⟨dx,ch,wl,ul,ct,ws,us,b.move g⟩
def Bd.al (h:Bd A H p nwf S o):∀x,o x->H x≠none:=let ⟨_,_,_,_,_,_,_,b⟩:=h;b.al
def Bd.op (h:Bd A H p nwf S o):o p:=let ⟨_,_,_,_,_,_,_,b⟩:=h;b.op
def Bd.now {a:PS}(h:Bd A H p nwf S o)(c:a.m1=S.m1)(d:a.m2=S.m2)(f:a.vt=S.vt)(g:a.wt=S.wt)(i:a.up=S.up)(j:a.tot=S.tot):Bd A H p nwf a o:=by
 obtain⟨k,l,m,n,q,r,s,b⟩:=h
 exact⟨k,l,m,n,q,r,s,by rw[f];exact b.e,by rw[c,d];exact b.ec,b.ew,by rw[g];exact b.fw,b.eu,by rw[i];exact b.fu,by rw[j];exact b.et,b.op,b.ow,b.ou,b.ot,b.ne,b.al⟩
def b6D (A:Cs)(H:Hp)(nw:Addr)(vt:Nat)(o:Own):Stc->Prop
 |.free k=>∃dx,H nw=some (.ins A.free dx [("since",.int ((k:Nat):Int))])
 |.speaks n ds k=>∃dx wa r st ks t,H nw=some (.ins A.speaks dx [("wire",.ref wa),("reader",.ref r),("many",.int ((k:Nat):Int))])/\H wa=some (.lst ((wr n ds).map V.int))/\iK A.reader A.streak H r st ks ((wr n ds).take k) t/\wa≠ks/\o wa/\o r/\o st/\o ks
 |.reads h=>∃dx r st ks t,H nw=some (.ins A.reads dx [("reader",.ref r),("many",.int ((h.length:Nat):Int))])/\iK A.reader A.streak H r st ks h t/\o r/\o st/\o ks
 |.tlS v c=>∃dx tl,H nw=some (.ins A.intail dx [("tail",.ref tl),("found",.non)])/\oO A.rtail A.stail H tl vt true v c/\o tl
 |.tlR n ds v c=>∃dx tl t d,H nw=some (.ins A.intail dx [("tail",.ref tl),("found",.ref t)])/\oO A.rtail A.stail H tl vt false v c/\H t=some (.tup [.int ((n:Nat):Int),.ref d])/\H d=some (.lst (ds.map V.int))/\o tl/\o d
 |.flag l m=>∃dx,H nw=some (.ins A.flag dx [("left",.int ((l:Nat):Int)),("may_blame",.bl m)])
 |.settles m=>∃dx,H nw=some (.ins A.settles dx [("may_blame",.bl m)])
 |.rests l=>∃dx,H nw=some (.ins A.rests dx [("left",.int ((l:Nat):Int))])
 |.off=>∃dx,H nw=some (.ins A.off dx [])
structure StW (A:Cs)(H:Hp)(nw:Addr)(S:PS)(o:Own):Prop where
 at_:b6D A H nw S.vt o S.now
 on:o nw
 al:∀x,o x->H x≠none
def a0K {a:Addr}{t:Str}(h:iK C CK H r a ks w t)(b:∀v,H r=some v->H' r=some v)(c:∀v,H a=some v->H' a=some v)(f:∀v,H ks=some v->H' ks=some v):iK C CK H' r a ks w t:=
 ⟨let ⟨d,e⟩:=h.rd;⟨d,b _ e⟩,let ⟨d,e⟩:=h.sk;⟨d,c _ e⟩,f _ h.kp⟩
def StW.move (h:StW A H nw S o)(g:∀x v,H x=some v->(o x\/isT v)->H' x=some v):StW A H' nw S o:=by
 obtain⟨a,J,al⟩:=h
 have i:∀v,H nw=some v->H' nw=some v:=λv e=>g _ _ e (.inl J)
 refine⟨?_,J,λx K=>?_⟩
 ·revert a
  generalize S.now=s
  cases s with
  |free k=>intro b;obtain⟨f,e⟩:=b;exact⟨f,i _ e⟩
  |speaks n ds k=>intro b;obtain⟨f,L,r,D,E,t,e,q,u,F,j,p,y,B⟩:=b;exact⟨f,L,r,D,E,t,i _ e,g _ _ q (.inl j),a0K u (λv z=>g _ _ z (.inl p)) (λv z=>g _ _ z (.inl y)) (λv z=>g _ _ z (.inl B)),F,j,p,y,B⟩
  |reads w=>intro b;obtain⟨f,r,D,E,t,e,u,p,y,B⟩:=b;exact⟨f,r,D,E,t,i _ e,a0K u (λv z=>g _ _ z (.inl p)) (λv z=>g _ _ z (.inl y)) (λv z=>g _ _ z (.inl B)),p,y,B⟩
  |tlS v c=>intro b;obtain⟨f,G,e,⟨C,d,I,q⟩,j⟩:=b;exact⟨f,G,i _ e,⟨C,d,I,g _ _ q (.inl j)⟩,j⟩
  |tlR n ds v c=>intro b;obtain⟨f,G,t,d,e,⟨C,M,I,q⟩,u,F,j,p⟩:=b;exact⟨f,G,t,d,i _ e,⟨C,M,I,g _ _ q (.inl j)⟩,g _ _ u (.inr ⟨_,rfl⟩),g _ _ F (.inl p),j,p⟩
  |flag l m=>intro b;obtain⟨f,e⟩:=b;exact⟨f,i _ e⟩
  |settles m=>intro b;obtain⟨f,e⟩:=b;exact⟨f,i _ e⟩
  |rests l=>intro b;obtain⟨f,e⟩:=b;exact⟨f,i _ e⟩
  |off=>intro b;obtain⟨f,e⟩:=b;exact⟨f,i _ e⟩
 ·have:=al x K
  cases e:H x with
  |none=>exact absurd e this
  |some v=>rw[g x v e (.inl K)];simp
def bU (A:Cs)(H:Hp)(p:Addr)(S:PS)(o:Own):Prop:=∃nw ob os,Bd A H p nw S ob/\StW A H nw S os/\(∀x,ob x->os x->False)/\Wf S/\(∀x,ob x\/os x->o x)/\∀x,o x->H x≠none
def bU.move (h:bU A H p S o)(g:∀x v,H x=some v->(o x\/isT v)->H' x=some v):bU A H' p S o:=by
 obtain⟨c,f,j,b,s,d,w,i,al⟩:=h
 refine⟨c,f,j,b.move λx v e z=>g x v e (z.imp_left λy=>i x (.inl y)),s.move λx v e z=>g x v e (z.imp_left λy=>i x (.inr y)),d,w,i,λx a=>?_⟩
 have:=al x a
 cases e:H x with
 |none=>exact absurd e this
 |some v=>rw[g x v e (.inl a)];simp
def bU.same (h:bU A H p S o)(g:Same H H'):bU A H' p S o:=h.move λx v e _=>g x v e
def bU.wf (h:bU A H p S o):Wf S:=let ⟨_,_,_,_,_,_,w,_,_⟩:=h;w
def bU.al (h:bU A H p S o):∀x,o x->H x≠none:=let ⟨_,_,_,_,_,_,_,_,a⟩:=h;a
def at0 {v:V}:atI (v::vs) (0:Int)=some v:=gZ (j:=0) rfl
def sq0 {v:V}:seqIndex? (0:Int) (v::vs).length=some 0:=by
 unfold seqIndex?
 rw[YM]
 simp
def jR (H:Hp)(a:Addr)(x y:HO):upd (upd H a x) a y=upd H a y:=by
 funext z
 by_cases h:z=a
 ·rw[h,aB,aB]
 ·rw[aH h,aH h,aH h]
def yF (C:Addr)(f:Str):Sp:=λb H Q _=>∃a dx v,b= [.ref a,v]/\H a=some (.ins C dx [])/\∀H',H'=upd H a (.ins C dx [(f,v)])->Q .non H'
def yE (C:Addr)(f g:Str):Sp:=λb H Q _=>∃a dx v w,b= [.ref a,v,w]/\H a=some (.ins C dx [])/\∀H',H'=upd H a (.ins C dx [(f,v),(g,w)])->Q .non H'
def b3R (C:Addr)(f g h:Str):Sp:=λb H Q _=>∃a dx v w z,b= [.ref a,v,w,z]/\H a=some (.ins C dx [])/\∀H',H'=upd H a (.ins C dx [(f,v),(g,w),(h,z)])->Q .non H'
def a9N (A:Cs):Sp:=λa H Q _=>a= []/\∀r st ks H' t,iK A.reader A.streak H' r st ks [0] t->Same H H'->H r=none->H st=none->H ks=none->Q (.ref r) H'
def b2I (A:Cs)(a:Int):Sp:=λb H Q _=>∃p nwf S o,b= [.ref p]/\Bd A H p nwf S o/\Q (.bl (decide (a<=S.tot))) H
def b6Z (A:Cs):Sp:=λa H Q _=>∃p nwf S o,a= [.ref p]/\Bd A H p nwf S o/\Q (.bl (decide (0<(S.wt.length:Int)))) H
def yG (A:Cs):Sp:=λa H Q _=>∃p nwf S o f r,a= [.ref p]/\Bd A H p nwf S o/\S.wt=f::r/\FrN f/\∀pw H',H pw=none->Same H H'->H' pw=some (.lst ((wr f.1 f.2).map V.int))->Q (.ref pw) H'
def b3T (A:Cs):Sp:=λa H Q _=>∃p nwf S o,a= [.ref p]/\Bd A H p nwf S o/\S.wt≠ []/\∀H',Bd A H' p nwf { S with wt:=S.wt.tail } o->cL o H H'->Q .non H'
def a5L (A:Cs):Sp:=λa H Q _=>∃p nwf S o t d n ds,a= [.ref p,.ref t]/\Bd A H p nwf S o/\H t=some (.tup [.int ((n:Nat):Int),.ref d])/\H d=some (.lst (ds.map V.int))/\¬ o d/\S.up.length<900/\
 ∀H',Bd A H' p nwf { S with up:=if mD S n=true then S.up++[(n,ds)] else S.up } (Or2 o λx=>x=d)->cL o H H'->Q .non H'
def b3S (K:W.Frag)(A:Cs)(C:Addr):Sp:=λb H Q E=>∃p nwf S o n a ds,b= [.ref p,.int n,.ref a]/\Bd A H p nwf S o/\SqL K H a (ds.map V.int)/\ds.length<=500/\S.wt.length<900/\
 (oR n ds->∀H' d,H d=none->Bd A H' p nwf { S with wt:=S.wt++[(n.toNat,ds)] } (Or2 o λx=>x=d)->cL o H H'->Q .non H')/\(¬ oR n ds->∀H',Same H H'->False)
inductive dR (H H':Hp):List V->List Fr->Prop
 |nil:dR H H' [] []
 |cons {t d:Addr} {f:Fr} {ts:List V} {fs:List Fr}:H t=none->H d=none->H' t=some (.tup [.int ((f.1:Nat):Int),.ref d])->H' d=some (.lst (f.2.map V.int))->dR H H' ts fs->dR H H' (.ref t::ts) (f::fs)
theorem dR.snoc {d:Addr}{f:Fr}(h1:H t=none)(h2:H d=none)(e1:H' t=some (.tup [.int ((f.1:Nat):Int),.ref d]))(e2:H' d=some (.lst (f.2.map V.int))):∀{ts:List V}{fs:List Fr},dR H H' ts fs->dR H H' (ts++[.ref t]) (fs++[f])
 |_,_,.nil=> .cons h1 h2 e1 e2 .nil
 |_,_,.cons a1 a2 a3 a4 r=> .cons a1 a2 a3 a4 (r.snoc h1 h2 e1 e2)
theorem dR.same {H2:Hp}(g:Same H' H2):∀{ts:List V}{fs:List Fr},dR H H' ts fs->dR H H2 ts fs
 |_,_,.nil=> .nil
 |_,_,.cons a1 a2 a3 a4 r=> .cons a1 a2 (g _ _ a3) (g _ _ a4) (r.same g)
theorem dR.len:∀{ts:List V}{fs:List Fr},dR H H' ts fs->ts.length=fs.length
 |_,_,.nil=>rfl
 |_,_,.cons _ _ _ _ r=>YO (·+1) r.len
def a5O (K:W.Frag):Sp:=λb H Q _=>∃(a:Addr)(ts:List V)(fs:List Fr)(o:Own),b= [.ref a]/\H a=some (.lst ts)/\cQ H o ts fs/\fs.length<=900/\∀l xs H',H l=none->Same H H'->H' l=some (.lst xs)->dR H H' xs fs->Q (.ref l) H'
def a9C (A:Cs):Sp:=λa H Q _=>∃p nwf S o,a= [.ref p]/\Bd A H p nwf S o/\S.wt.length<=900/\∀l xs H',H l=none->Same H H'->H' l=some (.lst xs)->dR H H' xs S.wt->Q (.ref l) H'
def b7A (A:Cs):Sp:=λa H Q _=>∃p nwf S o,a= [.ref p]/\Bd A H p nwf S o/\S.up.length<=900/\∀l xs H',H l=none->Same H H'->H' l=some (.lst xs)->dR H H' xs S.up->Q (.ref l) H'
def a4T (A:Cs):Sp:=λa H Q _=>∃p nwf S o w nx,a= [.ref p,.str w,.ref nx]/\Bd A H p nwf S o/\(¬ 18<=S.tot->∀t H',Same H H'->H' t=some (.tup [.str w,.ref nx])->Q (.ref t) H')/\
 (18<=S.tot->∀t nw dx H',Same H H'->H nw=none->H' nw=some (.ins A.off dx [])->H' t=some (.tup [.str "off",.ref nw])->Q (.ref t) H')
def Aft (A:Cs)(H:Hp)(p a:Addr)(o:Own)(r:Str×PS)(t:Addr)(H':Hp):Prop:=∃nw' os',H' t=some (.tup [.str r.1,.ref nw'])/\Bd A H' p a r.2 o/\StW A H' nw' r.2 os'/\(∀x,os' x->H x=none)/\cL o H H'
def Stp (A:Cs)(H:Hp)(p a:Addr)(b c:Own)(r:Str×PS)(t:Addr)(H':Hp):Prop:=∃nw' ob' os',H' t=some (.tup [.str r.1,.ref nw'])/\Bd A H' p a r.2 ob'/\StW A H' nw' r.2 os'/\(∀x,ob' x->os' x->False)/\Mv (Or2 b c) H (Or2 ob' os') H'
def a9J (A:Cs):Sp:=λa H Q _=>∃p nwf S o sp,a= [.ref p,.bl sp]/\Bd A H p nwf S o/\∀t H',Aft A H p nwf o (bQ S sp) t H'->Q (.ref t) H'
def a2D (A:Cs):Sp:=λa H Q _=>∃p nwf S o sp,a= [.ref p,.bl sp]/\Bd A H p nwf S o/\∀t H',Aft A H p nwf o (cR S sp) t H'->Q (.ref t) H'
def a9M (A:Cs):Sp:=λa H Q _=>∃p nwf S o,a= [.ref p]/\Bd A H p nwf S o/\∀t H',Aft A H p nwf o (eE S) t H'->Q (.ref t) H'
def nD {o o':Own}(k:cL o H H')(n:H' x=none):o x\/H x=none:=by
 rcases Classical.em (o x) with c | c
 ·exact .inl c
 ·right
  cases e:H x with
  |none=>rfl
  |some v=>rw[k x v e (.inl c)]at n;cases n
def Aft.stp {r:Str×PS}(h:Aft A H p nwf ob r t H')(k:cL (Or2 ob os) H0 H)(b:Bd A H p nwf S ob):Stp A H0 p nwf ob os r t H':=by
 obtain⟨a,c,e,bd,d,fr,kp⟩:=h
 refine⟨a,ob,c,e,bd,d,λx hx f=>b.al x hx (fr x f),λx v ex z=>?_,λx hx=>?_⟩
 ·exact kp x v (k x v ex z) (z.imp_left λy w=>y (.inl w))
 ·rcases hx with hx | hx
  ·exact .inl (.inl hx)
  ·exact nD (o':=ob) k (fr x hx)
def Bd.count {ct:Addr}{n:Int}(b:BAt A H p nwf S o dx ch wl ul ct ws us)(c:rJ A.count H' ct n)(k:∀x,x≠ct->H' x=H x):Bd A H' p nwf { S with tot:=n } o/\cL o H H':=by
 have ne:∀{x:Addr}{v:HO},H x=some v->(∀C d,v≠ .ins C d (ctF S.tot))->x≠ct:=λ{x v} e h z=>by
  obtain⟨d,q⟩:=b.et
  rw[z,q]at e
  exact h _ _ (Yp e).symm
 have f:cL o H H':=λx v e z=>by
  rw[k x]
  ·exact e
  ·rintro rfl
   rcases z with z | ⟨u,rfl⟩
   ·exact z b.ot
   ·obtain⟨d,q⟩:=b.et
    rw[q]at e;cases e
 have g:∀{x:Addr}{l:List V},H x=some (.lst l)->H' x=some (.lst l):=λ{x l} e=>by rw[k x (ne e λC d z=>nomatch z)];exact e
 have j:∀{i:List V}{fs:List Fr},cQ H (Dl o wl ul) i fs->cQ H' (Dl o wl ul) i fs:=λ{i fs} h=>by
  induction h with
  |nil=>exact .nil
  | cons a _ ih=>
   obtain⟨d,m,r,s⟩:=a
   exact .cons ⟨d,f.tup m,g r,s⟩ ih
 refine⟨⟨dx,ch,wl,ul,ct,ws,us,?_,f.tup b.ec,g b.ew,j b.fw,g b.eu,j b.fu,c,b.op,b.ow,b.ou,b.ot,b.ne,λx t=>?_⟩,f⟩
 ·rw[k p (ne b.e λC d z=>by cases z)];exact b.e
 ·by_cases h:x=ct
  ·obtain⟨d,q⟩:=c
   rw[h,q];simp
  ·rw[k x h];exact b.al x t
def a4S (K:W.Frag):Sp:=λa H Q _=>∃(c:Addr)(m t n:Int),a= [.ref c,.int n]/\H c=some (.tup [.int m,.int t])/\Q (.bl (decide (Builtin.bitAnd n m=t))) H
def a5P (K:W.Frag)(C:Addr):Sp:=λb H Q E=>∃(a:Addr)(ns:List Int),b= [.ref a]/\SqT K H a (ns.map V.int)/\ns.length<=500/\(ns.all byt=true->∀H',Same H H'->Q .non H')/\(¬ ns.all byt=true->∀H',Same H H'->False)
def S0 (a b v:Nat):PS:=⟨a,b,v, [], [],0,.free 0⟩
def a3P (a b v:Int):Prop:=byt a=true/\byt b=true/\(v=1\/v=3\/v=5)
def yC (K:W.Frag)(A:Cs)(C:Addr):Sp:=λb H Q E=>∃(a dx ch:Addr)(m1 m2 v:Int),b= [.ref a,.ref ch,.int v]/\H a=some (.ins A.post dx [])/\H ch=some (.tup [.int m1,.int m2])/\
 (a3P m1 m2 v->∀H' o,bU A H' a (S0 m1.toNat m2.toNat v.toNat) o->(∀x,o x->x=a\/H x=none)->(∀x u,x≠a->H x=some u->H' x=some u)->Q .non H')/\(¬ a3P m1 m2 v->∀H':Hp,(∀x u,x≠a->H x=some u->H' x=some u)->False)
def Bd.grow {d:Addr}{v:HO}(h:Bd A H p nwf S o)(e:H d=some v):Bd A H p nwf S (Or2 o λx=>x=d):=by
 obtain⟨c,f,g,i,j,k,l,b⟩:=h
 refine⟨c,f,g,i,j,k,l,b.e,b.ec,b.ew,b.fw.imp (λx v e _=>e) (λx z=>⟨.inl z.1,z.2⟩),b.eu,b.fu.imp (λx v e _=>e) (λx z=>⟨.inl z.1,z.2⟩),b.et,.inl b.op,.inl b.ow,.inl b.ou,.inl b.ot,b.ne,λx hx=>?_⟩
 rcases hx with hx | hx
 ·exact b.al x hx
 ·have a:x=d:=hx
  rw[a,e];simp
def wN {ct:Addr}{ys:List V}(b:BAt A H p nwf S o dx ch wl ul ct ws us)(ha:a=wl\/a=ul):
  cL o H (upd H a (.lst ys))/\upd H a (.lst ys) p=H p/\upd H a (.lst ys) ch=H ch/\upd H a (.lst ys) ct=H ct/\(∀{ts:List V}{fs:List Fr},cQ H (Dl o wl ul) ts fs->cQ (upd H a (.lst ys)) (Dl o wl ul) ts fs)/\∀x,o x->upd H a (.lst ys) x≠none:=by
 have c:∃l,H a=some (.lst l):=ha.elim (λz=>⟨_,z▸b.ew⟩) λz=>⟨_,z▸b.eu⟩
 obtain⟨l,c⟩:=c
 have j:o a:=ha.elim (λz=>z▸b.ow) λz=>z▸b.ou
 have i:cL o H (upd H a (.lst ys)):=λx v e z=>by
  rw[aH]
  ·exact e
  ·rintro rfl
   rcases z with z | ⟨q,rfl⟩
   ·exact z j
   ·rw[c]at e;cases e
 have f:∀{x:Addr}{v:HO},H x=some v->(∀l,v≠ .lst l)->upd H a (.lst ys) x=H x:=λ{x v} e h=>by
  rw[aH]
  rintro rfl
  rw[c]at e
  exact h _ (Yp e).symm
 refine⟨i,f b.e (λl z=>nomatch z),f b.ec (λl z=>nomatch z),(let ⟨d,e⟩:=b.et;f e λl z=>nomatch z),λ{ts fs} h=>?_,λx k=>?_⟩
 ·induction h with
  |nil=>exact .nil
  | cons a' _ ih=>
   obtain⟨d,m,n,g⟩:=a'
   refine .cons ⟨d,i.tup m,?_,g⟩ ih
   rw[aH (ha.elim (λz=>z▸g.2.1) λz=>z▸g.2.2)]
   exact n
 ·by_cases h:x=a
  ·rw[h,aB];simp
  ·rw[aH h];exact b.al x k
def Stc.tag:Stc->Nat
 |.free _=>0
 |.speaks _ _ _=>1
 |.reads _=>2
 |.tlS _ _=>3
 |.tlR _ _ _ _=>3
 |.flag _ _=>4
 |.settles _=>5
 |.rests _=>6
 |.off=>7
def dD (A:Cs)(i:Nat):Sp:=λa H Q _=>∃nw S o,a= [.ref nw]/\S.now.tag=i/\StW A H nw S o/\∀t H',H t=none->Same H H'->H' t=some (.tup [.str S.now.shown.1,.int ((S.now.shown.2:Nat):Int)])->Q (.ref t) H'
def cP (A:Cs)(i:Nat):Sp:=λa H Q _=>∃nw p nwf S ob os,a= [.ref nw,.ref p]/\S.now.tag=i/\Bd A H p nwf S ob/\StW A H nw S os/\Wf S/\Q (.int (bB S)) H
def cN (A:Cs)(i:Nat):Sp:=λa H Q _=>∃nw p nwf S ob os b,a= [.ref nw,.int b,.ref p]/\S.now.tag=i/\Bd A H p nwf S ob/\StW A H nw S os/\(∀x,ob x->os x->False)/\Wf S/\(b=0\/b=1)/\S.up.length<900/\∀t H',Stp A H p nwf ob os (aZ S b) t H'->Q (.ref t) H'
structure Bef (S S':PS):Prop where
 e1:S'.m1=S.m1
 e2:S'.m2=S.m2
 e3:S'.vt=S.vt
 e4:S'.wt=S.wt
 e5:S'.up=S.up
 e6:S'.tot=S.tot
def Stp.go {os':Own}{r:Str×PS}(b:Bd A H0 p nwf S ob)(a:∀x,ob x->os x->False)(k:cL os H0 H1)(g:Same H1 H')(e:H' t=some (.tup [.str r.1,.ref nw']))(f:Bef S r.2)(d:StW A H' nw' r.2 os')(fr:∀x,os' x->os x\/H1 x=none):Stp A H0 p nwf ob os r t H':=by
 have c:Bd A H1 p nwf S ob:=b.move λx v e z=>k x v e (z.imp_left λy w=>a x y w)
 refine⟨nw',ob,os',e,(c.move λx v e _=>g x v e).now f.e1 f.e2 f.e3 f.e4 f.e5 f.e6,d,λx hx i=>?_,λx v ex z=>g x v (k x v ex (z.imp_left λy w=>y (.inr w))),λx hx=>?_⟩
 ·exact(fr x i).elim (a x hx) (c.al x hx)
 ·rcases hx with hx | hx
  ·exact .inl (.inl hx)
  ·rcases fr x hx with h | h
   ·exact .inl (.inr h)
   ·exact(nD (o':=ob) k h).imp_left .inr
def Stp.go2 {a os':Own}{r:Str×PS}(b:Bd A H1 p nwf r.2 a)(k:cL (Or2 ob os) H0 H1)(g:Same H1 H')(e:H' t=some (.tup [.str r.1,.ref nw']))(c:StW A H' nw' r.2 os')(fr:∀x,os' x->H1 x=none)(fo:∀x,a x->Or2 ob os x\/H0 x=none):Stp A H0 p nwf ob os r t H':=by
 refine⟨nw',a,os',e,b.move λx v e _=>g x v e,c,λx hx d=>b.al x hx (fr x d),λx v ex z=>g x v (k x v ex z),λx hx=>?_⟩
 rcases hx with hx | hx
 ·exact fo x hx
 ·exact nD (o':=ob) k (fr x hx)
def gP {v:HO}(e:H nw=some v)(h:b6D A H nw S.vt (λx=>x=nw) S.now):StW A H nw S (λx=>x=nw):=⟨h,rfl,λx b=>by
 have a:x=nw:=b
 rw[a,e];simp⟩
def vP (e:S.now= .free k):bB S=if S.wt= [] then 1 else if 12<=S.tot/\k<8 then 1 else 0:=by unfold bB;rw[e]
def a2G (A:Cs):Sp:=λa H Q _=>∃p S o,a= [.ref p]/\bU A H p S o/\∀t H',H t=none->Same H H'->H' t=some (.tup [.str S.now.shown.1,.int ((S.now.shown.2:Nat):Int)])->Q (.ref t) H'
def a5I (A:Cs):Sp:=λa H Q _=>∃p S o,a= [.ref p]/\bU A H p S o/\Q (.int (bB S)) H
def a5J (A:Cs):Sp:=λa H Q _=>∃p S o b,a= [.ref p,.int b]/\bU A H p S o/\(b=0\/b=1)/\S.up.length<900/\∀H' o',bU A H' p (aZ S b).2 o'->Mv o H o' H'->Q (.str (aZ S b).1) H'
def qJ {y D d:Addr}{fs a:List (Str×V)}{v:V}(f:Str)(b:H x=some (.ins C dx fs))(e:H y=some (.ins D d a))(c:fs.lookup f=some v)(g:a.lookup f=none):x≠y:=λz=>by
 rw[z,e]at b
 have:=Yp b
 injection this with _ _ h
 rw[<-h,g]at c
 cases c
def a0R {y:Addr}{fs:List (Str×V)}{l:List V}(a:H x=some (.ins C dx fs))(b:H y=some (.lst l)):x≠y:=λz=>by
 rw[z,b]at a
 cases a
def a0Z {a:Addr}{t:Str}(h:iK C CK H r a ks w t)(b:b1V H H1 r a ks)(f:o r)(g:o a)(i:o ks):cL o H H1:=λx v e z=>by
 refine b x v ?_ ?_ ?_ e
 ·rintro rfl
  rcases z with z | ⟨c,rfl⟩
  ·exact z f
  ·obtain⟨d,q⟩:=h.rd;rw[q]at e;cases e
 ·rintro rfl
  rcases z with z | ⟨c,rfl⟩
  ·exact z g
  ·obtain⟨d,q⟩:=h.sk;rw[q]at e;cases e
 ·rintro rfl
  rcases z with z | ⟨c,rfl⟩
  ·exact z i
  ·rw[h.kp]at e;cases e
def a0Y {a:Addr}{s:Bool}(h:oO C1 C2 H a v s n c)(b:a8Q H H1 a)(f:o a):cL o H H1:=λx u e z=>by
 refine b x u ?_ e
 rintro rfl
 rcases z with z | ⟨g,rfl⟩
 ·exact z f
 ·obtain⟨C,d,_,q⟩:=h;rw[q]at e;cases e
def pJ (bd:Bd A H p nwf S ob)(a:∀x,ob x->os x->False)(k:cL os H H1):Bd A H1 p nwf S ob:=bd.move λx v e z=>k x v e (z.imp_left λy w=>a x y w)
def getD_get (h:k<w.length):w.getD k 0=w[k]:=by rw[Yf,Yb h];rfl
def lM {r:Str×PS}{v:HO}(b:Bd A H0 p nwf S ob)(c:∀x,ob x->os x->False)(k:cL os H0 H1)(g:Same H1 H')(e:H' t=some (.tup [.str r.1,.ref nw']))(f:Bef S r.2)(d:H1 nw'=none)(h:H' nw'=some v)(i:b6D A H' nw' r.2.vt (λx=>x=nw') r.2.now):Stp A H0 p nwf ob os r t H':=
 Stp.go b c k g e f (gP h i) λx j=> .inr (by have a:x=nw':=j;rw[a];exact d)
def iQ (e:S.now= .free k):aZ S b=(if bB S=0 then (if b=0 then ("begins",{ S with now:= .speaks (S.wt.headD (0, [])).1 (S.wt.headD (0, [])).2 1 }) else bQ S true) else if b=0 then ("",{ S with now:= .reads [0] }) else ("",{ S with now:= .free (k+1) }):Str×PS):=by unfold aZ;rw[e]
def fC {m:Bool}(e:S.now= .flag l m):aZ S b=(if l=1 then ("",{ S with now:= .settles m }) else ("",{ S with now:= .flag (l-1) m }):Str×PS):=by unfold aZ;rw[e]
def dY {m:Bool}(e:S.now= .settles m):aZ S b=(if b=1 then ("",{ S with now:= .rests 3 }) else if m=true then eE S else ("",S):Str×PS):=by unfold aZ;rw[e]
def gK (e:S.now= .rests l):aZ S b=(if b=0 then bQ S false else ("",{ S with now:=if l=1 then .free 0 else .rests (l-1) }):Str×PS):=by unfold aZ;rw[e]
def lC (e:S.now= .off):aZ S b=(("",S):Str×PS):=by unfold aZ;rw[e]
def eQ (e:S.now= .reads h):aZ S b=(if ans (h++[b])="more" then ("",{ S with now:= .reads (h++[b]) }) else if ans (h++[b])="whole" then ("",{ S with now:= .tlR (nmB (kp (h++[b]))) (daB (kp (h++[b]))) 0 0 }) else bQ S false:Str×PS):=by unfold aZ;rw[e]
def dW (e:S.now= .speaks n ds k):aZ S b=(if ans ((wr n ds).take k++[b])="six" then bQ S true else if (wr n ds).getD k 0=1/\b=0/\(kp ((wr n ds).take k)).length<9 then ("loses",{ S with now:= .reads ((wr n ds).take k++[b]) }) else if b=(wr n ds).getD k 0 then (if k+1=(wr n ds).length then ("",{ S with now:= .tlS 0 0 }) else ("",{ S with now:= .speaks n ds (k+1) })) else bQ S true:Str×PS):=by unfold aZ;rw[e]
def jM (e:S.now= .tlS v c):aZ S b=(if bW S.vt true v c b="more" then ("",{ S with now:= .tlS (v+1) (tlN v b c) }) else if bW S.vt true v c b="fault" then bQ S true else if bW S.vt true v c b="refused" then cR S true else ("done",{ S with tot:=mvd S.tot (-1),wt:=S.wt.tail,now:= .rests 3 }):Str×PS):=by unfold aZ;rw[e]
def iC (e:S.now= .tlR n ds v c):aZ S b=(if bW S.vt false v c b="more" then ("",{ S with now:= .tlR n ds (v+1) (tlN v b c) }) else if bW S.vt false v c b="fault" then bQ S false else if bW S.vt false v c b="refused" then cR S false else ("takes",{ S with tot:=mvd S.tot (-1),up:=if mD S n=true then S.up++[(n,ds)] else S.up,now:= .rests 3 }):Str×PS):=by unfold aZ;rw[e]
structure Mid (H:Hp)(a:Addr)(v:HO)(cs:List (Addr×HO))(Hx:Hp):Prop where
 ea:Hx a=some v
 kp:∀x u,x≠a->H x=some u->Hx x=some u
 nw:∀c∈cs,H c.1=none/\c.1≠a/\Hx c.1=some c.2
 nd:(cs.map Prod.fst).Nodup
def Mid.set {v:HO}{d:List (Addr×HO)}{e:Hp}(m:Mid H a v d e)(v':HO):Mid H a v' d (upd e a v'):=
 ⟨aB,λx u f h=>by rw[aH f];exact m.kp x u f h,λc b=>⟨(m.nw c b).1,(m.nw c b).2.1,by rw[aH (m.nw c b).2.1];exact(m.nw c b).2.2⟩,m.nd⟩
def Mid.add {y:Addr}{v o:HO}{cs:List (Addr×HO)}{Hx Hy:Hp}(m:Mid H a v cs Hx)(hn:Hx y=none)(g:Same Hx Hy)(e:Hy y=some o):Mid H a v ((y,o)::cs) Hy:=by
 have b:y≠a:=λz=>by rw[z,m.ea]at hn;cases hn
 refine⟨g _ _ m.ea,λx u d h=>g _ _ (m.kp x u d h),λc hc=>?_,Xd.mpr ⟨λh=>?_,m.nd⟩⟩
 ·rcases YI.mp hc with rfl | hc
  ·refine⟨?_,b,e⟩
   cases eh:H y with
   |none=>rfl
   |some u=>rw[m.kp y u b eh]at hn;cases hn
  ·exact⟨(m.nw c hc).1,(m.nw c hc).2.1,g _ _ (m.nw c hc).2.2⟩
 ·obtain⟨c,hc,f⟩:=YR.mp h
  have:=(m.nw c hc).2.2
  rw[f,hn]at this
  cases this
def oK (b:Bd A H1 p nwf S o)(k:cL o H H1)(n:H1 x=none):H x=none:=by
 rcases nD (o':=o) k n with h | h
 ·exact absurd n (b.al x h)
 ·exact h
theorem a3F {A:Cs}{H':Hp}{p nwf nw':Addr}{S:PS}{ob' os':Own}{b:Int}(wf:Wf S)(hb:b=0\/b=1)(b':Bd A H' p nwf (aZ S b).2 ob')(s':StW A H' nw' (aZ S b).2 os')(dj':∀x,ob' x->os' x->False)
  {dp ch wl ul ct:Addr} {ws us:List V} (bb:BAt A H' p nwf (aZ S b).2 ob' dp ch wl ul ct ws us) :
  bU A (upd H' p (.ins A.post dp (pF ch (aZ S b).2.vt wl ul ct nw'))) p (aZ S b).2 (Or2 ob' os')/\cL (λx=>x=p) H' (upd H' p (.ins A.post dp (pF ch (aZ S b).2.vt wl ul ct nw'))):=by
 have f:cL (λx=>x=p) H' (upd H' p (.ins A.post dp (pF ch (aZ S b).2.vt wl ul ct nw'))):=λx v e z=>by
  rw[aH]
  ·exact e
  ·rintro rfl
   rcases z with z | ⟨t,rfl⟩
   ·exact z rfl
   ·rw[bb.e]at e;cases e
 have ne:∀{x:Addr}{v:HO},H' x=some v->x≠p->upd H' p (.ins A.post dp (pF ch (aZ S b).2.vt wl ul ct nw')) x=some v:=λe h=>by rw[aH h];exact e
 have g:∀{x:Addr}{l:List V},H' x=some (.lst l)->x≠p:=λe z=>by rw[z,bb.e]at e;cases e
 have k:∀{i:List V}{fs:List Fr},cQ H' (Dl ob' wl ul) i fs->cQ (upd H' p (.ins A.post dp (pF ch (aZ S b).2.vt wl ul ct nw'))) (Dl ob' wl ul) i fs:=λ{i fs} h=>by
  induction h with
  |nil=>exact .nil
  | cons a _ ih=>
   obtain⟨d,o,m,q⟩:=a
   exact .cons ⟨d,f.tup o,ne m (g m),q⟩ ih
 have al:∀x,Or2 ob' os' x->upd H' p (.ins A.post dp (pF ch (aZ S b).2.vt wl ul ct nw')) x≠none:=λx c=>by
  by_cases h:x=p
  ·rw[h,aB];simp
  ·rw[aH h];exact c.elim (bb.al x) (s'.al x)
 obtain⟨r,n⟩:=id bb.et
 have j:ct≠p:=qJ "total" n bb.e rfl rfl
 refine⟨⟨nw',ob',os',⟨dp,ch,wl,ul,ct,ws,us,aB,f.tup bb.ec,ne bb.ew (g bb.ew),k bb.fw,ne bb.eu (g bb.eu),k bb.fu,⟨r,ne n j⟩,bb.op,bb.ow,bb.ou,bb.ot,bb.ne,λx c=>al x (.inl c)⟩,s'.move λx v e z=>f x v e (z.imp_left λy w=>dj' x (by have s:x=p:=w;rw[s];exact bb.op) y),dj',wf.hear hb,λx c=>c,al⟩,f⟩
structure Lw (A:Cs)(H0 H:Hp)(p:Addr)(S:PS)(o:Own):Prop where
 same:Same H0 H
 fr:∀x,o x->H0 x=none
 po:bU A H p S o
def Wf.hand {f:Fr}(h:Wf S)(hf:FrN f):Wf { S with wt:=S.wt++[f] }:=by
 refine⟨h.vt,λg i=>?_,?_⟩
 ·rcases YL.mp i with z | z
  ·exact h.wt g z
  ·rw[Yk.mp z];exact hf
 ·have j:=h.now
  have e:S.wt++[f]≠ []:=by intro z;have:=(List.append_eq_nil_iff.mp z).2;cases this
  show Stc.Wf (S.wt++[f]) S.now
  revert j
  cases S.now with
  |speaks n ds k=>exact λ⟨a,b,c,d⟩=>⟨a,b,c,e⟩
  |tlS v c=>exact λ_=>e
  |free k=>exact λz=>z
  |reads h=>exact λz=>z
  |tlR n ds v c=>exact λz=>z
  |flag l m=>exact λz=>z
  |settles m=>exact λz=>z
  |rests l=>exact λz=>z
  |off=>exact λz=>z
def bU.hand (h:bU A H p S o):∃nw ob,Bd A H p nw S ob/\∀{n:Int}{ds:List Int},oR n ds->∀H' d,H d=none->Bd A H' p nw { S with wt:=S.wt++[(n.toNat,ds)] } (Or2 ob λx=>x=d)->cL ob H H'->∃o',bU A H' p { S with wt:=S.wt++[(n.toNat,ds)] } o'/\Mv o H o' H':=by
 obtain⟨nw,ob,j,bd,m,l,wf,a,al⟩:=h
 refine⟨nw,ob,bd,λ{n ds} ok H' d hd f k=>?_⟩
 have r:=gY.mp ok.1
 have q:FrN (n.toNat,ds):=⟨by show n.toNat<256;lia,ok.2.1,ok.2.2⟩
 have g:StW A H' nw S j:=m.move λx v e z=>k x v e (z.imp_left λy w=>l x w y)
 refine⟨Or2 o λx=>x=d,⟨nw,Or2 ob λx=>x=d,j,f,⟨g.at_,g.on,g.al⟩,?_,wf.hand q,?_,?_⟩,k.le λx hx=>a x (.inl hx),λx hx=>?_⟩
 ·rintro x (hx | hx) i
  ·exact l x hx i
  ·have b:x=d:=hx
   rw[b]at i
   exact al d (a d (.inr i)) hd
 ·rintro x ((hx | hx) | hx)
  ·exact .inl (a x (.inl hx))
  ·exact .inr hx
  ·exact .inl (a x (.inr hx))
 ·rintro x (hx | hx)
  ·rcases Classical.em (ob x) with c | c
   ·exact f.al x (.inl c)
   ·cases e:H x with
    |none=>exact absurd e (al x hx)
    |some v=>rw[k x v e (.inl c)];simp
  ·exact f.al x (.inr hx)
 ·rcases hx with hx | hx
  ·exact .inl hx
  ·have b:x=d:=hx
   rw[b];exact .inr hd
def b0E {v:HO}(g:Same H H1)(a:H1 p=none)(b:H1 dp=none)(j:bU A H' p S o)(f:∀x,o x->x=p\/upd (upd H1 dp (.own p)) p v x=none)(k:∀x u,x≠p->upd (upd H1 dp (.own p)) p v x=some u->H' x=some u):Lw A H H' p S o/\Same H1 H':=by
 have i:Same H1 H':=λx u e=>k x u (aP e a) (by rw[aH (aP e a),aH (aP e b)];exact e)
 refine⟨⟨g.trans i,λx l=>?_,j⟩,i⟩
 rcases f x l with h | h
 ·rw[h];exact g.none a
 ·refine g.none ?_
  by_cases c:x=p
  ·rw[c,aB]at h;cases h
  ·rw[aH c]at h
   by_cases d:x=dp
   ·rw[d,aB]at h;cases h
   ·rw[aH d]at h;exact h
def bU.bd (h:bU A H p S o):∃nw ob,Bd A H p nw S ob:=let ⟨nw,ob,_,bd,_⟩:=h;⟨nw,ob,bd⟩
def bU.cell (h:bU A H p S o):∃dx ch vt wl ul ct nw,H p=some (.ins A.post dx (pF ch vt wl ul ct nw)):=let ⟨nw,_,_,⟨dx,ch,wl,ul,ct,_,_,b⟩,_⟩:=h;⟨dx,ch,_,wl,ul,ct,nw,b.e⟩
theorem dR.at_:∀{ts:List V}{fs:List Fr},dR H H' ts fs->cQ H' (λ_=>True) ts fs
 |_,_,.nil=> .nil
 |_,_,.cons _ _ a3 a4 r=> .cons ⟨_,a3,a4,trivial⟩ r.at_
def frD (f:Fr):PyData:= .tuple [.int ((f.1:Nat):Int),.list (f.2.map .int)]
theorem cQ.dvs:∀{ts:List V}{fs:List Fr},cQ H o ts fs->DVs K H ts (fs.map frD)
 |_,_,.nil=> .nil
 |_,_,.cons ⟨_,e1,e2,_⟩ r=> .cons (.tup (Vc e1) (.cons (.int _) (.cons (DV.ints (Vb e2)) .nil))) r.dvs
def qP (fs:List Fr):SeqAt.shaped (.list (fs.map frD))=true:=a9R λd hd=>by
 obtain⟨f,_,rfl⟩:=YR.mp hd
 have h:=lay_ints f.2
 have a:=h.2
 unfold frD
 refine⟨?_,?_⟩
 ·simp only[PyData.canLay0,PyData.canLayAll0,Bool.true_and,Bool.and_true]
  have:=h.1
  simp only[PyData.canLay0]at this
  exact this
 ·have b:=W.depthAll_ints f.2
  simp only[PyData.depth,PyData.depthAll]
  lia
def b4W {lo:Own}{o u:HO}(e:H a=some o)(h:lo a)(n:¬ isT o):Mv lo H lo (upd H a u):=⟨λx v ex z=>by
 rw[aH]
 ·exact ex
 ·rintro rfl
  rcases z with z | z
  ·exact z h
  ·rw[e]at ex;cases ex;exact n z,λ_=> .inl⟩
def b0T {xs:List V}:¬ isT (.lst xs):=λ⟨_,z⟩=>by cases z
def StW.disp (e:StW A H nw S os):∃C dd fs,H nw=some (.ins C dd fs)/\(fs.lookup ("says":Str)=none/\fs.lookup ("step":Str)=none/\fs.lookup ("shown":Str)=none)/\∀f:Nat->Sp,(C=A.free/\f S.now.tag=f 0)\/(C=A.speaks/\f S.now.tag=f 1)\/(C=A.reads/\f S.now.tag=f 2)\/(C=A.intail/\f S.now.tag=f 3)\/(C=A.flag/\f S.now.tag=f 4)\/(C=A.settles/\f S.now.tag=f 5)\/(C=A.rests/\f S.now.tag=f 6)\/(C=A.off/\f S.now.tag=f 7):=by
 have a:=e.at_
 cases en:S.now
 case free k=>
  rw[en]at a
  obtain⟨dd,b⟩:=a
  exact⟨_,dd,_,b,⟨rfl,rfl,rfl⟩,λf=> .inl ⟨rfl,rfl⟩⟩
 case speaks n ds k=>
  rw[en]at a
  obtain⟨dd,o,r,d,g,i,b,_⟩:=a
  exact⟨_,dd,_,b,⟨rfl,rfl,rfl⟩,λf=> .inr (.inl ⟨rfl,rfl⟩)⟩
 case reads h=>
  rw[en]at a
  obtain⟨dd,r,d,g,i,b,_⟩:=a
  exact⟨_,dd,_,b,⟨rfl,rfl,rfl⟩,λf=> .inr (.inr (.inl ⟨rfl,rfl⟩))⟩
 case tlS v c=>
  rw[en]at a
  obtain⟨dd,j,b,_⟩:=a
  exact⟨_,dd,_,b,⟨rfl,rfl,rfl⟩,λf=> .inr (.inr (.inr (.inl ⟨rfl,rfl⟩)))⟩
 case tlR n ds v c=>
  rw[en]at a
  obtain⟨dd,j,p,q,b,_⟩:=a
  exact⟨_,dd,_,b,⟨rfl,rfl,rfl⟩,λf=> .inr (.inr (.inr (.inl ⟨rfl,rfl⟩)))⟩
 case flag l m=>
  rw[en]at a
  obtain⟨dd,b⟩:=a
  exact⟨_,dd,_,b,⟨rfl,rfl,rfl⟩,λf=> .inr (.inr (.inr (.inr (.inl ⟨rfl,rfl⟩))))⟩
 case settles m=>
  rw[en]at a
  obtain⟨dd,b⟩:=a
  exact⟨_,dd,_,b,⟨rfl,rfl,rfl⟩,λf=> .inr (.inr (.inr (.inr (.inr (.inl ⟨rfl,rfl⟩)))))⟩
 case rests l=>
  rw[en]at a
  obtain⟨dd,b⟩:=a
  exact⟨_,dd,_,b,⟨rfl,rfl,rfl⟩,λf=> .inr (.inr (.inr (.inr (.inr (.inr (.inl ⟨rfl,rfl⟩))))))⟩
 case off=>
  rw[en]at a
  obtain⟨dd,b⟩:=a
  exact⟨_,dd,_,b,⟨rfl,rfl,rfl⟩,λf=> .inr (.inr (.inr (.inr (.inr (.inr (.inr (⟨rfl,rfl⟩)))))))⟩
def jC (A:Cs)(H:Hp):List Addr->List PS->Own->Prop
 |[], [],o=>∀x,o x->H x≠none
 |p::ps,S::Ss,o=>∃o1 o2,bU A H p S o1/\jC A H ps Ss o2/\(∀x,o1 x->o2 x->False)/\(∀x,o1 x\/o2 x->o x)/\∀x,o x->H x≠none
 |_,_,_=>False
theorem jC.al:∀{ps:List Addr}{Ss:List PS}{o:Own},jC A H ps Ss o->∀x,o x->H x≠none
 |[], [],_,h=>h
 |_::_,_::_,_,⟨_,_,_,_,_,_,h⟩=>h
theorem jC.len:∀{ps:List Addr}{Ss:List PS}{o:Own},jC A H ps Ss o->ps.length=Ss.length
 |[], [],_,_=>rfl
 |_::_,_::_,_,⟨_,_,_,h,_⟩=>YO (·+1) h.len
theorem jC.move:∀{ps:List Addr}{Ss:List PS}{o:Own},jC A H ps Ss o->(∀x v,H x=some v->(o x\/isT v)->H' x=some v)->jC A H' ps Ss o
 | [], [],o,h,g=>λx hx=>by
  cases e:H x with
  |none=>exact absurd e (h x hx)
  |some v=>rw[g x v e (.inl hx)];simp
 | _::_,_::_,o,⟨o1,o2,h1,h2,dj,inc,al⟩,g=>⟨o1,o2,h1.move λx v e z=>g x v e (z.imp_left λy=>inc x (.inl y)),h2.move λx v e z=>g x v e (z.imp_left λy=>inc x (.inr y)),dj,inc,λx hx=>by
  cases e:H x with
  |none=>exact absurd e (al x hx)
  |some v=>rw[g x v e (.inl hx)];simp⟩
def jC.same {a:List PS}(h:jC A H ps a o)(g:Same H H'):jC A H' ps a o:=h.move λx v e _=>g x v e
theorem jC.get:∀{ps:List Addr}{Ss:List PS}{o:Own},jC A H ps Ss o->∀{i:Nat}{p:Addr},ps[i]? =some p->∃S oi,Ss[i]? =some S/\bU A H p S oi/\(∀x,oi x->o x)/\∀H' oi' S',Mv oi H oi' H'->bU A H' p S' oi'->∃o',jC A H' ps (Ss.set i S') o'/\Mv o H o' H'
 | q ::ps,S::Ss,o,⟨o1,o2,h1,h2,dj,inc,al⟩,0,p,hp=>by
  cases hp
  refine⟨S,o1,rfl,h1,λx hx=>inc x (.inl hx),λH' oi' S' m hP=>?_⟩
  have h2':jC A H' ps Ss o2:=h2.move λx v e z=>m.1 x v e (z.imp_left λy w=>dj x w y)
  refine⟨Or2 oi' o2,⟨oi',o2,hP,h2',λx hx hy=>?_,λx hx=>hx,λx hx=>?_⟩,⟨λx v e z=>m.1 x v e (z.imp_left λy w=>y (inc x (.inl w))),λx hx=>?_⟩⟩
  ·exact(m.2 x hx).elim (λz=>dj x z hy) λz=>h2.al x hy z
  ·rcases hx with hx | hx
   ·exact hP.al x hx
   ·exact h2'.al x hx
  ·rcases hx with hx | hx
   ·exact(m.2 x hx).imp (λz=>inc x (.inl z)) id
   ·exact .inl (inc x (.inr hx))
 | q ::ps,S::Ss,o,⟨o1,o2,h1,h2,dj,inc,al⟩,i+1,p,hp=>by
  obtain⟨S1,oi,e1,hP1,le,back⟩:=jC.get h2 (i:=i) hp
  refine⟨S1,oi,e1,hP1,λx hx=>inc x (.inr (le x hx)),λH' oi' S' m hP=>?_⟩
  obtain⟨o2',h2',m'⟩:=back H' oi' S' m hP
  have h1':bU A H' q S o1:=h1.move λx v e z=>m'.1 x v e (z.imp_left λy w=>dj x y w)
  refine⟨Or2 o1 o2',⟨o1,o2',h1',h2',λx hx hy=>?_,λx hx=>hx,λx hx=>?_⟩,⟨λx v e z=>m'.1 x v e (z.imp_left λy w=>y (inc x (.inr w))),λx hx=>?_⟩⟩
  ·exact(m'.2 x hy).elim (λz=>dj x hx z) λz=>h1.al x hx z
  ·rcases hx with hx | hx
   ·exact h1'.al x hx
   ·exact h2'.al x hx
  ·rcases hx with hx | hx
   ·exact .inl (inc x (.inl hx))
   ·exact(m'.2 x hx).imp (λz=>inc x (.inr z)) id
theorem jC.snoc (hP:bU A H' p S o1)(g:Same H H')(n:∀x,o1 x->H x=none):∀{ps:List Addr}{Ss:List PS}{o:Own},jC A H ps Ss o->jC A H' (ps++[p]) (Ss++[S]) (Or2 o o1)
  | [], [],o,h=>⟨o1,o,hP,λx hx=>by
      cases e:H x with
      |none=>exact absurd e (h x hx)
      |some v=>rw[g x v e];simp,λx hx hy=>h x hy (n x hx),λx hx=>hx.symm,λx hx=>by
      rcases hx with hx | hx
      · cases e:H x with
        |none=>exact absurd e (h x hx)
        |some v=>rw[g x v e];simp
      · exact hP.al x hx⟩
  | q :: ps,T::Ss,o,⟨oa,ob,h1,h2,dj,inc,al⟩=>⟨oa,Or2 ob o1,h1.same g,jC.snoc hP g n h2,λx hx hy=>by
      rcases hy with hy | hy
      · exact dj x hx hy
      · exact h1.al x hx (n x hy),λx hx=>by
      rcases hx with hx | hx | hx
      · exact .inl (inc x (.inl hx))
      · exact .inl (inc x (.inr hx))
      · exact .inr hx,λx hx=>by
      rcases hx with hx | hx
      · cases e:H x with
        |none=>exact absurd e (al x hx)
        |some v=>rw[g x v e];simp
      · exact hP.al x hx⟩
structure dM (H:Hp)(L:List (Addr×HO)):Prop where
 at_:∀(j:Nat)(c:Addr×HO),L[j]? =some c->H c.1=some c.2
 ap:∀(i j:Nat)(c d:Addr×HO),L[i]? =some c->L[j]? =some d->c.1=d.1->i=j
def dM.put {h:HO}(f:dM H L)(e:L[i]? =some (a,h))(h':HO):dM (upd H a h') (L.set i (a,h')):=by
 have m:i<L.length:=(Ye.mp e).1
 have b:∀(j:Nat)(c:Addr×HO),(L.set i (a,h'))[j]? =some c->(j=i/\c=(a,h'))\/(j≠i/\L[j]? =some c):=λj c z=>by
  rw[Y8]at z
  by_cases k:i=j
  ·rw[if_pos k,if_pos m]at z
   exact .inl ⟨k.symm,(Yp z).symm⟩
  ·rw[if_neg k]at z
   exact .inr ⟨λy=>k y.symm,z⟩
 refine⟨λj c z=>?_,λj k c d z y q=>?_⟩
 ·rcases b j c z with ⟨_,rfl⟩ | ⟨n,z⟩
  ·exact aB
  ·rw[aH λq=>n (f.ap j i c (a,h) z e q)]
   exact f.at_ j c z
 ·rcases b j c z with ⟨g,rfl⟩ | ⟨g,z⟩ <;> rcases b k d y with ⟨l,rfl⟩ | ⟨l,y⟩
  ·rw[g,l]
  ·exact absurd (f.ap k i d (a,h) y e q.symm) l
  ·exact absurd (f.ap j i c (a,h) z e q) g
  ·exact f.ap j k c d z y q
def dM.keep (a:dM H L)(g:∀(j:Nat)(c:Addr×HO),L[j]? =some c->H' c.1=some c.2):dM H' L:=⟨g,a.ap⟩
def dM.same (a:dM H L)(g:Same H H'):dM H' L:=a.keep λj c z=>g _ _ (a.at_ j c z)
def dM.snoc {h:HO}(hc:dM H L)(n:H a=none):dM (upd H a h) (L++[(a,h)]):=by
 have b:∀(j:Nat)(c:Addr×HO),(L++[(a,h)])[j]? =some c->(j=L.length/\c=(a,h))\/L[j]? =some c:=λj c z=>by
  by_cases k:j<L.length
  ·rw[YS k]at z
   exact .inr z
  ·rw [YF (by lia)]at z
   have f:j-L.length=0:=by
    cases e:j-L.length with
    |zero=>rfl
    |succ m=>rw[e]at z;cases z
   rw[f]at z
   exact .inl ⟨by lia,(Yp z).symm⟩
 have ne:∀(j:Nat)(c:Addr×HO),L[j]? =some c->c.1≠a:=λj c z q=>by have:=hc.at_ j c z;rw[q,n]at this;cases this
 refine⟨λj c z=>?_,λj k c d z y q=>?_⟩
 ·rcases b j c z with ⟨_,rfl⟩ | z
  ·exact aB
  ·rw[aH (ne j c z)];exact hc.at_ j c z
 ·rcases b j c z with ⟨g,rfl⟩ | z <;> rcases b k d y with ⟨i,rfl⟩ | y
  ·rw[g,i]
  ·exact absurd q.symm (ne k d y)
  ·exact absurd q (ne j c z)
  ·exact hc.ap j k c d z y q
open PyProof.Rows in
structure RS where
 (ps:List PS) (ow:List (Key×V)) (bo:List Int) (sa he:List (List Int)) (ev:List (Nat×Nat×Str))
inductive jB (H:Hp):List V->List (Nat×Nat×Str)->Prop
 |nil:jB H [] []
 |cons {t:Addr} {e:Nat×Nat×Str} {vs:List V} {es:List (Nat×Nat×Str)}:H t=some (.tup [.int ((e.1:Nat):Int),.int ((e.2.1:Nat):Int),.str e.2.2])->jB H vs es->jB H (.ref t::vs) (e::es)
theorem jB.imp (g:∀x xs,H x=some (.tup xs)->H' x=some (.tup xs)):∀{vs:List V}{es:List (Nat×Nat×Str)},jB H vs es->jB H' vs es
 |_,_,.nil=> .nil
 |_,_,.cons a r=> .cons (g _ _ a) (r.imp g)
theorem jB.snoc {e:Nat×Nat×Str}(a:H t=some (.tup [.int ((e.1:Nat):Int),.int ((e.2.1:Nat):Int),.str e.2.2])):∀{vs:List V}{es:List (Nat×Nat×Str)},jB H vs es->jB H (vs++[.ref t]) (es++[e])
 |_,_,.nil=> .cons a .nil
 |_,_,.cons b r=> .cons b (r.snoc a)
theorem jB.len:∀{vs:List V}{es:List (Nat×Nat×Str)},jB H vs es->vs.length=es.length
 |_,_,.nil=>rfl
 |_,_,.cons _ r=>YO (·+1) r.len
abbrev rF (PL OW BO SA HE EV:Addr):List (Str×V):=[("posts",.ref PL),("owners",.ref OW),("borne",.ref BO),("sayings",.ref SA),("hearings",.ref HE),("happened",.ref EV)]
def lsC (as:List Addr)(xs:List (List Int)):List (Addr×HO):=List.zipWith (λa x=>(a,HO.lst (x.map V.int))) as xs
structure Rw where
 (dx PL OW BO SA HE EV:Addr) (ps sas hes:List Addr) (evs:List V) (op:Own)
abbrev kJ (C r:Addr)(w:Rw)(R:RS):List (Addr×HO):=(r,.ins C w.dx (rF w.PL w.OW w.BO w.SA w.HE w.EV))::(w.PL,.lst (w.ps.map V.ref))::(w.OW,.dK R.ow)::(w.BO,.lst (R.bo.map V.int))::(w.SA,.lst (w.sas.map V.ref))::(w.HE,.lst (w.hes.map V.ref))::(w.EV,.lst w.evs)::(lsC w.sas R.sa++lsC w.hes R.he)
structure cG (C:Addr)(A:Cs)(H:Hp)(r:Addr)(R:RS)(o:Own)(w:Rw):Prop where
 cs:dM H (kJ C r w R)
 po:jC A H w.ps R.ps w.op
 ev:jB H w.evs R.ev
 l1:w.sas.length=R.ps.length
 l2:R.sa.length=R.ps.length
 l3:w.hes.length=R.ps.length
 l4:R.he.length=R.ps.length
 lp:R.ps.length<=5
 dj:∀x,w.op x->∀(j:Nat)(c:Addr×HO),(kJ C r w R)[j]? =some c->c.1≠x
 inc:∀x,(w.op x\/∃(j:Nat)(c:Addr×HO),(kJ C r w R)[j]? =some c/\c.1=x)->o x
 al:∀x,o x->H x≠none
def lG (C:Addr)(A:Cs)(H:Hp)(r:Addr)(R:RS)(o:Own):Prop:=∃w,cG C A H r R o w
section
variable {R:RS}{w:Rw}
def cG.move (h:cG C A H r R o w)(g:∀x v,H x=some v->(o x\/isT v)->H' x=some v):cG C A H' r R o w:=
 ⟨h.cs.keep λj c z=>g _ _ (h.cs.at_ j c z) (.inl (h.inc _ (.inr ⟨j,c,z,rfl⟩))),h.po.move λx v e z=>g x v e (z.imp_left λy=>h.inc x (.inl y)),h.ev.imp λx xs e=>g x _ e (.inr ⟨_,rfl⟩),h.l1,h.l2,h.l3,h.l4,h.lp,h.dj,h.inc,λx a=>by
  cases e:H x with
  |none=>exact absurd e (h.al x a)
  |some v=>rw[g x v e (.inl a)];simp⟩
def cG.same (h:cG C A H r R o w)(g:Same H H'):cG C A H' r R o w:=h.move λx v e _=>g x v e
def cG.er (h:cG C A H r R o w):H r=some (.ins C w.dx (rF w.PL w.OW w.BO w.SA w.HE w.EV)):=h.cs.at_ 0 _ rfl
def cG.ePL (h:cG C A H r R o w):H w.PL=some (.lst (w.ps.map V.ref)):=h.cs.at_ 1 _ rfl
def cG.eOW (h:cG C A H r R o w):H w.OW=some (.dK R.ow):=h.cs.at_ 2 _ rfl
def cG.eBO (h:cG C A H r R o w):H w.BO=some (.lst (R.bo.map V.int)):=h.cs.at_ 3 _ rfl
def cG.eSA (h:cG C A H r R o w):H w.SA=some (.lst (w.sas.map V.ref)):=h.cs.at_ 4 _ rfl
def cG.eHE (h:cG C A H r R o w):H w.HE=some (.lst (w.hes.map V.ref)):=h.cs.at_ 5 _ rfl
def cG.eEV (h:cG C A H r R o w):H w.EV=some (.lst w.evs):=h.cs.at_ 6 _ rfl
def cG.pl (h:cG C A H r R o w):w.ps.length=R.ps.length:=h.po.len
def cG.at (h:cG C A H r R o w)(a:R.ps[i]? =some S):∃p oi,w.ps[i]? =some p/\bU A H p S oi:=by
 have c:i<w.ps.length:=by rw[h.pl];exact(Ye.mp a).1
 have b:w.ps[i]? =some w.ps[i]:=Yb c
 obtain⟨f,oi,e,d,_⟩:=h.po.get b
 rw[a]at e
 cases e
 exact⟨_,oi,b,d⟩
end
def a0H {v:HO}{c:Addr×HO}(e:L[k]? =some (a,v))(h:(L.set k (a,v'))[j]? =some c):∃c',L[j]? =some c'/\c'.1=c.1:=by
 have b:k<L.length:=(Ye.mp e).1
 rw[Y8]at h
 by_cases q:k=j
 ·rw[if_pos q,if_pos b]at h
  cases h
  exact⟨(a,v),q▸e,rfl⟩
 ·rw[if_neg q]at h
  exact⟨c,h,rfl⟩
def cG.put {R R':RS}{w w':Rw}{v:HO}(h:cG C A H r R o w)(e:(kJ C r w R)[k]? =some (a,v))(p:¬ isT v)(eL:kJ C r w' R'=(kJ C r w R).set k (a,v'))(b:R'.ps=R.ps)(B:w'.ps=w.ps)(g:w'.op=w.op)(D:w'.sas.length=w.sas.length)(E:R'.sa.length=R.sa.length)(F:w'.hes.length=w.hes.length)(G:R'.he.length=R.he.length)(I:jB H w'.evs R'.ev):cG C A (upd H a v') r R' o w'/\Mv o H o (upd H a v'):=by
 have s:=h.cs.at_ k _ e
 have J:o a:=h.inc a (.inr ⟨k,_,e,rfl⟩)
 have y:∀x u,H x=some u->isT u->upd H a v' x=some u:=λx u d t=>by
  rw[aH]
  ·exact d
  ·rintro rfl
   rw[s]at d
   cases d
   exact p t
 refine⟨⟨eL▸h.cs.put e v',?_,I.imp λx xs ex=>y x _ ex ⟨_,rfl⟩,by rw[D,b];exact h.l1,by rw[E,b];exact h.l2,by rw[F,b];exact h.l3,by rw[G,b];exact h.l4,by rw[b];exact h.lp,?_,?_,?_⟩,b4W s J p⟩
 ·rw[B,g,b]
  refine h.po.move λx u d z=>?_
  rcases z with z | z
  ·rw[aH λq=>h.dj x z k _ e q.symm];exact d
  ·exact y x u d z
 ·rw[g,eL]
  intro x f j c i q
  obtain⟨l,m,n⟩:=a0H e i
  exact h.dj x f j l m (n.trans q)
 ·rw [g,eL]
  rintro x (f | ⟨j,c,i,q⟩)
  ·exact h.inc x (.inl f)
  ·obtain⟨l,m,n⟩:=a0H e i
   exact h.inc x (.inr ⟨j,l,m,n.trans q⟩)
 ·intro x f
  by_cases q:x=a
  ·rw[q,aB];simp
  ·rw[aH q];exact h.al x f
def cG.step {R:RS}{w:Rw}(h:cG C A H r R o w)(hp:w.ps[i]? =some p):∃S oi,R.ps[i]? =some S/\bU A H p S oi/\(∀x,oi x->o x)/\∀H' oi' S',Mv oi H oi' H'->bU A H' p S' oi'->∃o' op',cG C A H' r { R with ps:=R.ps.set i S' } o' { w with op:=op' }/\Mv o H o' H':=by
 obtain⟨S,oi,eS,l,le,d⟩:=h.po.get hp
 refine⟨S,oi,eS,l,λx hx=>h.inc x (.inl (le x hx)),λH' oi' S' m k=>?_⟩
 obtain⟨op',f,b⟩:=d H' oi' S' m k
 have g:∀(j:Nat)(c:Addr×HO),(kJ C r w R)[j]? =some c->¬ w.op c.1:=λj c a z=>h.dj _ z j c a rfl
 have len:(R.ps.set i S').length=R.ps.length:=Xy
 have n:cL o H H':=λx v e z=>b.1 x v e (z.imp_left λy q=>y (h.inc x (.inl q)))
 refine⟨Or2 (λx=>o x/\¬ w.op x) op',op',⟨h.cs.keep λj c a=>b.1 _ _ (h.cs.at_ j c a) (.inl (g j c a)),f,h.ev.imp λx xs e=>b.1 x _ e (.inr ⟨_,rfl⟩),h.l1.trans len.symm,h.l2.trans len.symm,h.l3.trans len.symm,h.l4.trans len.symm,by show (R.ps.set i S').length<=5;rw[len];exact h.lp,?_,?_,?_⟩,n,?_⟩
 ·intro x hx j c a q
  rcases b.2 x hx with z | z
  ·exact h.dj x z j c a q
  ·have:=h.cs.at_ j c a
   rw[q,z]at this
   cases this
 ·rintro x (hx | ⟨j,c,a,q⟩)
  ·exact .inr hx
  ·exact .inl ⟨h.inc x (.inr ⟨j,c,a,q⟩),q▸g j c a⟩
 ·rintro x (hx | hx)
  ·cases e:H x with
   |none=>exact absurd e (h.al x hx.1)
   |some v=>rw[b.1 x v e (.inl hx.2)];simp
  ·exact f.al x hx
 ·rintro x (hx | hx)
  ·exact .inl hx.1
  ·exact(b.2 x hx).imp (λz=>h.inc x (.inl z)) id
def a9B {b:Addr}{xs:List V}{m:List ((Int ⊕ Str)×V)}{v:HO}(h:SqL K H a xs)(e:H b=some (.dK m)):SqL K (upd H b v) a xs:=by
 rcases h with (h | ⟨o,h⟩) | h
 ·exact .inl (.inl ((aH λq=>by rw[q,e]at h;cases h).trans h))
 ·exact .inl (.inr ⟨o,(aH λq=>by rw[q,e]at h;cases h).trans h⟩)
 ·exact .inr h
def b7P {m:List ((Int ⊕ Str)×V)}:¬ isT (.dK m):=λ⟨_,z⟩=>by cases z
def a7J {x:List Int}(b:as[i]? =some a)(c:xs[i]? =some x):(lsC as xs)[i]? =some (a,HO.lst (x.map V.int)):=by
 unfold lsC
 rw[List.getElem?_zipWith,b,c]
def pI (h:as.length=xs.length):(lsC as xs).length=xs.length:=by
 unfold lsC
 rw[List.length_zipWith,h,Nat.min_self]
def cG.sa_at {R:RS}{w:Rw}{xs:List Int}(h:cG C A H r R o w)(b:R.sa[i]? =some xs):∃a,w.sas[i]? =some a/\(kJ C r w R)[i+7]? =some (a,.lst (xs.map V.int)):=by
 have d:i<R.sa.length:=(Ye.mp b).1
 have e:=h.l1
 have f:=h.l2
 have c:w.sas[i]? =some (w.sas[i]'(by lia)):=Yb (by lia)
 refine⟨_,c,?_⟩
 show (lsC w.sas R.sa++lsC w.hes R.he)[i]? =_
 rw[YS (by rw[pI (by lia)];exact d)]
 exact a7J c b
def cG.he_at {R:RS}{w:Rw}{xs:List Int}(h:cG C A H r R o w)(b:R.he[i]? =some xs):∃a,w.hes[i]? =some a/\(kJ C r w R)[R.ps.length+i+7]? =some (a,.lst (xs.map V.int)):=by
 have d:i<R.he.length:=(Ye.mp b).1
 have e:=h.l1
 have f:=h.l2
 have g:=h.l3
 have j:=h.l4
 have c:w.hes[i]? =some (w.hes[i]'(by lia)):=Yb (by lia)
 refine⟨_,c,?_⟩
 show (lsC w.sas R.sa++lsC w.hes R.he)[R.ps.length+i]? =_
 have k:=pI (as:=w.sas) (xs:=R.sa) (by lia)
 rw[YF (by lia),show R.ps.length+i-(lsC w.sas R.sa).length=i by lia]
 exact a7J c b
def a0W {y:List Int}(b:as[i]? =some a):lsC as (xs.set i y)=(lsC as xs).set i (a,HO.lst (y.map V.int)):=by
 unfold lsC
 apply List.ext_getElem?
 intro j
 rw[List.getElem?_zipWith,Y8,Y8,List.getElem?_zipWith]
 by_cases q:i=j
 ·subst q
  have c:i<as.length:=(Ye.mp b).1
  rw[if_pos rfl,if_pos rfl,b,List.length_zipWith]
  by_cases z:i<xs.length
  ·rw[if_pos z,if_pos (by lia)]
  ·rw[if_neg z,if_neg (by lia)]
 ·rw[if_neg q,if_neg q]
def cG.say {R:RS}{w:Rw}{xs:List Int}(h:cG C A H r R o w)(d:R.sa[i]? =some xs)(f:w.sas[i]? =some a):cG C A (upd H a (.lst (xs.map V.int++[.int b]))) r { R with sa:=R.sa.set i (xs++[b]) } o w/\Mv o H o (upd H a (.lst (xs.map V.int++[.int b]))):=by
 obtain⟨l,c,e⟩:=h.sa_at d
 rw[f]at c
 cases c
 have g:i<R.sa.length:=(Ye.mp d).1
 have m:=h.l1
 have n:=h.l2
 have j:xs.map V.int++[V.int b]=(xs++[b]).map V.int:=by rw[Yr];rfl
 have eL:lsC w.sas (R.sa.set i (xs++[b]))++lsC w.hes R.he=(lsC w.sas R.sa++lsC w.hes R.he).set i (a,.lst ((xs++[b]).map V.int)):=by
  rw[List.set_append_left _ _ (by rw[pI (by lia)];exact g),a0W f]
 rw[j]
 refine h.put (k:=i+7) (w':=w) e b0T ?_ rfl rfl rfl rfl Xy rfl rfl h.ev
 show (r,_)::(w.PL,_)::(w.OW,_)::(w.BO,_)::(w.SA,_)::(w.HE,_)::(w.EV,_)::(lsC w.sas (R.sa.set i (xs++[b]))++lsC w.hes R.he)=_
 rw[eL]
 rfl
def cG.hrd {R:RS}{w:Rw}{xs:List Int}(h:cG C A H r R o w)(d:R.he[i]? =some xs)(f:w.hes[i]? =some a):cG C A (upd H a (.lst (xs.map V.int++[.int b]))) r { R with he:=R.he.set i (xs++[b]) } o w/\Mv o H o (upd H a (.lst (xs.map V.int++[.int b]))):=by
 obtain⟨j,c,e⟩:=h.he_at d
 rw[f]at c
 cases c
 have l:i<R.he.length:=(Ye.mp d).1
 have m:=h.l1
 have n:=h.l2
 have g:xs.map V.int++[V.int b]=(xs++[b]).map V.int:=by rw[Yr];rfl
 have p:=pI (as:=w.sas) (xs:=R.sa) (by lia)
 have eL:lsC w.sas R.sa++lsC w.hes (R.he.set i (xs++[b]))=(lsC w.sas R.sa++lsC w.hes R.he).set (R.ps.length+i) (a,.lst ((xs++[b]).map V.int)):=by
  rw[List.set_append_right _ _ (by lia),show R.ps.length+i-(lsC w.sas R.sa).length=i by lia,a0W f]
 rw[g]
 refine h.put (k:=R.ps.length+i+7) (w':=w) e b0T ?_ rfl rfl rfl rfl rfl rfl Xy h.ev
 show (r,_)::(w.PL,_)::(w.OW,_)::(w.BO,_)::(w.SA,_)::(w.HE,_)::(w.EV,_)::(lsC w.sas R.sa++lsC w.hes (R.he.set i (xs++[b])))=_
 rw[eL]
 rfl
def cG.bear {R:RS}{w:Rw}(h:cG C A H r R o w):cG C A (upd H w.BO (.lst (R.bo.map V.int++[.int b]))) r { R with bo:=R.bo++[b] } o w/\Mv o H o (upd H w.BO (.lst (R.bo.map V.int++[.int b]))):=by
 have a:R.bo.map V.int++[V.int b]=(R.bo++[b]).map V.int:=by rw[Yr];rfl
 rw[a]
 exact h.put (k:=3) (w':=w) rfl b0T rfl rfl rfl rfl rfl rfl rfl rfl h.ev
def cG.happen {R:RS}{w:Rw}{e:Nat×Nat×Str}(h:cG C A H r R o w)(a:H t=some (.tup [.int ((e.1:Nat):Int),.int ((e.2.1:Nat):Int),.str e.2.2])):cG C A (upd H w.EV (.lst (w.evs++[.ref t]))) r { R with ev:=R.ev++[e] } o { w with evs:=w.evs++[.ref t] }/\Mv o H o (upd H w.EV (.lst (w.evs++[.ref t]))):=
 h.put (k:=6) (w':={ w with evs:=w.evs++[.ref t] }) rfl b0T rfl rfl rfl rfl rfl rfl rfl rfl (h.ev.snoc a)
def a5C (C:Addr)(A:Cs)(b:Addr):Sp:=λa H Q E=>∃r R o w k,a= [.ref r,.int k]/\cG C A H r R o w/\(∀(i:Nat) p,k=(i:Int)->w.ps[i]? =some p->Q (.ref p) H)/\(¬ (0<=k/\k<((R.ps.length:Nat):Int))->∀H',Same H H'->False)
def xY (C:Addr)(A:Cs):Sp:=λa H Q _=>∃r R o w,a= [.ref r]/\cG C A H r R o w/\∀l,H l=none->Q (.ref l) (upd H l (.lst w.evs))
def a5F (K:W.Frag)(C:Addr)(A:Cs)(c d e:Addr):Sp:=λb H Q E=>∃r R o w k n a ds,b= [.ref r,.int k,.int n,.ref a]/\cG C A H r R o w/\SqL K H a (ds.map V.int)/\ds.length<=500/\R.ow.length<=900/\(∀S∈R.ps,S.wt.length<900)/\
 (¬ (0<=k/\k<((R.ps.length:Nat):Int))->∀H',Same H H'->False)/\((0<=k/\k<((R.ps.length:Nat):Int))->¬ oR n ds->∀H',Same H H'->False)/\
 (∀ (i:Nat) S,k=(i:Int)->R.ps[i]? =some S->oR n ds->∃j:Int,(iI R.ow (.inl n)).getD (.int (i:Int))= .int j/\(j≠(i:Int)->∀H',Same H H'->False)/\
  (j=(i:Int)->∀H' o',lG C A H' r { R with ps:=R.ps.set i { S with wt:=S.wt++[(n.toNat,ds)] },ow:=putK R.ow (.inl n) (.int (i:Int)) } o'->Mv o H o' H'->Q .non H'))
def evt (t n:Nat)(w:Str):List (Nat×Nat×Str):=if w="" then [] else [(t,n,w)]
def rH (R R':RS)(n:Nat)(S:PS)(b:Int)(x y:List Int):RS:=
 { R' with ps:=R'.ps.set n (aZ S b).2,sa:=R'.sa.set n (x++[bB S]),he:=R'.he.set n (y++[b]),ev:=R'.ev++evt R.bo.length n (aZ S b).1 }
def aY (R:RS)(hs:List Int):Nat->RS
 |0=>R
 | n+1=>match R.ps[n]?,hs[n]?,R.sa[n]?,R.he[n]? with
  |some S,some b,some x,some y=>rH R (aY R hs n) n S b x y
  |_,_,_,_=>aY R hs n
def kY (R:RS)(a:List Int)(b:Int):RS:={ aY R a R.ps.length with bo:=R.bo++[b] }
def gM {R:RS}{x y:List Int}(e1:R.ps[n]? =some S)(e2:hs[n]? =some b)(e3:R.sa[n]? =some x)(e4:R.he[n]? =some y):aY R hs (n+1)=rH R (aY R hs n) n S b x y:=by
 show (match R.ps[n]?,hs[n]?,R.sa[n]?,R.he[n]? with
  |some S,some b,some x,some y=>rH R (aY R hs n) n S b x y
  |_,_,_,_=>aY R hs n)=_
 rw[e1,e2,e3,e4]
theorem jN (R:RS)(hs:List Int):∀n:Nat,(aY R hs n).bo=R.bo/\(aY R hs n).ow=R.ow/\(aY R hs n).ps.length=R.ps.length/\(aY R hs n).sa.length=R.sa.length/\(aY R hs n).he.length=R.he.length/\(∀j,n<=j->(aY R hs n).ps[j]? =R.ps[j]?/\(aY R hs n).sa[j]? =R.sa[j]?/\(aY R hs n).he[j]? =R.he[j]?)/\(aY R hs n).ev.length<=R.ev.length+n
 |0=>⟨rfl,rfl,rfl,rfl,rfl,λ_ _=>⟨rfl,rfl,rfl⟩,Yc _⟩
 | n + 1 => by
  obtain⟨h1,h2,h3,h4,h5,h6,h7⟩:=jN R hs n
  have go :(aY R hs (n+1)=aY R hs n)\/∃S b x y,aY R hs (n+1)=rH R (aY R hs n) n S b x y:=by
   cases e1:R.ps[n]? with
   |none=>left;show (match R.ps[n]?,hs[n]?,R.sa[n]?,R.he[n]? with | some S,some b,some x,some y=>rH R (aY R hs n) n S b x y | _,_,_,_=>aY R hs n)=_;rw[e1]
   | some S=>
    cases e2:hs[n]? with
    |none=>left;show (match R.ps[n]?,hs[n]?,R.sa[n]?,R.he[n]? with | some S,some b,some x,some y=>rH R (aY R hs n) n S b x y | _,_,_,_=>aY R hs n)=_;rw[e1,e2]
    | some b=>
     cases e3:R.sa[n]? with
     |none=>left;show (match R.ps[n]?,hs[n]?,R.sa[n]?,R.he[n]? with | some S,some b,some x,some y=>rH R (aY R hs n) n S b x y | _,_,_,_=>aY R hs n)=_;rw[e1,e2,e3]
     | some x=>
      cases e4:R.he[n]? with
      |none=>left;show (match R.ps[n]?,hs[n]?,R.sa[n]?,R.he[n]? with | some S,some b,some x,some y=>rH R (aY R hs n) n S b x y | _,_,_,_=>aY R hs n)=_;rw[e1,e2,e3,e4]
      |some y=>exact .inr ⟨S,b,x,y,gM e1 e2 e3 e4⟩
  rcases go with e | ⟨S,b,x,y,e⟩
  ·rw[e];exact⟨h1,h2,h3,h4,h5,λj hj=>h6 j (by lia),by lia⟩
  ·rw [e]
   refine⟨h1,h2,?_,?_,?_,λj hj=>⟨?_,?_,?_⟩,?_⟩
   ·show ((aY R hs n).ps.set n _).length=_;rw[Xy];exact h3
   ·show ((aY R hs n).sa.set n _).length=_;rw[Xy];exact h4
   ·show ((aY R hs n).he.set n _).length=_;rw[Xy];exact h5
   ·show ((aY R hs n).ps.set n _)[j]? =_;rw[Xb (by lia)];exact(h6 j (by lia)).1
   ·show ((aY R hs n).sa.set n _)[j]? =_;rw[Xb (by lia)];exact(h6 j (by lia)).2.1
   ·show ((aY R hs n).he.set n _)[j]? =_;rw[Xb (by lia)];exact(h6 j (by lia)).2.2
   ·show ((aY R hs n).ev++evt _ _ _).length<=_
    rw[Yd]
    have:(evt R.bo.length n (aZ S b).1).length<=1:=by unfold evt;split <;> simp
    lia
def xN (ns:List Int)(b:Int):Prop:=b∈ns/\∀z∈ns,b<=z
structure SzR (R:RS):Prop where
 bo:R.bo.length<990
 sa:∀x∈R.sa,x.length<990
 he:∀x∈R.he,x.length<990
 ev:R.ev.length<8000
 up:∀S∈R.ps,S.up.length<900
def a5D (K:W.Frag)(C:Addr)(A:Cs)(a:Addr->List V->Hp->VK->Prop):Sp:=λc H Q _=>∃r R o w f,∃hs:Int->Nat->Int,c= [.ref r,.ref f]/\cG C A H r R o w/\R.ps≠ []/\SzR R/\(∀b,xN (R.ps.map bB) b->(∀i,i<R.ps.length->∀H1,Same H H1->FnE K H1 f/\∀Q1:VK,(∀H2,Same H1 H2->Q1 (.int (hs b i)) H2)->a f [.int ((i:Nat):Int),.int ((R.bo.length:Nat):Int),.int b] H1 Q1)/\(∀i,hs b i=0\/hs b i=1)/\
 ∀H' o',lG C A H' r (kY R ((List.range R.ps.length).map (hs b)) b) o'->Mv o H o' H'->Q (.int b) H')
def nF {L2:List (Addr×HO)}{c0 c:Addr×HO}(z:(L1++c0::L2)[j]? =some c):(j=L1.length/\c=c0)\/(j<L1.length/\(L1++L2)[j]? =some c)\/(L1.length<j/\(L1++L2)[j-1]? =some c):=by
 by_cases k:j<L1.length
 ·rw[YS k]at z
  exact .inr (.inl ⟨k,by rw[YS k];exact z⟩)
 ·rw[YF (by lia)]at z
  cases e:j-L1.length with
  |zero=>rw[e]at z;exact .inl ⟨by lia,(Yp z).symm⟩
  |succ m=>rw[e]at z;exact .inr (.inr ⟨by lia,by rw[YF (by lia),show j-1-L1.length=m by lia];exact z⟩)
def dM.ins {L2:List (Addr×HO)}{h:HO}(b:dM H (L1++L2))(n:H a=none):dM (upd H a h) (L1++(a,h)::L2):=by
 have ne:∀(j:Nat)(c:Addr×HO),(L1++L2)[j]? =some c->c.1≠a:=λj c z q=>by have:=b.at_ j c z;rw[q,n]at this;cases this
 refine⟨λj c z=>?_,λj k c d z y q=>?_⟩
 ·rcases nF z with ⟨_,rfl⟩ | ⟨_,z⟩ | ⟨_,z⟩
  ·exact aB
  ·rw[aH (ne _ c z)];exact b.at_ _ c z
  ·rw[aH (ne _ c z)];exact b.at_ _ c z
 ·rcases nF z with ⟨e,rfl⟩ | ⟨e,z⟩ | ⟨e,z⟩ <;> rcases nF y with ⟨f,rfl⟩ | ⟨f,y⟩ | ⟨f,y⟩
  ·lia
  ·exact absurd q.symm (ne _ d y)
  ·exact absurd q.symm (ne _ d y)
  ·exact absurd q (ne _ c z)
  ·exact b.ap _ _ c d z y q
  ·have:=b.ap _ _ c d z y q;lia
  ·exact absurd q (ne _ c z)
  ·have:=b.ap _ _ c d z y q;lia
  ·have:=b.ap _ _ c d z y q;lia
structure Mk0 (A:Cs)(H0:Hp)(a:Addr)(H:Hp)(L:List (Addr×HO))(ps:List Addr)(Ss:List PS)(op:Own):Prop where
 cs:dM H L
 po:jC A H ps Ss op
 dj:∀x,op x->∀(j:Nat)(c:Addr×HO),L[j]? =some c->c.1≠x
 nw:∀(j:Nat)(c:Addr×HO),L[j]? =some c->c.1=a\/H0 c.1=none
 npo:∀x,op x->H0 x=none
 kp:∀x u,x≠a->H0 x=some u->H x=some u
 ha:H a≠none
def uD {c0 c:Addr×HO}(z:[c0][j]? =some c):j=0/\c=c0:=by
 cases j with
 |zero=>exact⟨rfl,(Yp z).symm⟩
 |succ j=>cases z
def Mk0.base {v:HO}(e:H a=some v):Mk0 A H a H [(a,v)] [] [] (λ_=>False):=by
 refine⟨⟨λj c z=>?_,λi j c d z y q=>?_⟩,λx b=>b.elim,λx b=>b.elim,λj c z=>?_,λx b=>b.elim,λx u _ q=>q,by rw[e];simp⟩
 ·obtain⟨_,rfl⟩:=uD z
  exact e
 ·rw[(uD z).1,(uD y).1]
 ·obtain⟨_,rfl⟩:=uD z
  exact .inl rfl
section
variable {q:Addr}{L2:List (Addr×HO)}{Ss:List PS}{op:Own}{v:HO}
def Mk0.non0 (h:Mk0 A H0 a H L ps Ss op)(n:H q=none):H0 q=none:=by
 cases e:H0 q with
 |none=>rfl
 | some u=>
  by_cases z:q=a
  ·exact absurd (z▸n) h.ha
  ·rw[h.kp q u z e]at n;cases n
def Mk0.ins (h:Mk0 A H0 a H (L1++L2) ps Ss op)(n:H q=none):Mk0 A H0 a (upd H q v) (L1++(q,v)::L2) ps Ss op:=by
 have d:=h.non0 n
 refine⟨h.cs.ins n,h.po.same (aJ n v),λx b j c z y=>?_,λj c z=>?_,h.npo,λx u b e=>?_,?_⟩
 ·rcases nF z with ⟨_,rfl⟩ | ⟨_,z⟩ | ⟨_,z⟩
  ·exact h.po.al x b (y▸n)
  ·exact h.dj x b _ c z y
  ·exact h.dj x b _ c z y
 ·rcases nF z with ⟨_,rfl⟩ | ⟨_,z⟩ | ⟨_,z⟩
  ·exact .inr d
  ·exact h.nw _ c z
  ·exact h.nw _ c z
 ·exact aJ n v _ _ (h.kp x u b e)
 ·have:=h.ha
  cases e:H a with
  |none=>exact absurd e this
  |some u=>rw[aJ n v _ _ e];simp
def Mk0.put (h:Mk0 A H0 a H ((a,v)::L) ps Ss op)(nT:¬ isT v):Mk0 A H0 a (upd H a v') ((a,v')::L) ps Ss op:=by
 have e:H a=some v:=h.cs.at_ 0 _ rfl
 have d:∀(j:Nat)(c:Addr×HO),((a,v')::L)[j]? =some c->∃b,((a,v)::L)[j]? =some b/\b.1=c.1:=λj c z=>by
  cases j with
  |zero=>cases z;exact⟨_,rfl,rfl⟩
  |succ j=>exact⟨c,z,rfl⟩
 refine⟨h.cs.put (i:=0) rfl v',h.po.move λx u f z=>?_,λx g j c z y=>?_,λj c z=>?_,h.npo,λx u g f=>?_,by rw[aB];simp⟩
 ·rw [aH λy=>?_]
  ·exact f
  ·rcases z with z | z
   ·exact h.dj x z 0 _ rfl y.symm
   ·rw[y,e]at f;cases f;exact nT z
 ·obtain⟨b,k,l⟩:=d j c z
  exact h.dj x g j b k (l.trans y)
 ·obtain⟨b,k,l⟩:=d j c z
  rw[<-l]
  exact h.nw j b k
 ·rw[aH g];exact h.kp x u g f
def Mk0.post {w:HO}(h:Mk0 A H0 a H L ps Ss op)(hp:H p=none)(hdp:H dp=none)(hP:bU A H' p S o)(hin:∀x,o x->x=p\/upd (upd H dp (.own p)) p w x=none)(hk:∀x u,x≠p->upd (upd H dp (.own p)) p w x=some u->H' x=some u):Mk0 A H0 a H' L (ps++[p]) (Ss++[S]) (Or2 op o):=by
 obtain⟨d,g⟩:=b0E (Vd H) hp hdp hP hin hk
 have b:∀x,o x->H x=none:=λx hx=>d.fr x hx
 refine⟨h.cs.same g,h.po.snoc hP g b,λx hx j c z y=>?_,h.nw,λx hx=>?_,λx u hx e=>g _ _ (h.kp x u hx e),?_⟩
 ·rcases hx with hx | hx
  ·exact h.dj x hx j c z y
  ·have:=h.cs.at_ j c z
   rw[y,b x hx]at this;cases this
 ·rcases hx with hx | hx
  ·exact h.npo x hx
  ·exact h.non0 (b x hx)
 ·have:=h.ha
  cases e:H a with
  |none=>exact absurd e this
  |some u=>rw[g _ _ e];simp
end
def wM {q:Addr}(n:Nat)(h:as.length=n):lsC (as++[q]) (List.replicate (n+1) [])=lsC as (List.replicate n [])++[(q,.lst [])]:=by
 unfold lsC
 rw[List.replicate_succ',List.zipWith_append (by rw[YD];exact h)]
 rfl
def R0 (a:List (Int×Int))(v:Int):RS:={ ps:=a.map λm=>S0 m.1.toNat m.2.toNat v.toNat,ow:=[],bo:=[],sa:=List.replicate a.length [],he:=List.replicate a.length [],ev:=[] }
def Mk0.fin {i k l m n p:Addr}{e f:List Addr}{op:Own}{b:List (Int×Int)}{v:Int}(h:Mk0 A H0 a H (kJ C a ⟨dx,i,k,l,m,n,p,ps,e,f, [],op⟩ (R0 b v)) ps (R0 b v).ps op)(l1:e.length=b.length)(l2:f.length=b.length)(q:b.length<=5):∃o,lG C A H a (R0 b v) o/\∀x,o x->x=a\/H0 x=none:=by
 have g:(R0 b v).ps.length=b.length:=Ya ..
 refine⟨λx=>op x\/∃(j:Nat)(c:Addr×HO),(kJ C a ⟨dx,i,k,l,m,n,p,ps,e,f, [],op⟩ (R0 b v))[j]? =some c/\c.1=x,⟨_,h.cs,h.po,.nil,by rw[g];exact l1,by rw[g];exact YD ..,by rw[g];exact l2,by rw[g];exact YD ..,by rw[g];exact q,h.dj,λx d=>d,λx d=>?_⟩,λx d=>?_⟩
 ·rcases d with d | ⟨j,c,z,rfl⟩
  ·exact h.po.al x d
  ·rw[h.cs.at_ j c z];simp
 ·rcases d with d | ⟨j,c,z,rfl⟩
  ·exact .inr (h.npo x d)
  ·exact h.nw j c z
def xP (H:Hp)(cl:Addr)(a:List (Int×Int)):Prop:=∃ts:List Addr,H cl=some (.lst (ts.map V.ref))/\ts.length=a.length/\∀(i:Nat)(t:Addr)(m:Int×Int),ts[i]? =some t->a[i]? =some m->H t=some (.tup [.int m.1,.int m.2])
def xP.keep {cl:Addr}{a:List (Int×Int)}(h:xP H cl a)(g:∀x u,(x=cl\/isT u)->H x=some u->H' x=some u):xP H' cl a:=by
 obtain⟨b,c,d,e⟩:=h
 exact⟨b,g _ _ (.inl rfl) c,d,λi t m z y=>g _ _ (.inr ⟨_,rfl⟩) (e i t m z y)⟩
def a5E (C:Addr)(A:Cs)(c:Addr):Sp:=λb H Q E=>∃a dx cl v ms,b= [.ref a,.ref cl,.int v]/\H a=some (.ins C dx [])/\xP H cl ms/\ms.length<=500/\
 (((1<=ms.length/\ms.length<=5)/\∀m∈ms,a3P m.1 m.2 v)->∀H' o,lG C A H' a (R0 ms v) o->(∀x,o x->x=a\/H x=none)->(∀x u,x≠a->H x=some u->H' x=some u)->Q .non H')/\
 (¬ ((1<=ms.length/\ms.length<=5)/\∀m∈ms,a3P m.1 m.2 v)->∀H':Hp,(∀x u,x≠a->H x=some u->H' x=some u)->False)
def BmK (K:W.Frag)(bm:Addr):Prop:=W.nsIn K mainGlobals "__builtins__"=some (some (.ref bm))/\bm≠builtinsNs/\bm≠mainGlobals/\∃sl,K.lookup bm=some ⟨.type "module",some builtinsNs,.plain,sl⟩
def BmK.bm {h:Heap}{bm:Addr}(X:K.In h)(G:h.Ns mainGlobals mg)(z:BmK K bm):Bm K mg bm:=by
 obtain⟨a,b,c,e,d⟩:=z
 exact⟨W.mg_of X G a,b,c,_,d,rfl,rfl,rfl⟩
def b3X (wf:Wf S):bB S=0\/bB S=1:=by
 have a:=wf.now
 have b:bB S=bB S:=rfl
 conv at b=>rhs;unfold bB
 rw[b]
 cases en:S.now with
 | speaks n ds k=>
  rw[en]at a
  dsimp only
  rw[Yf,Yb a.2.2.1]
  exact(kW a.1).wbits _ (YN _)
 |tlR n ds v c=>dsimp only;unfold fH;split <;> first | exact .inl rfl | exact .inr rfl
 |tlS v c=>dsimp only;unfold fH;split <;> first | exact .inl rfl | exact .inr rfl
 |free k=>dsimp only;(repeat' split) <;> first | exact .inl rfl | exact .inr rfl
 |flag l m=>exact .inl rfl
 |reads h=>exact .inr rfl
 |settles m=>exact .inr rfl
 |rests l=>exact .inr rfl
 |off=>exact .inr rfl
abbrev b7F:Stmt:=(gA Zdn).getD 2 (.Pass ⟨0,0,0,0⟩)
abbrev lamT:Expr:=match b7F with
 |.Return (some (.Call _ (l::_) _ _)) _=>l
 |_=> .Name "" ⟨0,0,0,0⟩
abbrev ipT:Arguments:=match lamT with
 |.Lambda a _ _ _=>a
 |_=>⟨[], [],none, [], [],none, []⟩
abbrev ibT:Expr:=match lamT with
 |.Lambda _ b _ _=>b
 |e=>e
abbrev b5H:Scope:=match lamT with
 |.Lambda _ _ s _=>s
 |_=>bM b7F
abbrev a6H:Pos:=match lamT with
 |.Lambda _ _ _ p=>p
 |_=>⟨0,0,0,0⟩
abbrev iqT:Str:=("Rail.turn":Str)++".<locals>."++"<lambda>"
def clT {L c:Addr}{f:Addr}(h:(PyProof.Rows.envOfC "Rail.turn" (bM Zdn) L f cd).cells.lookup (Str.ofString "wrong")=some c):closureFor b5H (PyProof.Rows.envOfC "Rail.turn" (bM Zdn) L f cd)=pure [(Str.ofString "wrong",c)]:=by
 have e:(PyProof.Rows.envOfC "Rail.turn" (bM Zdn) L f cd).cells.lookup (Str.ofString "wrong")=some (L+1):=rfl
 rw[e]at h
 cases h
 rfl
def scT:vA ["post","turn","bit","wrong"] ["post","turn","bit"] ["wrong"] b5H:=⟨rfl,rfl,rfl,by decide +kernel,rfl,by decide +kernel,by decide +kernel,by decide +kernel⟩
def xO (H:Hp)(f:Addr)(ws:List Int):Prop:=∃c c' wl,H f=some (oE f iqT ipT ibT b5H [("wrong",c)] c')/\H c'=some (jQ c' iqT)/\H c=some (lJ c (.ref wl))/\H wl=some (.lst (ws.map V.int))
def wrB (ws:List Int)(i b:Int):Int:=if i∈ws then 1-b else b
def b6Y:Addr->List V->Hp->VK->Prop:=λf a H Q=>∃(ws:List Int)(i t b:Int),a= [.int i,.int t,.int b]/\xO H f ws/\∀H',Same H H'->Q (.int (wrB ws i b)) H'
def xO.same {f:Addr}{ws:List Int}(h:xO H f ws)(g:Same H H'):xO H' f ws:=by
 obtain⟨c,a,b,d,e,i,j⟩:=h
 exact⟨c,a,b,g _ _ d,g _ _ e,g _ _ i,g _ _ j⟩
def a5T {P:Program}{w:World}{base:Heap}:b2U P w K mg base 2 b6Y:=by
 rintro f A d s H B C Q l m r ⟨ws,i,t,b,rfl,⟨c,D,a,n,p,h,g⟩,q⟩
 refine b0X (k:=1) (N:=["post","turn","bit","wrong"]) (ws:=[.ref a]) scT l m n p ⟨rfl,by simp,.cons h .nil⟩ rfl r (λE u=> .of_eq ?_) λx=>⟨_,(bZ (dF (aW b1Y (dv 0) (dv 3) rfl) (aV jL aG (dv 2)) (dv 2))),?_⟩
 ·rcases r with _ | ⟨F,r⟩
  rcases r with _ | ⟨G,r⟩
  rcases r with _ | ⟨I,r⟩
  cases r
  rfl
 have y:a≠c:=λz=>by rw[z,h]at g;cases g
 have hd:lX H [c] a=some (.lst (ws.map V.int)):=by rw[dH (by simpa using y)];exact g
 refine⟨λv j=>v= .int (wrB ws i b)/\j=lX H [c],?_,?_⟩
 ·refine⟨ws,(show SqA K (lX H [c]) a (ws.map V.int) from .inl (Vb hd)),?_⟩
  unfold wrB
  by_cases hm:i∈ws
  ·rw[Yj hm,if_pos hm]
   exact⟨rfl,rfl⟩
  ·rw[Yl hm,if_neg hm]
   exact⟨rfl,rfl⟩
 ·rintro v j ⟨rfl,rfl⟩
  refine q _ λz o e=>?_
  show xJ H (lX H [c]) [c] z=some o
  by_cases hz:z∈ [c]
  ·rw[a1P hz];exact e
  ·rw[iG hz,dH hz];exact e
def MvP (P:Addr)(o:Own)(H:Hp)(o':Own)(H':Hp):Prop:=Mv (Or2 o λx=>x=P) H (Or2 o' λx=>x=P) H'
def kI (P:Addr)(o:Own)(H:Hp):Prop:=¬ o P/\∃ps,H P=some (.tbl ps)/\TriplesOk ps.toList/\(codeAmong a6H ps.toList=none\/∃c',codeAmong a6H ps.toList=some (.ref c')/\H c'=some (jQ c' iqT)/\¬ o c')
def kI.tabP (h:kI P o H):a3O P a6H iqT H:=by
 obtain⟨_,c,d,e,f⟩:=h
 exact⟨c,d,e,f.imp id λ⟨g,a,b,_⟩=>⟨g,a,b⟩⟩
def kI.same (h:kI P o H)(g:Same H H'):kI P o H':=by
 obtain⟨n,d,e,f,i⟩:=h
 exact⟨n,d,g _ _ e,f,i.imp id λ⟨j,a,b,c⟩=>⟨j,a,g _ _ b,c⟩⟩
def kI.mv (h:kI P o H)(m:Mv o H o' H'):kI P o' H':=by
 obtain⟨n,e,d,f,g⟩:=h
 refine⟨λz=>(m.2 _ z).elim n λy=>(by rw[d]at y;cases y),e,m.1 _ _ d (.inl n),f,g.imp id λ⟨i,a,b,c⟩=>⟨i,a,m.1 _ _ b (.inl c),λz=>(m.2 _ z).elim c λy=>by rw[b]at y;cases y⟩⟩
def kI.mv2 {d:Own}(h:kI P (Or2 o d) H)(m:Mv o H o' H'):kI P (Or2 o' d) H':=by
 obtain⟨n,f,e,g,i⟩:=h
 refine⟨λz=>?_,f,m.1 _ _ e (.inl λz=>n (.inl z)),g,i.imp id λ⟨j,a,b,c⟩=>⟨j,a,m.1 _ _ b (.inl λz=>c (.inl z)),λz=>?_⟩⟩
 ·rcases z with z | z
  ·rcases m.2 _ z with y | y
   ·exact n (.inl y)
   ·rw[e]at y;cases y
  ·exact n (.inr z)
 ·rcases z with z | z
  ·rcases m.2 _ z with y | y
   ·exact c (.inl y)
   ·rw[b]at y;cases y
  ·exact c (.inr z)
def kI.own {d:Own}(h:kI P o H)(g:∀x,d x->o x):kI P d H:=by
 obtain⟨n,e,f,i,j⟩:=h
 exact⟨λz=>n (g _ z),e,f,i,j.imp id λ⟨k,a,b,c⟩=>⟨k,a,b,λz=>c (g _ z)⟩⟩
def b2L {a:Array Value}:¬ isT (.tbl a):=λ⟨_,z⟩=>by cases z
def wrL (ws:List Int)(n:Nat)(b:Int):List Int:=(List.range n).map λi=>wrB ws ((i:Nat):Int) b
def a5B (C:Addr)(A:Cs)(c P:Addr):Sp:=λa H Q E=>∃r R o w wl ws ox,a= [.ref r,.ref wl]/\H wl=some (.lst (ws.map V.int))/\ws.length<=500/\cG C A H r R o w/\R.ps≠ []/\SzR R/\kI P (Or2 o ox) H/\(∀x,ox x->H x≠none)/\
 ((∀x∈ws,0<=x/\x<((R.ps.length:Nat):Int))->∀b H' o',xN (R.ps.map bB) b->lG C A H' r (kY R (wrL ws R.ps.length b) b) o'->kI P (Or2 o' ox) H'->MvP P o H o' H'->Q (.int b) H')/\
 (¬ (∀x∈ws,0<=x/\x<((R.ps.length:Nat):Int))->∀H',Same H H'->False)
def b6M {ws:List Int}{i:Int}(h:b=0\/b=1):wrB ws i b=0\/wrB ws i b=1:=by
 unfold wrB
 by_cases z:i∈ws
 ·rw[if_pos z];lia
 ·rw[if_neg z];exact h
def cG.says {R:RS}{w:Rw}(h:cG C A H r R o w)(a:b∈R.ps.map bB):b=0\/b=1:=by
 obtain⟨S,c,rfl⟩:=YR.mp a
 obtain⟨i,d,e⟩:=XI c
 obtain⟨p,g,_,f⟩:=h.at (i:=i) (S:=S) (by rw[Yb d,e])
 exact b3X f.wf
def tY (C:Addr)(A:Cs)(b:Addr)(g:PS->Hp->VK->Prop):Sp:=λa H Q E=>∃r R o w k,a= [.ref r,.int k]/\cG C A H r R o w/\(∀(i:Nat) S,k=(i:Int)->R.ps[i]? =some S->g S H Q)/\(¬ (0<=k/\k<((R.ps.length:Nat):Int))->∀H',Same H H'->False)
def b1H:PS->Hp->VK->Prop:=λS H Q=>∀t H',H t=none->Same H H'->H' t=some (.tup [.str S.now.shown.1,.int ((S.now.shown.2:Nat):Int)])->Q (.ref t) H'
def gB (a:Int):PS->Hp->VK->Prop:=λS H Q=>Q (.bl (decide (a<=S.tot))) H
def b5K:PS->Hp->VK->Prop:=λS H Q=>S.wt.length<=900/\∀l xs H',H l=none->Same H H'->H' l=some (.lst xs)->dR H H' xs S.wt->Q (.ref l) H'
def c0M:PS->Hp->VK->Prop:=λS H Q=>S.up.length<=900/\∀l xs H',H l=none->Same H H'->H' l=some (.lst xs)->dR H H' xs S.up->Q (.ref l) H'
def a3A {ns:List Int}(h:∀z∈ns,z=0\/z=1)(l:xN ns b):b=if (0:Int)∈ns then 0 else 1:=by
 by_cases c:(0:Int)∈ns
 ·rw[if_pos c]
  have:=l.2 0 c
  rcases h b l.1 with z | z <;> lia
 ·rw[if_neg c]
  rcases h b l.1 with z | z
  ·exact absurd (z▸l.1) c
  ·exact z
structure Row where
 (st:Str) (k:Nat) (said bit:Int) (w:Str) (c:Int)
structure Tn (S:PS)(r:Row)(S':PS):Prop where
 sh:S.now.shown=(r.st,r.k)
 sa:bB S=r.said
 bt:r.bit=0\/r.bit=1
 hr:aZ S r.bit=(r.w,S')
 ct:S'.tot=r.c
def b6O (e:S.now= .speaks n ds k)(f:FrN (n,ds))(a:k<(wr n ds).length):Tn S ⟨"speaks",k,(wr n ds).getD k 0,(wr n ds).getD k 0,"",S.tot⟩ { S with now:=if k+1=(wr n ds).length then .tlS 0 0 else .speaks n ds (k+1) }:=by
 have W:=kW f
 have b:(wr n ds).getD k 0=(wr n ds)[k]:=getD_get a
 have g:(wr n ds).take k++[(wr n ds).getD k 0]=(wr n ds).take (k+1):=by rw[b,Yg a]
 refine⟨by rw[e];rfl,by unfold bB;rw[e],?_,?_,rfl⟩
 ·show (wr n ds).getD k 0=0\/(wr n ds).getD k 0=1
  rw[b]
  exact W.wbits _ (YN a)
 show aZ S ((wr n ds).getD k 0)=_
 rw[dW e,g]
 have h:¬ ans ((wr n ds).take (k+1))="six":=by
  by_cases c:k+1=(wr n ds).length
  ·rw[c,Yi (Yc _),W.whole];decide +kernel
  ·rw[W.more (by lia)];decide +kernel
 rw[if_neg h,if_neg (by rintro ⟨i,d,_⟩;rw[i]at d;exact absurd d (by decide)),if_pos rfl]
 by_cases c:k+1=(wr n ds).length
 ·rw[if_pos c,if_pos c]
 ·rw[if_neg c,if_neg c]
structure Part (w1 w2:List Int)(k:Nat):Prop where
 tk:w1.take k=w2.take k
 h1:k<w1.length
 one:w1.getD k 0=1
 zero:w2.getD k 0=0
 k1:1<=k
 k16:k<=16
 nine:(kp (w1.take k)).length<9
def a6S {c a d:List Int}(e:c≠ [])(j:c.length<=8):Part (put (c++1::a)) (put (c++0::d)) (put c).length:=by
 obtain⟨f,h⟩:=Wm.put_pre c 1 a
 obtain⟨k,i⟩:=Wm.put_pre c 0 d
 have l:=mR c
 have m:1<=c.length:=List.length_pos_iff.mpr e
 have t:∀(b:Int)(s:List Int),(put c++b::s).take (put c).length=put c:=λb s=>by rw[YU (Yc _),Yi (Yc _)]
 have g:∀(b:Int)(s:List Int),(put c++b::s).getD (put c).length 0=b:=λb s=>by rw[Yf,YF (Yc _),Nat.sub_self];rfl
 rw[h,i]
 refine⟨by rw[t,t],by rw[Yd];show _<_+(f.length+1);lia,g _ _,g _ _,by lia,by lia,?_⟩
 rw[t,a7K]
 lia
def a8S {g s:Nat}{d:List Int}(i:s<8)(h:∀j,s<j->n1.testBit j=g.testBit j)(l:n1.testBit s=true)(m:g.testBit s=false):∃k,Part (wr n1 ds1) (wr g d) k:=by
 obtain⟨c,o,p,q,u,A⟩:=Wm.bitsI_split i h l m
 have f:∀(n:Nat)(a:List Int)(b:Int)(t:List Int),bJ n 8=c++b::t->∃r,fb (n:Int) a=(0::c)++b::r:=λn a b t e=>by
  refine⟨t++bJ a.length 3++(a.map b8).flatten++ck (hd (n:Int) a),?_⟩
  have v:hd (n:Int) a= [0]++b8 (n:Int)++bJ a.length 3++(a.map b8).flatten:=rfl
  have w:b8 (n:Int)=c++b::t:=by unfold b8;rw[YJ];exact e
  show hd (n:Int) a++ck (hd (n:Int) a)=_
  generalize ck (hd (n:Int) a)=z
  rw[v,w]
  simp only[YC,List.cons_append,List.nil_append]
 obtain⟨B,x⟩:=f n1 ds1 1 o q
 obtain⟨C,y⟩:=f g d 0 p u
 refine⟨(put (0::c)).length,?_⟩
 show Part (put (fb (n1:Int) ds1)) (put (fb (g:Int) d)) _
 rw[x,y]
 exact a6S (by intro z;cases z) (by rw[YM];lia)
theorem a0D:∀(k a b:Nat),a<2 ^ k->b<a->∃s,s<k/\(∀j,s<j->a.testBit j=b.testBit j)/\a.testBit s=true/\b.testBit s=false
 |0,a,b,h,h2=>by rw[Nat.pow_zero]at h;lia
 | k + 1,a,b,h,h2=>by
  rw[Xm]at h
  by_cases c:b / 2<a / 2
  ·obtain⟨s,s1,s2,s3,s4⟩:=a0D k (a / 2) (b / 2) (by lia) c
   refine⟨s+1,by lia,λj hj=>?_,by rw[Xw];exact s3,by rw[Xw];exact s4⟩
   cases j with
   |zero=>lia
   |succ j=>rw[Xw,Xw];exact s2 j (by lia)
  ·have e:a / 2=b / 2:=by lia
   refine⟨0,by lia,λj hj=>?_,?_,?_⟩
   ·cases j with
    |zero=>lia
    |succ j=>rw[Xw,Xw,e]
   ·rw[Nat.testBit_zero];exact Yj (by lia)
   ·rw[Nat.testBit_zero];exact Yl (by lia)
def b1E (R:RS)(a:List Int)(n:Nat):(aY R a (n+1)=aY R a n/\¬ ∃S b x y,R.ps[n]? =some S/\a[n]? =some b/\R.sa[n]? =some x/\R.he[n]? =some y)\/∃S b x y,R.ps[n]? =some S/\a[n]? =some b/\R.sa[n]? =some x/\R.he[n]? =some y/\aY R a (n+1)=rH R (aY R a n) n S b x y:=by
 by_cases c:∃S b x y,R.ps[n]? =some S/\a[n]? =some b/\R.sa[n]? =some x/\R.he[n]? =some y
 ·obtain⟨S,b,x,y,d,e,f,g⟩:=c
  exact .inr ⟨S,b,x,y,d,e,f,g,gM d e f g⟩
 ·refine .inl ⟨?_,c⟩
  show (match R.ps[n]?,a[n]?,R.sa[n]?,R.he[n]? with | some S,some b,some x,some y=>rH R (aY R a n) n S b x y | _,_,_,_=>aY R a n)=_
  split
  ·rename_i S b x y d e f g
   exact absurd ⟨S,b,x,y,d,e,f,g⟩ c
  ·rfl
theorem a1D {R:RS}{x y:List Int}(e1:R.ps[j]? =some S)(e2:hs[j]? =some b)(e3:R.sa[j]? =some x)(e4:R.he[j]? =some y):∀n,j<n->(aY R hs n).ps[j]? =some (aZ S b).2/\(aY R hs n).sa[j]? =some (x++[bB S])/\(aY R hs n).he[j]? =some (y++[b])
 |0,h=>absurd h (Xz _)
 | n + 1, h=>by
  by_cases c:j=n
  ·subst c
   obtain⟨g1,g2,g3,g4,g5,g6,g7⟩:=jN R hs j
   rw[gM e1 e2 e3 e4]
   have a1:=(Ye.mp e1).1
   have a3:=(Ye.mp e3).1
   have a4:=(Ye.mp e4).1
   refine⟨?_,?_,?_⟩
   ·show ((aY R hs j).ps.set j _)[j]? =_
    rw[Y8,if_pos rfl,if_pos (by lia)]
   ·show ((aY R hs j).sa.set j _)[j]? =_
    rw[Y8,if_pos rfl,if_pos (by lia)]
   ·show ((aY R hs j).he.set j _)[j]? =_
    rw[Y8,if_pos rfl,if_pos (by lia)]
  ·obtain⟨q1,q2,q3⟩:=a1D e1 e2 e3 e4 n (by lia)
   rcases b1E R hs n with ⟨e,_⟩ | ⟨S',b',x',y',_,_,_,_,e⟩
   ·rw[e];exact⟨q1,q2,q3⟩
   ·rw [e]
    refine⟨?_,?_,?_⟩
    ·show ((aY R hs n).ps.set n _)[j]? =_
     rw[Xb λz=>c z.symm];exact q1
    ·show ((aY R hs n).sa.set n _)[j]? =_
     rw[Xb λz=>c z.symm];exact q2
    ·show ((aY R hs n).he.set n _)[j]? =_
     rw[Xb λz=>c z.symm];exact q3
def a7H {x:Nat}(h:x<2 ^ (k+1))(t:x.testBit k=false):x<2 ^ k:=by
 rcases Nat.lt_or_ge x (2 ^ k) with z | z
 ·exact z
 ·have p:=XR k
  have c:x / 2 ^ k=1:=by
   have a:1<=x / 2 ^ k:=(Nat.le_div_iff_mul_le p).mpr (by lia)
   have b:x / 2 ^ k<2:=Nat.div_lt_of_lt_mul (by rw[Xm]at h;exact h)
   lia
  rw[YV,c]at t
  exact absurd t (by decide)
def dvS (x k:Nat):Nat:=if x.testBit k=true then x ^^^ 64647 <<< (k-15) else x
def b5Q {x N:Nat}(a:15<=k)(b:k<=90)(h:x<2 ^ (k+1))(e:R x=N):dvS x k<2 ^ k/\R (dvS x k)=N:=by
 unfold dvS
 by_cases c:x.testBit k=true
 ·rw [if_pos c]
  refine⟨a7H ?_ ?_,by rw[a8N (by lia)];exact e⟩
  ·refine Ja h ?_
   rw[Xh,show k+1=16+(k-15) by lia,Nat.pow_add]
   exact Nat.mul_lt_mul_of_pos_right (by decide) (XR _)
  ·rw[XO,c,XU,show k-(k-15)=15 by lia,Yj (by lia)]
   decide
 ·rw[if_neg c]
  exact⟨a7H h (Bool.not_eq_true _▸c),e⟩
def dvN (x:Nat):Nat->Nat
 |0=>x
 |i+1=>dvS (dvN x i) (90-i)
theorem zH {x:Nat}(h:x<2 ^ 91):∀i,i<=76->dvN x i<2 ^ (91-i)/\R (dvN x i)=R x
 |0,_=>⟨h,rfl⟩
 | i+1,hi=>by
  obtain⟨a,b⟩:=zH h i (by lia)
  have:=b5Q (x:=dvN x i) (k:=90-i) (by lia) (by lia) (by rw[show 90-i+1=91-i by lia];exact a) b
  rw[show 91-(i+1)=90-i by lia]
  exact this
def b2N {d:Int}(h:byt d=true):nm (b8 d)=d.toNat:=by
 have:=gY.mp h
 exact fY (by show d.toNat<256;lia)
def b4U (d:n<256)(c:k<8):nm (hdD ((n:Nat):Int) k [])=n*8+k:=by
 unfold hdD
 rw[List.map_nil,List.flatten_nil,YH,qI (gC (λb a=> .inl (Yk.mp a)) (nY _)) (gO _ _),bV,fY (show k<2 ^ 3 from c),qI (λb a=> .inl (Yk.mp a)) (nY _),b2N (gY.mpr ⟨by lia,by lia⟩),YJ]
 have:nm [0]=0:=rfl
 rw[this]
 lia
def b4T {n:Int}{d:Int}(h:byt d=true):nm (hdD n k (ds++[d]))=nm (hdD n k ds)*256+d.toNat:=by
 rw[wQ,qI (nJ _ _ _) (nY _),jK,b2N h,XT]
def b2R {n:Int}(a:ds.length<=7):nm (hd n ds)*32768<2 ^ 91:=by
 have h:=mF (nJ n ds.length ds)
 rw[pK]at h
 have b:2 ^ (12+8*ds.length)<=2 ^ 68:=Yv (by decide) (by lia)
 show nm (hdD n ds.length ds)*32768<2 ^ 91
 lia
def b5P {n:Int}(c:ds.length<=7):dvN (nm (hd n ds)*32768) 76=ckn (hd n ds):=by
 obtain⟨a,b⟩:=zH (b2R (n:=n) c) 76 (by decide)
 have e:ckn (hd n ds)=R (nm (hd n ds)*32768):=by
  unfold ckn rst
  rw[qI (nH _ _) (tO 15),b2M,Nat.add_zero,show (zs 15).length=15 from rfl,XT]
 rw[e,<-b,pM a]
def b7Q {n:Int}:nm (fb n ds)=nm (hd n ds)*32768+ckn (hd n ds):=by
 unfold fb
 rw[qI (nH _ _) (a1O _),zL,XT]
 unfold ck
 rw[fY (yK _)]
def b5M {n:Int}(h:i<27+8*ds.length):(fb n ds)[i]? =some (fL (nm (fb n ds)) (26+8*ds.length-i)):=by
 have e:=a8M (pL n ds)
 have a:=mJ n ds
 rw[a]at e
 rw[<-e,fY (by have:=mF (pL n ds);rw[a]at this;exact this)]
 unfold bJ
 rw[Yo,X3 h,X1,show 27+8*ds.length-1-i=26+8*ds.length-i by lia]
def rB (x k:Nat):Builtin.bitAnd ((x:Int) / 2 ^ (k:Int).toNat) 1=fL x k:=b2T x k
def a2J (h:l<=7):Builtin.Range.rangeSize ((26:Int)+8*((l:Nat):Int)) (-1) (-1)=((27+8*l:Nat):Int):=by
 have:l=0\/l=1\/l=2\/l=3\/l=4\/l=5\/l=6\/l=7:=by lia
 rcases this with rfl | rfl | rfl | rfl | rfl | rfl | rfl | rfl <;> decide
def a9Q (h:l<=7):Builtin.divisionGoesByPylong (-1-((26:Int)+8*((l:Nat):Int))) (-1)=false:=by
 have:l=0\/l=1\/l=2\/l=3\/l=4\/l=5\/l=6\/l=7:=by lia
 rcases this with rfl | rfl | rfl | rfl | rfl | rfl | rfl | rfl <;> decide
def yH (h:l<=7):Builtin.Range.small ((26:Int)+8*((l:Nat):Int)) (-1) (-1)=true:=by
 have:l=0\/l=1\/l=2\/l=3\/l=4\/l=5\/l=6\/l=7:=by lia
 rcases this with rfl | rfl | rfl | rfl | rfl | rfl | rfl | rfl <;> decide
def b9S (h:n<=9000):n<sizeLine:=XS h (by decide)
def a6C:∀l:List Int,4*(put l).length+run (put l)<=5*l.length:=by
 refine snoc_ind (P:=λl=>4*(put l).length+run (put l)<=5*l.length) (by decide) (λw b ih=>?_)
 rw[fW,Yd,Yt]
 unfold pst
 have a:run (put w++[b])<=run (put w)+1:=pZ
 split
 ·rename_i c
  rw[run_snoc,last_snoc,if_neg (uG b),Yd,Yd,Yt,Yt]
  lia
 ·rw[Yd,Yt]
  lia
def tz (w:List Int):Nat:=if (Wm.sk w).1=some 0 then Wm.run w else 0
def vQ (w:List Int):Wm.run (w++[0])=tz w+1:=by
 unfold tz
 rw[Wm.run_snoc]
 split <;> rfl
def a8W (w:List Int):tz (w++[0])=tz w+1:=by
 rw[<-vQ]
 exact if_pos (Wm.last_snoc w 0)
def mZ:("more":Str)≠"fault"/\("fault":Str)≠"more"/\("refused":Str)≠"more"/\("refused":Str)≠"fault"/\("more":Str)≠"six"/\("whole":Str)≠"more":=by decide +kernel
def iJ (s:List PS):Int:=if (0:Int)∈s.map bB then 0 else 1
def hrd (wp:Option Nat)(b:Int)(i:Nat):Int:=if wp=some i then 1-b else b
def cT (wp:Option Nat)(s:List PS):List PS:=s.mapIdx λi S=>(aZ S (hrd wp (iJ s) i)).2
def jG {s:List PS}:(cT wp s).length=s.length:=List.length_mapIdx
def tX {s:List PS}{c:PS}(h:(cT wp s)[i]? =some c):∃S,s[i]? =some S/\c=(aZ S (hrd wp (iJ s) i)).2:=by
 unfold cT at h
 rw[Xs]at h
 obtain⟨S,a,b⟩:=YG.mp h
 exact⟨S,a,b.symm⟩
def jT {s:List PS}(h:s[i]? =some S):(cT wp s)[i]? =some (aZ S (hrd wp (iJ s) i)).2:=by
 unfold cT
 rw[Xs,h]
 rfl
def nW {s:List PS}(h:s[i]? =some S)(e:bB S=0):iJ s=0:=if_pos (YR.mpr ⟨S,Yu h,e⟩)
def uU {s:List PS}(h:∀(i:Nat)(S:PS),s[i]? =some S->bB S≠0):iJ s=1:=if_neg λz=>by
 obtain⟨S,a,e⟩:=YR.mp z
 obtain⟨i,b⟩:=Xg.mp a
 exact h i S b e
def qG (a:FrN (n1,ds1))(h:n<n1):∃k,Part (wr n1 ds1) (wr n ds) k:=by
 obtain⟨s,b,c,d,e⟩:=a0D 8 n1 n a.1 h
 exact a8S b c d e
def pQ {a b:List Int}(h:a.take j=b.take j)(c:k<j):a.getD k 0=b.getD k 0:=by
 have:(a.take j).getD k 0=(b.take j).getD k 0:=by rw[h]
 rw[Yf,Yf,Y9 c,Y9 c]at this
 rw[Yf,Yf]
 exact this
def take_snoc (h:j<w.length):w.take (j+1)=w.take j++[w.getD j 0]:=by rw[Yg h,getD_get h]
def rZ (f:FrN (n,ds))(a:FrN (n1,ds1))(h:n<n1)(e:(wr n1 ds1).take j=(wr n ds).take j)(b:j<(wr n ds).length):
  j<=16/\j<(wr n1 ds1).length/\(((wr n1 ds1).getD j 0=(wr n ds).getD j 0/\(wr n1 ds1).take (j+1)=(wr n ds).take (j+1)/\j+1<(wr n1 ds1).length)\/((wr n1 ds1).getD j 0=1/\(wr n ds).getD j 0=0/\(kp ((wr n1 ds1).take j)).length<9)):=by
 obtain⟨k,p⟩:=qG (ds:=ds) a h
 have jk:j<=k:=by
  by_cases c:k<j
  ·have:=pQ e c
   rw[p.one,p.zero]at this
   cases this
  ·lia
 have d:=p.k16
 have i:=p.h1
 have l1:=(kO a).1
 refine⟨by lia,by lia,?_⟩
 by_cases c:j=k
 ·subst c
  exact .inr ⟨p.one,p.zero,p.nine⟩
 ·left
  have g:=pQ p.tk (show j<k by lia)
  refine⟨g,?_,by lia⟩
  rw[take_snoc (show j<(wr n1 ds1).length by lia),take_snoc b,e,g]
def a8T (a:FrN (n,ds))(b:j<(wr n ds).length):ans ((wr n ds).take j)="more":=(kW a).more b
def a4A (a:FrN (n,ds))(b:j<(wr n ds).length):ans ((wr n ds).take (j+1))=if j+1=(wr n ds).length then ("whole":Str) else ("more":Str):=by
 split
 ·rename_i e
  rw[e,Yi (Yc _)]
  exact(kW a).whole
 ·exact a8T a (by lia)
def yI:("whole":Str)≠"six"/\("more":Str)≠"six"/\("more":Str)≠"whole"/\("six":Str)≠"more"/\("six":Str)≠"whole":=by decide +kernel
def a0A (a:FrN (n,ds))(b:j<(wr n ds).length):ans ((wr n ds).take (j+1))≠"six":=by
 rw[a4A a b]
 split
 ·exact yI.1
 ·exact yI.2.1
def a5Z (e:S.now= .speaks n ds j)(b:FrN (n,ds))(a:j<(wr n ds).length):(aZ S ((wr n ds).getD j 0)).2={ S with now:=if j+1=(wr n ds).length then .tlS 0 0 else .speaks n ds (j+1) }:=by
 rw[dW e,<-take_snoc a,if_neg (a0A b a),if_neg (λz=>by rw[z.1]at z;exact absurd z.2.1 (by decide)),if_pos rfl]
 split <;> rfl
def a5Y (e:S.now= .reads ((wr n ds).take j))(a:FrN (n,ds))(d:j<(wr n ds).length):(aZ S ((wr n ds).getD j 0)).2={ S with now:=if j+1=(wr n ds).length then .tlR n ds 0 0 else .reads ((wr n ds).take (j+1)) }:=by
 rw[eQ e,<-take_snoc d,a4A a d]
 by_cases c:j+1=(wr n ds).length
 ·have b:kp (wr n ds)=fb (n:Int) ds:=(kW a).kp
  rw[if_pos c,if_pos c,if_neg yI.2.2.1.symm,if_pos rfl,c,Yi (Yc _),b,a1G a.1,b1I a.1 a.2.1 a.2.2]
 ·rw[if_neg c,if_neg c,if_pos rfl]
def tbt (c:Nat):Int:=if c=1 then 0 else 1
def a0E {vt Z:Nat}{s:Bool}(h:z<=Z)(i:Z<=vt / 2)(d:(9<=c/\tlN c b z<=Z)\/(c<=8/\(b=tbt c\/(c=1/\s=false))))(j:c<9+vt)(k:1<=vt):
  (c<8+vt->bW vt s c z b="more")/\(c=8+vt->bW vt s c z b="taken"):=by
 unfold bW
 rcases d with ⟨f,l⟩ | ⟨m,d⟩
 ·rw[if_pos f]
  unfold oG
  exact⟨λa=>if_pos (by lia),λa=>by rw[if_neg (by lia),if_neg (by lia)]⟩
 ·rw [if_neg (by lia)]
  have g:fV s c b≠true:=by
   unfold fV
   rcases d with e | ⟨a,e⟩
   ·rw[e]
    unfold tbt
    by_cases a:c=1
    ·rw[if_pos a,if_pos a];cases s <;> decide
    ·rw[if_neg a,if_neg a];decide
   ·rw[if_pos a,e];exact Yn
  rw[if_neg g]
  exact⟨λ_=>rfl,λa=>by lia⟩
def lL:("taken":Str)≠"more"/\("taken":Str)≠"fault"/\("taken":Str)≠"refused":=by decide +kernel
def a4G (e:S.now= .tlS c z):(bW S.vt true c z b="more"->(aZ S b).2={ S with now:= .tlS (c+1) (tlN c b z) })/\(bW S.vt true c z b="taken"->(aZ S b).2={ S with tot:=mvd S.tot (-1),wt:=S.wt.tail,now:= .rests 3 }):=by
 rw[jM e]
 exact⟨λh=>by rw[h,if_pos rfl],λh=>by rw[h,if_neg lL.1,if_neg lL.2.1,if_neg lL.2.2]⟩
def a4H (e:S.now= .tlR n ds c z):(bW S.vt false c z b="more"->(aZ S b).2={ S with now:= .tlR n ds (c+1) (tlN c b z) })/\(bW S.vt false c z b="taken"->(aZ S b).2={ S with tot:=mvd S.tot (-1),up:=if mD S n=true then S.up++[(n,ds)] else S.up,now:= .rests 3 }):=by
 rw[iC e]
 exact⟨λh=>by rw[h,if_pos rfl],λh=>by rw[h,if_neg lL.1,if_neg lL.2.1,if_neg lL.2.2]⟩
theorem wO (P:Nat->Nat->Prop):∀(b i n:Nat),n<=b->P i n->∃i n,P i n/\∀i' n',P i' n'->n<=n'
 |0,i,n,hb,h=>⟨i,n,h,λ_ _ _=>by lia⟩
 | b +1,i,n,hb,h=>by
  by_cases c:∃i' n',P i' n'/\n'<n
  ·obtain⟨i',n',h',lt⟩:=c
   exact wO P b i' n' (by lia) h'
  ·exact⟨i,n,h,λi' n' h'=>Nat.le_of_not_lt λz=>c ⟨i',n',h',z⟩⟩
abbrev LW (f:Fr):Nat:=(wr f.1 f.2).length
structure Ln (R:RS)(m t:Nat):Prop where
 ps:R.ps.length=m
 sa:R.sa.length=m
 he:R.he.length=m
 bo:R.bo.length=t
 sl:∀x∈R.sa,x.length=t
 hl:∀x∈R.he,x.length=t
 ev:R.ev.length<=m*t
def a0C {R:RS}{t:Nat}(h:Ln R m t)(g:hs.length=m):(kY R hs b).ps=R.ps.mapIdx λi S=>(aZ S (hs.getD i 0)).2:=by
 refine List.ext_getElem? λi=>?_
 show (aY R hs R.ps.length).ps[i]? =_
 rw[Xs]
 by_cases c:i<R.ps.length
 ·have l:=h.ps
  have a:=Yb c
  have d:hs[i]? =some (hs.getD i 0):=by rw[Yb (by lia),Yf,Yb (by lia)];rfl
  have e:=Yb (l:=R.sa) (i:=i) (by rw[h.sa];lia)
  have f:=Yb (l:=R.he) (i:=i) (by rw[h.he];lia)
  rw[(a1D a d e f R.ps.length c).1,a]
  rfl
 ·rw[List.getElem?_eq_none (by rw[(jN R hs _).2.2.1];lia),List.getElem?_eq_none (by lia)]
  rfl
theorem a1B {R:RS}{t:Nat}(h:Ln R m t)(hl:hs.length=m):∀n,n<=m->(∀i x,(aY R hs n).sa[i]? =some x->x.length=if i<n then t+1 else t)/\(∀i x,(aY R hs n).he[i]? =some x->x.length=if i<n then t+1 else t)/\(aY R hs n).ev.length<=m*t+n
 |0,_=>⟨λi x e=>by rw[if_neg (Xz _)];exact h.sl x (Yu e),λi x e=>by rw[if_neg (Xz _)];exact h.hl x (Yu e),h.ev⟩
 | n + 1, hn=>by
  obtain⟨a1,a2,a3⟩:=a1B h hl n (by lia)
  have l:=h.ps
  have e1:=Yb (l:=R.ps) (i:=n) (by lia)
  have e2:=Yb (l:=hs) (i:=n) (by lia)
  have e3:=Yb (l:=R.sa) (i:=n) (by rw[h.sa];lia)
  have e4:=Yb (l:=R.he) (i:=n) (by rw[h.he];lia)
  rw[gM e1 e2 e3 e4]
  have x3:=h.sl _ (Yu e3)
  have x4:=h.hl _ (Yu e4)
  refine⟨λi x e=>?_,λi x e=>?_,?_⟩
  ·change ((aY R hs n).sa.set n _)[i]? =some x at e
   rw[Y8]at e
   split at e
   ·rename_i c
    split at e
    ·cases e
     rw[if_pos (by lia),Yd,x3];rfl
    ·cases e
   ·rename_i c
    rw[a1 i x e]
    by_cases d:i<n
    ·rw[if_pos d,if_pos (by lia)]
    ·rw[if_neg d,if_neg (by lia)]
  ·change ((aY R hs n).he.set n _)[i]? =some x at e
   rw[Y8]at e
   split at e
   ·rename_i c
    split at e
    ·cases e
     rw[if_pos (by lia),Yd,x4];rfl
    ·cases e
   ·rename_i c
    rw[a2 i x e]
    by_cases d:i<n
    ·rw[if_pos d,if_pos (by lia)]
    ·rw[if_neg d,if_neg (by lia)]
  ·change ((aY R hs n).ev++evt _ _ _).length<=_
   rw[Yd]
   have:∀a b c,(evt a b c).length<=1:=λa b c=>by
    unfold evt
    split
    ·exact YX _
    ·exact Yc _
   have:=this R.bo.length n (aZ R.ps[n] hs[n]).1
   lia
def Ln.turn {R:RS}{t:Nat}(h:Ln R m t)(d:hs.length=m):Ln (kY R hs b) m (t+1):=by
 have g:=jN R hs R.ps.length
 have l:=h.ps
 obtain⟨f,j,k⟩:=a1B h d R.ps.length (by lia)
 refine⟨g.2.2.1.trans h.ps,g.2.2.2.1.trans h.sa,g.2.2.2.2.1.trans h.he,?_,λx c=>?_,λx c=>?_,?_⟩
 ·show (R.bo++[b]).length=_
  rw[Yd,h.bo];rfl
 ·obtain⟨i,a⟩:=Xg.mp c
  have:=f i x a
  rw[this,if_pos]
  have:=(Ye.mp a).1
  have e:=g.2.2.2.1.trans h.sa
  change i<(aY R hs R.ps.length).sa.length at this
  lia
 ·obtain⟨i,a⟩:=Xg.mp c
  have:=j i x a
  rw[this,if_pos]
  have:=(Ye.mp a).1
  have e:=g.2.2.2.2.1.trans h.he
  change i<(aY R hs R.ps.length).he.length at this
  lia
 ·show (aY R hs R.ps.length).ev.length<=_
  rw[Nat.mul_succ]
  lia
def frT (f:Nat×Nat×List Int)(d:Addr):HO:= .tup [.int ((f.1:Nat):Int),.int ((f.2.1:Nat):Int),.ref d]
structure F92 (m:Nat)(fs:List (Nat×Nat×List Int)):Prop where
 ok:∀f∈fs,f.1<m/\FrN f.2
 un:∀f∈fs,∀g∈fs,f.2.1=g.2.1->f.1=g.1
structure a3R (H:Hp)(fl:Addr)(ts:List Addr)(fs:List (Nat×Nat×List Int)):Prop where
 at_:H fl=some (.lst (ts.map V.ref))
 ln:ts.length=fs.length
 tp:∀(i:Nat)(t:Addr)(f:Nat×Nat×List Int),ts[i]? =some t->fs[i]? =some f->∃d,H t=some (frT f d)/\H d=some (.lst (f.2.2.map V.int))
def a3R.same {c:Addr}{ts:List Addr}(h:a3R H c ts fs)(g:Same H H'):a3R H' c ts fs:=⟨g _ _ h.at_,h.ln,λi t f a b=>let ⟨d,x,y⟩:=h.tp i t f a b;⟨d,g _ _ x,g _ _ y⟩⟩
def mG (m:Nat)(g:Nat->List Fr):Nat:=((List.range m).map λi=>(g i).length).sum
def eZ:mG (m+1) g=mG m g+(g m).length:=by
 unfold mG
 rw[List.range_succ,Yr,List.sum_append]
 show _+((g m).length+0)=_
 rw[Nat.add_zero]
theorem oH:∀{m:Nat},mG m g=0->∀i,i<m->g i= []
 |0,_,i,hi=>absurd hi (Xz _)
 | m+1,h,i,hi=>by
  rw[eZ]at h
  by_cases c:i=m
  ·rw[c];exact List.length_eq_zero_iff.mp (by lia)
  ·exact oH (m:=m) (by lia) i (by lia)
theorem pU:∀{m:Nat},0<mG m g->∃i,i<m/\g i≠ []
 |0,h=>absurd h (YZ 0)
 | m +1,h=>by
  rw[eZ]at h
  by_cases c:g m= []
  ·obtain⟨i,hi,e⟩:=pU (m:=m) (by rw[c]at h;exact h)
   exact⟨i,by lia,e⟩
  ·exact⟨m,Xo _,c⟩
theorem rQ (hq:g q≠ []):∀{m:Nat},mG m (λi=>if i=q then (g i).tail else g i)+(if q<m then 1 else 0)=mG m g
 |0=>by rw[if_neg (Xz _)];rfl
 | m + 1=>by
  have ih:=rQ hq (m:=m)
  rw[eZ,eZ]
  have l:1<=(g q).length:=List.length_pos_iff.mpr hq
  by_cases c:m=q
  ·subst c
   rw[if_neg (YZ _)]at ih
   rw[if_pos rfl,if_pos (Xo _),List.length_tail]
   lia
  ·rw [if_neg c]
   by_cases d:q<m
   ·rw[if_pos d]at ih
    rw[if_pos (by lia)];lia
   ·rw[if_neg d]at ih
    rw[if_neg (by lia)];lia
def dJ (fs:List (Nat×Nat×List Int))(i:Nat):List Fr:=(fs.filter λf=>decide (f.1=i)).map λf=>f.2
def B91 (ch:Nat->Nat×Nat)(v:Nat)(fs:List (Nat×Nat×List Int))(i:Nat):PS:={ S0 (ch i).1 (ch i).2 v with wt:=dJ fs i }
def iZ {f:Fr}(h:f∈dJ fs i):(i,f)∈fs:=by
 unfold dJ at h
 obtain⟨x,a,e⟩:=YR.mp h
 obtain⟨b,c⟩:=List.mem_filter.mp a
 have d:x.1=i:=YK c
 rw[<-d,<-e]
 exact b
theorem rT {p:Nat}{f:Fr}:∀{m:Nat},mG m (λi=>if i=p then f::g i else g i)=mG m g+(if p<m then 1 else 0)
 |0=>by rw[if_neg (Xz _)];rfl
 | m +1=>by
  have ih:=rT (p:=p) (f:=f) (m:=m)
  rw[eZ,eZ,ih]
  by_cases c:m=p
  ·subst c
   rw[if_neg (YZ _),if_pos rfl,if_pos (Xo _),YM]
   lia
  ·rw[if_neg c]
   by_cases d:p<m
   ·rw[if_pos d,if_pos (by lia)];lia
   ·rw[if_neg d,if_neg (by lia)];lia
def a3I {x:Nat×Nat×List Int}:dJ (x::fs)=λi=>if i=x.1 then x.2::dJ fs i else dJ fs i:=by
 funext i
 unfold dJ
 by_cases c:x.1=i
 ·rw[List.filter_cons_of_pos (by exact Yj c),if_pos c.symm];rfl
 ·rw[List.filter_cons_of_neg (by rw[Yl c];exact Yn),if_neg λz=>c z.symm]
theorem rR:∀{fs:List (Nat×Nat×List Int)},(∀f∈fs,f.1<m)->mG m (dJ fs)=fs.length
 | [],_=>by
  have:∀k,mG k (dJ [])=0:=λk=>by
   induction k with
   |zero=>rfl
   |succ k ih=>rw[eZ,ih];rfl
  exact this m
 | x::fs,h=>by
  rw[a3I,rT,rR λf hf=>h f (Yw _ hf),if_pos (h x Yy)]
  rfl
def a9Z {kvs:List (Key×V)}{k:Key}{v:V}:(putK kvs k v).length<=kvs.length+1:=by
 unfold putK
 split
 ·rw[Ya];exact XE _
 ·rw[Yd];exact Yc _
def a7Q (S:PS)(b:Int):(aZ S b).2.m1=S.m1/\(aZ S b).2.m2=S.m2/\(aZ S b).2.vt=S.vt/\(aZ S b).2.wt.length<=S.wt.length:=by
 have f:∀e w nx,(cH S e w nx).2.m1=S.m1/\(cH S e w nx).2.m2=S.m2/\(cH S e w nx).2.vt=S.vt/\(cH S e w nx).2.wt.length<=S.wt.length:=λe w nx=>by unfold cH;split <;> exact⟨rfl,rfl,rfl,Yc _⟩
 have d:∀a,(bQ S a).2.m1=S.m1/\(bQ S a).2.m2=S.m2/\(bQ S a).2.vt=S.vt/\(bQ S a).2.wt.length<=S.wt.length:=λa=>by unfold bQ;exact f _ _ _
 have g:∀a,(cR S a).2.m1=S.m1/\(cR S a).2.m2=S.m2/\(cR S a).2.vt=S.vt/\(cR S a).2.wt.length<=S.wt.length:=λa=>by unfold cR;exact f _ _ _
 have i:(eE S).2.m1=S.m1/\(eE S).2.m2=S.m2/\(eE S).2.vt=S.vt/\(eE S).2.wt.length<=S.wt.length:=by unfold eE;exact f _ _ _
 have j:S.wt.tail.length<=S.wt.length:=by rw[List.length_tail];lia
 cases en:S.now with
 |free k=>rw[iQ en];(repeat' split) <;> first | exact d _ | exact⟨rfl,rfl,rfl,Yc _⟩
 |speaks n ds k=>rw[dW en];(repeat' split) <;> first | exact d _ | exact⟨rfl,rfl,rfl,Yc _⟩
 |reads h=>rw[eQ en];(repeat' split) <;> first | exact d _ | exact⟨rfl,rfl,rfl,Yc _⟩
 |tlS v c=>rw[jM en];(repeat' split) <;> first | exact d _ | exact g _ | exact⟨rfl,rfl,rfl,Yc _⟩ | exact⟨rfl,rfl,rfl,j⟩
 |tlR n ds v c=>rw[iC en];(repeat' split) <;> first | exact d _ | exact g _ | exact⟨rfl,rfl,rfl,Yc _⟩
 |flag l m=>rw[fC en];(repeat' split) <;> first | exact⟨rfl,rfl,rfl,Yc _⟩
 |settles m=>rw[dY en];(repeat' split) <;> first | exact i | exact⟨rfl,rfl,rfl,Yc _⟩
 |rests l=>rw[gK en];(repeat' split) <;> first | exact d _ | exact⟨rfl,rfl,rfl,Yc _⟩
 |off=>rw[lC en];exact⟨rfl,rfl,rfl,Yc _⟩
def a7G {v:HO}(b:H1 p=none)(a:H1 dp=none)(f:∀x,o x->x=p\/upd (upd H1 dp (.own p)) p v x=none)(g:∀x u,x≠p->upd (upd H1 dp (.own p)) p v x=some u->H' x=some u):(∀x,o x->H1 x=none)/\Same H1 H':=by
 refine⟨λx i=>?_,λx u e=>g x u (aP e b) (by rw[aH (aP e b),aH (aP e a)];exact e)⟩
 rcases f x i with h | h
 ·rw[h];exact b
 ·by_cases c:x=p
  ·rw[c];exact b
  ·rw[aH c]at h
   by_cases d:x=dp
   ·rw[d];exact a
   ·rw[aH d]at h;exact h
def SqL.keepT {xs:List V}{b:Pos}{q:Str}(h:SqL K H a xs)(c:a3O P b q H)(g:∀x u,H x=some u->x≠P->H' x=some u):SqL K H' a xs:=by
 obtain⟨d,e,_⟩:=c
 rcases h with (h | ⟨o,h⟩) | h
 ·exact .inl (.inl (g _ _ h λz=>by rw[z,e]at h;cases h))
 ·exact .inl (.inr ⟨o,g _ _ h λz=>by rw[z,e]at h;cases h⟩)
 ·exact .inr h
def sZ {f:Nat×Nat×List Int}(h:fs[i]? =some f)(k:Nat):dJ (fs.take (i+1)) k=dJ (fs.take i) k++(if f.1=k then [f.2] else []):=by
 obtain⟨l,e⟩:=Ye.mp h
 unfold dJ
 rw[Yg l,e,List.filter_append,Yr]
 congr 1
 by_cases c:f.1=k
 ·simp[c]
 ·simp[c]
structure uZ (m v:Nat)(ch:Nat->Nat×Nat)(fs:List (Nat×Nat×List Int))(i:Nat)(R:RS):Prop where
 ln:R.ps.length=m
 ps:∀k,k<m->R.ps[k]? =some (B91 ch v (fs.take i) k)
 bo:R.bo= []
 ev:R.ev= []
 l2:R.sa.length=m
 sa:∀x∈R.sa,x= []
 l4:R.he.length=m
 he:∀x∈R.he,x= []
 ol:R.ow.length<=i
 ow:∀(n:Nat)(u:V),iI R.ow (.inl (n:Int))=some u->∃f∈fs,f.2.1=n/\u= .int ((f.1:Nat):Int)
abbrev chI (ms:List (Nat×Nat)):List (Int×Int):=ms.map λc=>(((c.1:Nat):Int),((c.2:Nat):Int))
def uZ.start (v:Nat)(a:List (Nat×Nat))(fs:List (Nat×Nat×List Int)):uZ a.length v (λi=>a.getD i (0,0)) fs 0 (R0 (chI a) (v:Int)):=by
 have b:(chI a).length=a.length:=Ya _
 refine⟨by show (List.map _ (chI a)).length=_;rw[Ya,b],λk d=>?_,rfl,rfl,by show (List.replicate _ _).length=_;rw[YD,b],λx c=>Xa c,by show (List.replicate _ _).length=_;rw[YD,b],λx c=>Xa c,Yc _,λn u e=>by cases e⟩
 show (List.map _ (List.map _ a))[k]? =_
 rw[Yo,Yo,Yb d]
 have e:(λi=>a.getD i ((0,0):Nat×Nat)) k=a[k]:=by
  show a.getD k (0,0)=_
  rw[Yf,Yb d]
  rfl
 unfold B91
 rw[e]
 rfl
def uZ.hand {ch:Nat->Nat×Nat}{R:RS}(h:uZ m v ch fs i R)(hF:F92 m fs){f:Nat×Nat×List Int}(ef:fs[i]? =some f):(iI R.ow (.inl ((f.2.1:Nat):Int))).getD (.int ((f.1:Nat):Int))= .int ((f.1:Nat):Int)/\R.ps[f.1]? =some (B91 ch v (fs.take i) f.1)/\uZ m v ch fs (i+1) { R with ps:=R.ps.set f.1 { B91 ch v (fs.take i) f.1 with wt:=(B91 ch v (fs.take i) f.1).wt++[(f.2.1,f.2.2)] },ow:=putK R.ow (.inl ((f.2.1:Nat):Int)) (.int ((f.1:Nat):Int)) }:=by
 have b:=Yu ef
 have d:=(hF.ok f b).1
 refine⟨?_,h.ps _ d,⟨by show (R.ps.set _ _).length=m;rw[Xy];exact h.ln,λk j=>?_,h.bo,h.ev,h.l2,h.sa,h.l4,h.he,?_,λn u e=>?_⟩⟩
 ·cases e:iI R.ow (.inl ((f.2.1:Nat):Int)) with
  |none=>rfl
  | some u=>
   obtain⟨g,l,o,p⟩:=h.ow _ u e
   rw[p,hF.un g l f b o]
   rfl
 ·show (R.ps.set f.1 _)[k]? =_
  rw[Y8]
  unfold B91
  rw[sZ ef]
  by_cases c:f.1=k
  ·subst c
   rw[if_pos rfl,if_pos (by rw[h.ln];exact d),if_pos rfl]
  ·rw[if_neg c,if_neg c,YH]
   exact h.ps k j
 ·show (putK _ _ _).length<=_
  have q:=a9Z (kvs:=R.ow) (k:= .inl ((f.2.1:Nat):Int)) (v:= .int ((f.1:Nat):Int))
  have r:=h.ol
  lia
 ·have a:iI (putK R.ow (.inl ((f.2.1:Nat):Int)) (.int ((f.1:Nat):Int))) (.inl ((n:Nat):Int))=some u:=e
  rw[a4D]at a
  split at a
  ·rename_i z
   cases a
   exact⟨f,b,by have:=Sum.inl.inj z;lia,rfl⟩
  ·exact h.ow n u a
def uZ.ln0 {ch:Nat->Nat×Nat}{R:RS}(h:uZ m v ch fs i R):Ln R m 0:=⟨h.ln,h.l2,h.l4,by rw[h.bo];rfl,λx a=>by rw[h.sa x a];rfl,λx a=>by rw[h.he x a];rfl,by rw[h.ev];exact YX _⟩
structure J95 (C:Addr)(A:Cs)(P:Addr)(F H:Hp)(r:Addr)(R:RS)(o:Own):Prop where
 rl:lG C A H r R o
 tb:kI P o H
 kp:∀x u,F x=some u->H x=some u/\¬ o x/\x≠P
section
variable {F F':Hp}{l l':Addr}{R R':RS}{vs':List V}
def J95.sm (h:J95 C A P F H r R o):Same F H:=λx u e=>(h.kp x u e).1
def J95.same (h:J95 C A P F H r R o)(g:Same H H'):J95 C A P F H' r R o:=⟨let ⟨w,x⟩:=h.rl;⟨w,x.same g⟩,h.tb.same g,λx u e=>⟨g _ _ (h.kp x u e).1,(h.kp x u e).2⟩⟩
def J95.pt (h:J95 C A P F H r R o):∃ps,H P=some (.tbl ps):=let ⟨_,ps,e,_⟩:=h.tb;⟨ps,e⟩
def J95.mv (h:J95 C A P F H r R o)(d:lG C A H' r R' o')(m:Mv o H o' H'):J95 C A P F H' r R' o':=⟨d,h.tb.mv m,λx u e=>let ⟨a,b,c⟩:=h.kp x u e;⟨m.1 _ _ a (.inl b),m.out a b,c⟩⟩
def J95.turn (h:J95 C A P F H r R o)(d:lG C A H' r R' o')(t:kI P o' H')(m:MvP P o H o' H'):J95 C A P F H' r R' o':=⟨d,t,λx u e=>let ⟨a,b,c⟩:=h.kp x u e;⟨m.1 _ _ a (.inl λz=>z.elim b c),λz=>m.out a (λz=>z.elim b c) (.inl z),c⟩⟩
def J95.grow (h:J95 C A P F H r R o)(g:Same H H'):∃F',J95 C A P F' H' r R o/\Same F F'/\(∀x u,H x=none->H' x=some u->F' x=some u)/\∀x,H x≠none->F x=none->F' x=none:=by
 have b:=h.same g
 refine⟨λx=>match H x with | some _=>F x | none=>H' x,⟨b.rl,b.tb,λy u a=>?_⟩,λx u e=>?_,λx u n e=>?_,λx n e=>?_⟩
 ·cases n:H y with
  |some w=>rw[n]at a;exact b.kp y u a
  | none=>
   rw[n]at a
   obtain⟨w,c⟩:=h.rl
   obtain⟨f,d⟩:=h.pt
   exact⟨a,λz=>c.al _ z n,λz=>by rw[z,d]at n;cases n⟩
 ·dsimp only
  rw[(h.kp x u e).1]
  exact e
 ·dsimp only
  rw[n]
  exact e
 ·dsimp only
  cases z:H x with
  |none=>exact absurd z n
  |some w=>exact e
end
theorem jB.get:∀{vs:List V}{es:List (Nat×Nat×Str)},jB H vs es->∀{i:Nat}{v:V},vs[i]? =some v->∃t e,v= .ref t/\es[i]? =some e/\H t=some (.tup [.int ((e.1:Nat):Int),.int ((e.2.1:Nat):Int),.str e.2.2])
 |_,_,.cons a _,0,_,rfl=>⟨_,_,rfl,rfl,a⟩
 |_,_,.cons _ q,i+1,_,h=>q.get (i:=i) h
def xo (p:Nat)(on:Bool)(i:Nat):Prop:=i=p/\on=false
def Tb (p:Nat)(T:Nat->Int)(i:Nat)(t:Int):Prop:=0<=t/\t<=T i/\(i=p->t=T i)
def Ds (p:Nat)(B:Nat->PS)(T:Nat->Int)(on:Bool)(g:Nat->Stc->Prop)(s:List PS):Prop:=∀(i:Nat)(S:PS),s[i]? =some S->¬ xo p on i->∃(t:Int)(n:Stc),Tb p T i t/\S={ B i with tot:=t,now:=n }/\g i n
def Of (p:Nat)(on:Bool)(s:List PS):Prop:=on=false->∃S,s[p]? =some S/\S.now= .off/\18<=S.tot
section
variable {p:Nat}{B':Nat->PS}{T':Nat->Int}{on':Bool}{g g':Nat->Stc->Prop}{s:List PS}
def Of.step (h:Of p on s):Of p on (cT wp s):=λe=>by
 obtain⟨S,b,a,c⟩:=h e
 exact⟨S,by rw[jT b,lC a],a,c⟩
def Ds.map (h:Ds p B T on g s)(le:on'=true->on=true)(k:∀i t n,s[i]? =some { B i with tot:=t,now:=n }->¬ xo p on' i->Tb p T i t->g i n->∃t' n',Tb p T' i t'/\(aZ { B i with tot:=t,now:=n } (hrd wp (iJ s) i)).2={ B' i with tot:=t',now:=n' }/\g' i n'):Ds p B' T' on' g' (cT wp s):=λi j e d=>by
 obtain⟨S,f,rfl⟩:=tX e
 obtain⟨t,n,a,rfl,b⟩:=h i S f λz=>d ⟨z.1,by
  cases c:on' with
  |false=>rfl
  |true=>have w:=z.2;rw[le c]at w;cases w⟩
 exact k i t n f d a b
def Ds.bit1 (h:Ds p B T on g s)(d:Of p on s)(k:∀i t n,i<s.length->¬ xo p on i->Tb p T i t->g i n->bB { B i with tot:=t,now:=n }≠0):iJ s=1:=uU λi S e=>by
 by_cases c:xo p on i
 ·obtain⟨l,f,j,_⟩:=d c.2
  rw[c.1,f]at e
  cases e
  unfold bB
  rw[j]
  exact(by decide:(1:Int)≠0)
 ·obtain⟨t,n,a,rfl,b⟩:=h i S e c
  exact k i t n (Ye.mp e).1 c a b
def Ds.bit0 (h:Ds p B T on g s)(c:i<s.length)(d:¬ xo p on i)(k:∀t n,Tb p T i t->g i n->bB { B i with tot:=t,now:=n }=0):iJ s=0:=by
 have e:=Yb c
 obtain⟨t,n,a,f,b⟩:=h i _ e d
 exact nW e (by rw[f];exact k t n a b)
def Ds.off (h:Ds p B T on g s)(k:∀i,i≠p->T i<=T' i):Ds p B T' false g s:=λi S e f=>by
 have d:i≠p:=λz=>f ⟨z,rfl⟩
 obtain⟨t,n,⟨a,b,_⟩,j,c⟩:=h i S e λz=>d z.1
 exact⟨t,n,⟨a,Int.le_trans b (k i d),λz=>absurd z d⟩,j,c⟩
end
def Nx (f:Fr)(j:Nat)(n:Stc):Prop:=n= .reads ((wr f.1 f.2).take j)\/∃(n1:Nat)(ds1:List Int),FrN (n1,ds1)/\f.1<n1/\(wr n1 ds1).take j=(wr f.1 f.2).take j/\n= .speaks n1 ds1 j
def b0R {f:Fr}(b:FrN f)(d:j<LW f)(h:Nx f j S.now):bB S=0->(wr f.1 f.2).getD j 0=0:=by
 rcases h with e | ⟨g,a,i,lt,e,k⟩
 ·intro z;unfold bB at z;rw[e]at z;cases z
 ·intro z
  unfold bB at z;rw[k]at z
  have l:(wr g a).getD j 0=0:=z
  obtain⟨_,_,c | c⟩:=rZ (n:=f.1) (ds:=f.2) b i lt e d
  ·rw[<-c.1];exact l
  ·exact c.2.1
def b0Q {f:Fr}(d:FrN f)(b:j<LW f)(h:Nx f j S.now):∃n':Stc,(aZ S ((wr f.1 f.2).getD j 0)).2={ S with now:=n' }/\(j+1<LW f->Nx f (j+1) n')/\(j+1=LW f->n'= .tlR f.1 f.2 0 0):=by
 have l:=(kO (n:=f.1) (ds:=f.2) d).1
 rcases h with e | ⟨g,a,i,lt,e,k⟩
 ·refine⟨_,a5Y e d b,λc=> .inl ?_,λc=>?_⟩
  ·rw[if_neg (YA c)]
  ·rw[if_pos c]
 ·obtain⟨m,o,c | c⟩:=rZ (n:=f.1) (ds:=f.2) d i lt e b
  ·refine⟨.speaks g a (j+1),?_,λ_=> .inr ⟨g,a,i,lt,c.2.1,rfl⟩,λz=>by unfold LW at z b;lia⟩
   rw[<-c.1,a5Z k i o,if_neg (by lia)]
  ·refine⟨.reads ((wr f.1 f.2).take (j+1)),?_,λ_=> .inl rfl,λz=>by unfold LW at z b;lia⟩
   have p:(wr g a).take j++[(0:Int)]=(wr f.1 f.2).take (j+1):=by rw[take_snoc b,e,c.2.1]
   rw[c.2.1,dW k,p,if_neg (a0A d b),if_pos ⟨c.1,rfl,c.2.2⟩]
def b0Z (b:bK h)(c:On h)(l:11<=h.length):9<=(kp h).length:=by
 have e:=yM b c.good
 have a:=a6C (kp h)
 have:h.length<=(put (kp h)).length:=by
  rw[e]
  split
  ·rw[Yd];lia
  ·exact Yc _
 lia
def tU {f:Fr}(a:FrN f)(c:11<=j)(b:j<LW f):9<=(kp ((wr f.1 f.2).take j)).length:=b0Z (λz d=>(kW (n:=f.1) (ds:=f.2) a).wbits z (Xi d)) (a3Z (n:=f.1) (ds:=f.2) a j b) (by rw[Yq];have:j<(wr f.1 f.2).length:=b;lia)
def wB {f:Fr}{n:Stc}(o:FrN f)(l:11<=j)(p:j<LW f)(h:Nx f j n):n= .reads ((wr f.1 f.2).take j):=by
 rcases h with e | ⟨g,d,i,lt,e,q⟩
 ·exact e
 ·exfalso
  obtain⟨k,pt⟩:=qG (n:=f.1) (ds:=f.2) i lt
  have jk:j<=k:=by
   by_cases c:k<j
   ·have:=pQ e c
    rw[pt.one,pt.zero]at this
    cases this
   ·lia
  have m:=pt.h1
  have a:9<=(kp ((wr g d).take k)).length:=tU (f:=(g,d)) i (show 11<=k by lia) m
  have b:=pt.nine
  lia
def a9Y {f:Fr}(b:FrN f)(e:S.now= .speaks f.1 f.2 j)(a:11<=j)(c:j<LW f):aZ S (1-(wr f.1 f.2).getD j 0)=bQ S true:=by
 have d:=tU b a c
 rw[dW e]
 split
 ·rfl
 ·rw[if_neg (λz=>by have:=z.2.2;lia),if_neg (by lia)]
def a1E {a:Int}{w:Str}(b:0<=S.tot)(c:0<=a)(d:S.tot+a<18):cH S a w nx=(w,{ S with tot:=S.tot+a,now:=nx }):=by
 have e:mvd S.tot a=S.tot+a:=by
  unfold mvd
  rw[if_neg (by lia)]
  lia
 unfold cH
 rw[if_neg (by rw[e];lia),e]
def wR {a:Int}{w:Str}(c:0<=S.tot)(d:S.tot<18)(f:0<=a)(b:18<=S.tot+a):cH S a w nx=(("off":Str),{ S with tot:=S.tot+a,now:= .off }):=by
 have e:mvd S.tot a=S.tot+a:=by
  unfold mvd
  rw[if_neg (by lia)]
  lia
 unfold cH
 rw[if_pos (by rw[e];exact b),e]
def lD (a:0<=S.tot)(b:S.tot+(if sp=true then 8 else 1)<18):(bQ S sp).2={ S with tot:=S.tot+(if sp=true then 8 else 1),now:= .flag 6 (!sp) }:=by
 unfold bQ
 rw[a1E a (by split <;> decide) b]
def tE (a:0<=S.tot)(b:S.tot<18)(c:18<=S.tot+(if sp=true then 8 else 1)):(bQ S sp).2={ S with tot:=S.tot+(if sp=true then 8 else 1),now:= .off }:=by
 unfold bQ
 rw[wR a b (by split <;> decide) c]
def a4B:(aZ S b).1=("off":Str)->(aZ S b).2.now= .off:=by
 have d:("fault":Str)≠"off"/\("refuses":Str)≠"off"/\("":Str)≠"off"/\("begins":Str)≠"off"/\("loses":Str)≠"off"/\("done":Str)≠"off"/\("takes":Str)≠"off":=by decide +kernel
 have i:∀j w nx,w≠("off":Str)->(cH S j w nx).1=("off":Str)->(cH S j w nx).2.now= .off:=λj w nx p h=>by
  unfold cH at h ⊢
  split
  ·rfl
  ·rename_i c
   rw[if_neg c]at h
   exact absurd h p
 have g:∀f,(bQ S f).1=("off":Str)->(bQ S f).2.now= .off:=λf=>i _ _ _ d.1
 have o:∀f,(cR S f).1=("off":Str)->(cR S f).2.now= .off:=λf=>i _ _ _ d.2.1
 have q:(eE S).1=("off":Str)->(eE S).2.now= .off:=i _ _ _ d.2.2.1
 have e:∀{w:Str}{P:Prop},w≠"off"->w="off"->P:=λa z=>absurd z a
 cases en:S.now with
 |off=>rw[lC en];exact λ_=>en
 |free k=>rw[iQ en];(repeat' split) <;> first | exact g _ | exact e d.2.2.1 | exact e d.2.2.2.1
 |speaks n ds k=>rw[dW en];(repeat' split) <;> first | exact g _ | exact e d.2.2.1 | exact e d.2.2.2.2.1
 |reads h=>rw[eQ en];(repeat' split) <;> first | exact g _ | exact e d.2.2.1
 |tlS v c=>rw[jM en];(repeat' split) <;> first | exact g _ | exact o _ | exact e d.2.2.1 | exact e d.2.2.2.2.2.1
 |tlR n ds v c=>rw[iC en];(repeat' split) <;> first | exact g _ | exact o _ | exact e d.2.2.1 | exact e d.2.2.2.2.2.2
 |flag l m=>rw[fC en];(repeat' split) <;> exact e d.2.2.1
 |settles m=>rw[dY en];(repeat' split) <;> first | exact q | exact e d.2.2.1
 |rests l=>rw[gK en];(repeat' split) <;> first | exact g _ | exact e d.2.2.1
abbrev mH (fs:List (Nat×Nat×List Int))(j:Nat):List Nat:=(dJ fs j).map λf=>f.1
abbrev flN (fs:List (Nat×Nat×List Int))(j:Nat)(l:List Fr):List Fr:=l.filter λg=>decide (g.1∈mH fs j)
structure Cx4 (m v p:Nat)(fs:List (Nat×Nat×List Int)):Prop where
 m3:3<=m
 pm:p<m
 v1:1<=v
 v5:v<=5
 F:F92 m fs
 l4:∀f∈fs,LW f.2<=43
structure Bs (m v p:Nat)(fs:List (Nat×Nat×List Int))(B:Nat->PS):Prop where
 vt:∀i,(B i).vt=v
 m0:∀i,(B i).m1=0/\(B i).m2=0
 wt:∀i,∀g∈(B i).wt,(i,g)∈fs
 wp:(B p).wt=dJ fs p
 ui:∀i,i<m->i≠p->flN fs i (B i).up= []
 uj:∀i j,i<m->j<m->i≠p->j≠p->i≠j->flN fs j (B i).up++(B j).wt=dJ fs j
def nB (p:Nat)(B:Nat->PS)(q:Nat)(f:Fr)(i:Nat):PS:=if i=q then (if q=p then B i else { B i with wt:=(B i).wt.tail }) else { B i with up:=(B i).up++[f] }
def mO (m p:Nat)(B:Nat->PS):Nat:=mG m λi=>if i=p then [] else (B i).wt
def mY (F:F92 m fs)(a:n∈mH fs i)(b:n∈mH fs j):i=j:=by
 obtain⟨f,c,rfl⟩:=YR.mp a
 obtain⟨g,d,e⟩:=YR.mp b
 exact F.un _ (iZ c) _ (iZ d) e.symm
def a0S {f:Fr}(h:(i,f)∈fs):f∈dJ fs i:=YR.mpr ⟨(i,f),List.mem_filter.mpr ⟨h,Yj rfl⟩,rfl⟩
def qR {l:List Fr}{f:Fr}:flN fs j (l++[f])=flN fs j l++(if f.1∈mH fs j then [f] else []):=by
 unfold flN
 rw[List.filter_append]
 congr 1
 split
 ·rename_i c
  exact List.filter_cons_of_pos (by exact Yj c)
 ·rename_i c
  rw[List.filter_cons_of_neg (by rw[Yl c];exact Yn)]
  rfl
section
variable {p:Nat}
def Bs.head (h:Bs m v p fs B){f:Fr}(e:(B q).wt.head? =some f):(q,f)∈fs:=h.wt q f (List.mem_of_mem_head? e)
def Bs.over (C:Cx4 m v p fs)(h:Bs m v p fs B){f:Fr}(qp:q≠p)(e:(B q).wt.head? =some f):Bs m v p fs (nB p B q f):=by
 have o:f.1∈mH fs q:=YR.mpr ⟨f,a0S (h.head e),rfl⟩
 obtain⟨r,er⟩:∃r,(B q).wt=f::r:=by
  cases c:(B q).wt with
  |nil=>rw[c]at e;cases e
  |cons a r=>rw[c]at e;cases e;exact⟨r,rfl⟩
 have t:∀i,(nB p B q f i).up=if i=q then (B i).up else (B i).up++[f]:=λi=>by unfold nB;rw[if_neg qp];split <;> rfl
 have s:∀i,(nB p B q f i).wt=if i=q then (B i).wt.tail else (B i).wt:=λi=>by unfold nB;rw[if_neg qp];split <;> rfl
 refine⟨λi=>?_,λi=>?_,λi g b=>?_,?_,λi k l=>?_,λi j k w l x u=>?_⟩
 ·rw[<-h.vt i];unfold nB;rw[if_neg qp];split <;> rfl
 ·have:=h.m0 i;unfold nB;rw[if_neg qp];split <;> exact this
 ·rw[s]at b
  split at b
  ·exact h.wt i g (List.mem_of_mem_tail b)
  ·exact h.wt i g b
 ·rw[s,if_neg (λz=>qp z.symm)];exact h.wp
 ·rw [t]
  split
  ·exact h.ui i k l
  ·rename_i c
   rw[qR,h.ui i k l,if_neg λz=>c (mY C.F z o)]
   rfl
 ·rw [t,s]
  have n:=h.uj i j k w l x u
  by_cases c:i=q
  ·rw[if_pos c,if_neg λz=>u (c.trans z.symm)]
   exact n
  ·rw [if_neg c,qR]
   by_cases d:j=q
   ·subst d
    rw[if_pos o,if_pos rfl,er,List.tail_cons,YC]
    rw[er]at n
    exact n
   ·rw[if_neg λz=>d (mY C.F z o),if_neg d,YH]
    exact n
def Bs.overP (C:Cx4 m v p fs)(h:Bs m v p fs B){f:Fr}(e:f.1∈mH fs p):Bs m v p fs (nB p B p f):=by
 have d:∀i,(nB p B p f i).up=if i=p then (B i).up else (B i).up++[f]:=λi=>by unfold nB;rw[if_pos rfl];split <;> rfl
 have b:∀i,(nB p B p f i).wt=(B i).wt:=λi=>by unfold nB;rw[if_pos rfl];split <;> rfl
 refine⟨λi=>?_,λi=>?_,λi g k=>?_,?_,λi c a=>?_,λi j c n a l o=>?_⟩
 ·rw[<-h.vt i];unfold nB;rw[if_pos rfl];split <;> rfl
 ·have:=h.m0 i;unfold nB;rw[if_pos rfl];split <;> exact this
 ·rw[b]at k;exact h.wt i g k
 ·rw[b];exact h.wp
 ·rw[d,if_neg a,qR,h.ui i c a,if_neg λz=>a (mY C.F z e)]
  rfl
 ·rw[d,b,if_neg a,qR,if_neg λz=>l (mY C.F z e),YH]
  exact h.uj i j c n a l o
def a1Z {f:Fr}(b:q<m)(a:q≠p)(e:(B q).wt.head? =some f):mO m p (nB p B q f)+1=mO m p B:=by
 have ne:(B q).wt≠ []:=λz=>by rw[z]at e;cases e
 have:=rQ (g:=λi=>if i=p then [] else (B i).wt) (q:=q) (by show (if q=p then [] else (B q).wt)≠ [];rw[if_neg a];exact ne) (m:=m)
 rw[if_pos b]at this
 unfold mO
 rw[<-this]
 congr 2
 funext i
 unfold nB
 rw[if_neg a]
 by_cases c:i=q
 ·subst c;rw[if_neg a,if_pos rfl,if_pos rfl,if_neg a]
 ·rw[if_neg c,if_neg c]
def xX {f:Fr}:mO m p (nB p B p f)=mO m p B:=by
 unfold mO
 congr 1
 funext i
 unfold nB
 by_cases c:i=p
 ·rw[if_pos c,if_pos c]
 ·rw[if_neg c,if_neg c,if_neg c]
end
def b3D (h:S.m1=0/\S.m2=0)(n:Nat):mD S n=true:=by
 unfold mD
 rw[h.1,h.2]
 refine Yj ?_
 show Builtin.bitAnd (n:Int) ((0:Nat):Int)=0
 rw[band,Nat.and_zero]
 rfl
def gF (k:Nat)(_:Nat)(n:Stc):Prop:=n= .free k
def gW (q:Nat)(f:Fr)(j i:Nat)(n:Stc):Prop:=(i=q/\n= .speaks f.1 f.2 j)\/(i≠q/\Nx f j n)
def gT (q:Nat)(f:Fr)(c i:Nat)(n:Stc):Prop:=n=if i=q then .tlS c 0 else .tlR f.1 f.2 c 0
def gG (b _:Nat)(n:Stc):Prop:=∃m:Bool,n= .flag b m
def gS (_:Nat)(n:Stc):Prop:=∃m:Bool,n= .settles m
def gR (l _:Nat)(n:Stc):Prop:=n= .rests l
def gQ (a:Stc)(_:Nat)(n:Stc):Prop:=n=a
section
variable {p:Nat}{s:List PS}
def pB:hrd none b i=b:=if_neg (by simp)
def b8E {p:Nat}(h:i≠p):hrd (some p) b i=b:=if_neg λz=>h (Yp z).symm
def b8D {p:Nat}:hrd (some p) b p=1-b:=if_pos rfl
def b5N (D:Ds p B T on (gF k) s)(a:∀(i:Nat)(S:PS),s[i]? =some S->bB S≠0):Ds p B T on (gF (k+1)) (cT none s):=by
 have b:iJ s=1:=uU a
 refine D.map id λi t n e f c d=>⟨t,.free (k+1),c,?_,rfl⟩
 cases d
 rw[pB,b,iQ rfl,if_neg (a i _ e),if_neg (by decide)]
def b7H (D:Ds p B T on (gR l) s)(d:Of p on s):(2<=l->Ds p B T on (gR (l-1)) (cT none s))/\(l=1->Ds p B T on (gF 0) (cT none s)):=by
 have c:iJ s=1:=D.bit1 d λi t n _ _ _ a=>by cases a;exact(by decide:(1:Int)≠0)
 refine⟨λh=>D.map id λi t n e f b a=>⟨t,.rests (l-1),b,?_,rfl⟩,λg=>D.map id λi t n e f b a=>⟨t,.free 0,b,?_,rfl⟩⟩
 ·cases a
  rw[pB,c,gK rfl,if_neg (by decide),if_neg (by lia)]
 ·cases a
  rw[pB,c,gK rfl,if_neg (by decide),if_pos g]
def b1J (C:Cx4 m v p fs)(hB:Bs m v p fs B)(hs:s.length=m)(D:Ds p B T on (gF k) s)(ho:Of p on s){i0:Nat}{S0:PS}(e0:s[i0]? =some S0)(z0:bB S0=0):∃q f,q<m/\¬ xo p on q/\(B q).wt.head? =some f/\Ds p B T on (gW q f 1) (cT none s):=by
 have nx:∀{i:Nat}{S:PS},s[i]? =some S->bB S=0->¬ xo p on i:=λ{i S} e z c=>by
  obtain⟨L,y,A,_⟩:=ho c.2
  rw[c.1,y]at e
  cases e
  unfold bB at z
  rw[A]at z
  cases z
 have hd:∀{i:Nat}{S:PS},s[i]? =some S->bB S=0->∃g,(B i).wt.head? =some g/\(B i).wt.headD (0, [])=g:=λ{i S} e z=>by
  obtain⟨t,n,_,rfl,j⟩:=D i S e (nx e z)
  cases j
  cases c:(B i).wt with
  | nil=>
   have u:(if (B i).wt= [] then (1:Int) else if 12<=t/\k<8 then 1 else 0)=0:=z
   rw[if_pos c]at u
   cases u
  |cons a r=>exact⟨a,rfl,rfl⟩
 obtain⟨E,G,_⟩:=hd e0 z0
 obtain⟨q,M,⟨N,f,d,l,h,rfl⟩,H⟩:=wO (λi n=>∃S g,s[i]? =some S/\bB S=0/\(B i).wt.head? =some g/\g.1=n) _ i0 _ (Yc _) ⟨S0,E,e0,z0,G,rfl⟩
 have I:q<m:=by rw[<-hs];exact(Ye.mp d).1
 have J:iJ s=0:=nW d l
 have O:FrN f:=(C.F.ok _ (hB.head h)).2
 refine⟨q,f,I,nx d l,h,D.map id λi t n e P x j=>?_⟩
 cases j
 rw[pB,J,iQ rfl]
 by_cases z:bB { B i with tot:=t,now:= .free k }=0
 ·obtain⟨g,b,o⟩:=hd e z
  rw[if_pos z,if_pos rfl]
  refine⟨t,.speaks g.1 g.2 1,x,by rw[<-o],?_⟩
  by_cases c:i=q
  ·subst c
   rw[h]at b
   cases b
   exact .inl ⟨rfl,rfl⟩
  ·have K:FrN g:=(C.F.ok _ (hB.head b)).2
   have le:=H i g.1 ⟨_,g,e,z,b,rfl⟩
   have ne:f.1≠g.1:=λw=>c (C.F.un _ (hB.head b) _ (hB.head h) w.symm)
   exact .inr ⟨c,.inr ⟨g.1,g.2,K,by lia,by rw[tR,tR],rfl⟩⟩
 ·rw[if_neg z,if_pos rfl]
  refine⟨t,.reads [0],x,rfl,.inr ⟨λc=>?_,.inl (by rw[tR])⟩⟩
  subst c
  rw[d]at e
  cases e
  exact z l
def b1Z {f:Fr}(e:FrN f)(a:j<LW f)(g:q<s.length)(k:¬ xo p on q)(D:Ds p B T on (gW q f j) s)(l:Of p on s):iJ s=(wr f.1 f.2).getD j 0:=by
 have b:(wr f.1 f.2).getD j 0=0\/(wr f.1 f.2).getD j 0=1:=by rw[getD_get a];exact(kW (n:=f.1) (ds:=f.2) e).wbits _ (YN a)
 have sq:∀i t n,i=q->gW q f j i n->bB { B i with tot:=t,now:=n }=(wr f.1 f.2).getD j 0:=λi t n c h=>by
  rcases h with ⟨_,rfl⟩ | ⟨d,_⟩
  ·rfl
  ·exact absurd c d
 rcases b with z | z
 ·rw[z]
  exact D.bit0 g k λt n _ h=>(sq q t n rfl h).trans z
 ·rw [z]
  refine D.bit1 l λi t n _ _ _ h=>?_
  by_cases c:i=q
  ·rw[sq i t n c h,z];decide
  ·rcases h with ⟨d,_⟩ | ⟨_,h⟩
   ·exact absurd d c
   ·intro y
    have:=b0R e a h y
    rw[z]at this
    cases this
def b3E {f:Fr}(k:FrN f)(l:j<LW f)(o:q<s.length)(r:¬ xo p on q)(D:Ds p B T on (gW q f j) s)(u:Of p on s):(j+1<LW f->Ds p B T on (gW q f (j+1)) (cT none s))/\(j+1=LW f->Ds p B T on (gT q f 0) (cT none s)):=by
 have v:=b1Z k l o r D u
 have g:∀i t n,gW q f j i n->∃e,(aZ { B i with tot:=t,now:=n } (hrd none (iJ s) i)).2={ B i with tot:=t,now:=e }/\(j+1<LW f->gW q f (j+1) i e)/\(j+1=LW f->gT q f 0 i e):=λi t n h=>by
  rw[pB,v]
  rcases h with ⟨c,rfl⟩ | ⟨c,h⟩
  ·refine⟨_,a5Z rfl k l,λd=> .inl ⟨c,if_neg (YA d)⟩,λd=>?_⟩
   unfold gT
   rw[if_pos c]
   exact if_pos d
  ·obtain⟨e,w,x,y⟩:=b0Q (S:={ B i with tot:=t,now:=n }) k l h
   refine⟨e,w,λd=> .inr ⟨c,x d⟩,λd=>?_⟩
   unfold gT
   rw[if_neg c]
   exact y d
 refine⟨λd=>D.map id λi t n _ _ m h=>?_,λd=>D.map id λi t n _ _ m h=>?_⟩
 ·obtain⟨e,a,b,_⟩:=g i t n h
  exact⟨t,e,m,a,b d⟩
 ·obtain⟨e,a,_,b⟩:=g i t n h
  exact⟨t,e,m,a,b d⟩
end
def oF {vt:Nat}(a:c≠1)(b:c<=8):bW vt sp c 0 0="fault":=by
 have e:fV sp c 0=true:=by
  unfold fV
  rw[if_neg a]
  rfl
 unfold bW
 rw[if_neg (show ¬ 9<=c by lia),if_pos e]
def b6N {p:Nat}{s:List PS}{f:Fr}(b:FrN f)(a:11<=j)(d:j<LW f)(l:p<s.length)(D:Ds p B T true (gW p f j) s)(r:Of p true s)(m:0<=T p)(g:T p<18):Ds p B T false (gQ (if j+1=LW f then .tlR f.1 f.2 0 0 else .reads ((wr f.1 f.2).take (j+1)))) (cT (some p) s)/\(cT (some p) s)[p]? =some { B p with tot:=T p+8,now:=if T p+8<18 then .flag 6 false else .off }:=by
 have nx:¬ xo p true p:=λz=>by cases z.2
 have o:=b1Z b d l nx D r
 refine⟨D.map (λz=>by cases z) λi t n _ u v h=>?_,?_⟩
 ·have q:i≠p:=λz=>u ⟨z,rfl⟩
  rcases h with ⟨c,_⟩ | ⟨c,h⟩
  ·exact absurd c q
  ·rw[b8E q,o]
   have e:=wB b a d h
   subst e
   refine⟨t,_,v,a5Y rfl b d,rfl⟩
 ·have e:=Yb l
  obtain⟨t,n,⟨_,_,k⟩,w,h⟩:=D p _ e nx
  have k:=k rfl
  subst k
  rcases h with ⟨_,rfl⟩ | ⟨c,_⟩
  ·rw [w]at e
   rw[jT e,b8D,o,a9Y b rfl a d]
   by_cases c:T p+8<18
   ·rw[if_pos c,lD (S:={ B p with tot:=T p,now:= .speaks f.1 f.2 j }) (sp:=true) m c]
    rfl
   ·rw[if_neg c,tE (S:={ B p with tot:=T p,now:= .speaks f.1 f.2 j }) (sp:=true) m g (by show 18<=T p+8;lia)]
    rfl
  ·exact absurd rfl c
def b2C {p:Nat}{s:List PS}{f:Fr}(C:Cx4 m v p fs)(e:s.length=m)(D:Ds p B T on (gT q f c) s)(a:Of p on s):iJ s=tbt c:=by
 have g:=C.m3
 unfold tbt
 by_cases c1:c=1
 ·rw [if_pos c1]
  obtain⟨i,j,b,d⟩:∃i,i<m/\i≠q/\i≠p:=by
   by_cases a0:0≠q/\0≠p
   ·exact⟨0,by lia,a0.1,a0.2⟩
   ·by_cases a1:1≠q/\1≠p
    ·exact⟨1,by lia,a1.1,a1.2⟩
    ·exact⟨2,by lia,by lia,by lia⟩
  refine D.bit0 (i:=i) (by lia) (λz=>d z.1) λt n _ h=>?_
  unfold gT at h
  rw[if_neg b]at h
  subst h
  show fH false c=0
  rw[c1]
  rfl
 ·rw [if_neg c1]
  refine D.bit1 a λi t n _ _ _ h=>?_
  unfold gT at h
  subst h
  split
  ·show fH true c≠0
   unfold fH
   rw[if_neg λz=>c1 z.1]
   decide
  ·show fH false c≠0
   unfold fH
   rw[if_neg λz=>c1 z.1]
   decide
def a4J {f:Fr}(n:1<=v)(r:S.vt=v)(o:c<9+v)(h:gT q f c i S.now)(t:S.m1=0/\S.m2=0):(c<8+v->∃n',(aZ S (tbt c)).2={ S with now:=n' }/\gT q f (c+1) i n')/\(c=8+v->(aZ S (tbt c)).2=if i=q then { S with tot:=mvd S.tot (-1),wt:=S.wt.tail,now:= .rests 3 } else { S with tot:=mvd S.tot (-1),up:=S.up++[f],now:= .rests 3 }):=by
 have e:tlN c (tbt c) 0=0:=if_neg λz=>by
  have:=z.2
  unfold tbt at this
  rw[if_neg (by lia)]at this
  cases this
 have p:(9<=c/\tlN c (tbt c) 0<=0)\/(c<=8/\(tbt c=tbt c\/(c=1/\(true:Bool)=false))):=by
  by_cases d:9<=c
  ·exact .inl ⟨d,by rw[e];exact Yc _⟩
  ·exact .inr ⟨by lia,.inl rfl⟩
 have g:(9<=c/\tlN c (tbt c) 0<=0)\/(c<=8/\(tbt c=tbt c\/(c=1/\(false:Bool)=false))):=p.imp id λ⟨a,_⟩=>⟨a,.inl rfl⟩
 subst r
 unfold gT at h
 by_cases iq:i=q
 ·rw[if_pos iq]at h
  obtain⟨j,k⟩:=a0E (vt:=S.vt) (s:=true) (Yc 0) (YX _) p o n
  obtain⟨l,m⟩:=a4G (S:=S) (b:=tbt c) h
  refine⟨λd=>⟨_,l (j d),?_⟩,λd=>by rw[if_pos iq];exact m (k d)⟩
  unfold gT
  rw[if_pos iq,e]
 ·rw [if_neg iq]at h
  obtain⟨j,k⟩:=a0E (vt:=S.vt) (s:=false) (Yc 0) (YX _) g o n
  obtain⟨l,m⟩:=a4H (S:=S) (b:=tbt c) h
  refine⟨λd=>⟨_,l (j d),?_⟩,λd=>?_⟩
  ·unfold gT
   rw[if_neg iq,e]
  ·rw[if_neg iq,m (k d),if_pos (b3D t f.1)]
def b1F {t T:Int}(a:0<=t)(b:t<=T)(h:T<18):0<=mvd t (-1)/\mvd t (-1)<=T:=by
 unfold mvd
 rw[if_neg (by lia)]
 lia
section
variable {p:Nat}{s:List PS}
def a4I {f:Fr}(C:Cx4 m v p fs)(e:Bs m v p fs B)(u:s.length=m)(l:c<9+v)(j:∀i,i≠p->T i<18)(D:Ds p B T on (gT q f c) s)(w:Of p on s):(c<8+v->Ds p B T on (gT q f (c+1)) (cT none s))/\(c=8+v->Ds p (nB p B q f) T false (gR 3) (cT none s)):=by
 have o:=b2C C u D w
 refine⟨λd=>D.map id λi t n _ r g h=>?_,λd=>D.map (λz=>by cases z) λi t n _ r g h=>?_⟩
 ·rw[pB,o]
  obtain⟨x,a,b⟩:=(a4J (S:={ B i with tot:=t,now:=n }) C.v1 (e.vt i) l h (e.m0 i)).1 d
  exact⟨t,x,g,a,b⟩
 ·have k:i≠p:=λz=>r ⟨z,rfl⟩
  rw[pB,o]
  have a:=(a4J (S:={ B i with tot:=t,now:=n }) C.v1 (e.vt i) l h (e.m0 i)).2 d
  obtain⟨y,A⟩:=b1F g.1 g.2.1 (j i k)
  refine⟨mvd t (-1),.rests 3,⟨y,A,λz=>absurd z k⟩,?_,rfl⟩
  rw[a]
  unfold nB
  by_cases iq:i=q
  ·rw[if_pos iq,if_pos iq,if_neg λz=>k (iq.trans z)]
  ·rw[if_neg iq,if_neg iq]
def b6P {f:Fr}(C:Cx4 m v p fs)(k:Bs m v p fs B)(o:s.length=m)(w:q≠p)(I:2<=c)(J:c<=7)(D:Ds p B T true (gT q f c) s)(x:Of p true s)(r:0<=T p)(d:T p<18):Ds p B T false (gT q f (c+1)) (cT (some p) s)/\(cT (some p) s)[p]? =some { B p with tot:=T p+1,now:=if T p+1<18 then .flag 6 true else .off }:=by
 have K:=C.v1
 have nx:¬ xo p true p:=λz=>by cases z.2
 have u:=b2C C o D x
 refine⟨D.map (λz=>by cases z) λi t n _ y A h=>?_,?_⟩
 ·have E:i≠p:=λz=>y ⟨z,rfl⟩
  rw[b8E E,u]
  obtain⟨F,a,b⟩:=(a4J (S:={ B i with tot:=t,now:=n }) C.v1 (k.vt i) (by lia) h (k.m0 i)).1 (by lia)
  exact⟨t,F,A,a,b⟩
 ·have e:=Yb (l:=s) (i:=p) (by rw[o];exact C.pm)
  obtain⟨t,n,⟨_,_,g⟩,G,h⟩:=D p _ e nx
  have g:=g rfl
  subst g
  unfold gT at h
  rw[if_neg λz=>w z.symm]at h
  subst h
  rw[G]at e
  have H:1-tbt c=(0:Int):=by unfold tbt;rw[if_neg (by lia)];rfl
  have j:bW ({ B p with tot:=T p,now:= .tlR f.1 f.2 c 0 }:PS).vt false c 0 0="fault":=oF (by lia) (by lia)
  rw[jT e,b8D,u,H,iC rfl,j,if_neg mZ.2.1,if_pos rfl]
  by_cases c:T p+1<18
  ·rw[if_pos c,lD (S:={ B p with tot:=T p,now:= .tlR f.1 f.2 _ 0 }) (sp:=false) r c]
   rfl
  ·rw[if_neg c,tE (S:={ B p with tot:=T p,now:= .tlR f.1 f.2 _ 0 }) (sp:=false) r d (by show 18<=T p+1;lia)]
   rfl
def b2W {f:Fr}{a:Nat}(u:2<=c)(m:c<=8)(D:Ds p B T false (gT q f c) s)(e:s[p]? =some { B p with tot:=tp,now:= .flag a mp })(d:∀i,i≠p->T i+8<18):iJ s=0/\Ds p B (λi=>T i+8) false (gG 6) (cT none s):=by
 have j:iJ s=0:=nW e rfl
 refine⟨j,D.map id λi t n _ o r h=>?_⟩
 have g:i≠p:=λz=>o ⟨z,rfl⟩
 have t17:=d i g
 obtain⟨k,v,_⟩:=r
 have l:∀sp,bW (B i).vt sp c 0 0="fault":=λsp=>oF (by lia) m
 rw[pB,j]
 unfold gT at h
 by_cases iq:i=q
 ·rw[if_pos iq]at h
  subst h
  have b:bW ({ B i with tot:=t,now:= .tlS c 0 }:PS).vt true c 0 0="fault":=l true
  rw[jM rfl,b,if_neg mZ.2.1,if_pos rfl,lD (S:={ B i with tot:=t,now:= .tlS c 0 }) (sp:=true) k (by show t+8<18;lia)]
  exact⟨t+8,_,⟨by lia,by show t+8<=T i+8;lia,λz=>absurd z g⟩,rfl,_,rfl⟩
 ·rw[if_neg iq]at h
  subst h
  have b:bW ({ B i with tot:=t,now:= .tlR f.1 f.2 c 0 }:PS).vt false c 0 0="fault":=l false
  rw[iC rfl,b,if_neg mZ.2.1,if_pos rfl,lD (S:={ B i with tot:=t,now:= .tlR f.1 f.2 c 0 }) (sp:=false) k (by show t+1<18;lia)]
  exact⟨t+1,_,⟨by lia,by show t+1<=T i+8;lia,λz=>absurd z g⟩,rfl,_,rfl⟩
def a7B {a:Stc}(l:(∃h,a= .reads h)\/(b=0/\∃x y,a= .tlR x y 0 0))(f:∀i,i≠p->hrd wp (iJ s) i=b)(g:∀i,i≠p->T i+1<18)(D:Ds p B T false (gQ a) s):(∃h,a= .reads h/\ans (h++[b])="more"/\Ds p B T false (gQ (.reads (h++[b]))) (cT wp s))\/(∃h,a= .reads h/\ans (h++[b])="whole"/\Ds p B T false (gQ (.tlR (nmB (kp (h++[b]))) (daB (kp (h++[b]))) 0 0)) (cT wp s))\/Ds p B (λi=>T i+1) false (gG 6) (cT wp s):=by
 have k:(∀i t,(aZ { B i with tot:=t,now:=a } b)=bQ { B i with tot:=t,now:=a } false)->Ds p B (λi=>T i+1) false (gG 6) (cT wp s):=λm=>by
  refine D.map id λi t n _ d e h=>?_
  have c:i≠p:=λz=>d ⟨z,rfl⟩
  cases h
  have t17:=g i c
  obtain⟨o,r,_⟩:=e
  rw[f i c,m,lD (S:={ B i with tot:=t,now:=a }) (sp:=false) o (by show t+1<18;lia)]
  exact⟨t+1,_,⟨by lia,by show t+1<=T i+1;lia,λz=>absurd z c⟩,rfl,_,rfl⟩
 rcases l with ⟨h,rfl⟩ | ⟨rfl,x,y,rfl⟩
 ·by_cases c1:ans (h++[b])="more"
  ·refine .inl ⟨h,rfl,c1,D.map id λi t n _ d e j=>?_⟩
   have c:i≠p:=λz=>d ⟨z,rfl⟩
   cases j
   rw[f i c,eQ rfl,if_pos c1]
   exact⟨t,_,e,rfl,rfl⟩
  ·by_cases c2:ans (h++[b])="whole"
   ·refine .inr (.inl ⟨h,rfl,c2,D.map id λi t n _ d e j=>?_⟩)
    have c:i≠p:=λz=>d ⟨z,rfl⟩
    cases j
    rw[f i c,eQ rfl,if_neg c1,if_pos c2]
    exact⟨t,_,e,rfl,rfl⟩
   ·exact .inr (.inr (k λi t=>by rw[eQ rfl,if_neg c1,if_neg c2]))
 ·refine .inr (.inr (k λi t=>?_))
  have q:bW ({ B i with tot:=t,now:= .tlR x y 0 0 }:PS).vt false 0 0 0="fault":=oF (by decide) (by decide)
  rw[iC rfl,q,if_neg mZ.2.1,if_pos rfl]
def a7T {b:Nat}(j:s.length=m)(C:Cx4 m v p fs)(l:1<=b)(D:Ds p B T false (gG b) s):iJ s=0/\(2<=b->Ds p B T false (gG (b-1)) (cT none s))/\(b=1->Ds p B T false gS (cT none s)):=by
 have o:=C.m3
 obtain⟨i,q,e⟩:∃i,i<m/\i≠p:=by
  by_cases c:0=p
  ·exact⟨1,by lia,by lia⟩
  ·exact⟨0,by lia,c⟩
 have f:iJ s=0:=D.bit0 (i:=i) (by lia) (λz=>e z.1) λt n _ ⟨_,h⟩=>by rw[h];rfl
 refine⟨f,λd=>D.map id λi t n _ g a ⟨k,h⟩=>?_,λd=>D.map id λi t n _ g a ⟨k,h⟩=>?_⟩
 ·subst h
  rw[fC rfl,if_neg (by lia)]
  exact⟨t,_,a,rfl,_,rfl⟩
 ·subst h
  rw[fC rfl,if_pos d]
  exact⟨t,_,a,rfl,_,rfl⟩
end
def a5S {p:Nat}{s:List PS}(D:Ds p B T false gS s)(hp:if on=true then ∃mp,s[p]? =some { B p with tot:=T p,now:= .settles mp }/\0<=T p else ∃S,s[p]? =some S/\S.now= .off):Ds p B T on (gR 3) (cT none s):=by
 have d:iJ s=1:=uU λi S e=>by
  by_cases c:i=p
  ·subst c
   cases on with
   | true=>
    obtain⟨mp,a,_⟩:=hp
    rw[a]at e
    cases e
    exact(by decide:(1:Int)≠0)
   | false=>
    obtain⟨f,a,b⟩:=hp
    rw[a]at e
    cases e
    unfold bB
    rw[b]
    exact(by decide:(1:Int)≠0)
  ·obtain⟨t,n,_,rfl,_,rfl⟩:=D i S e λz=>c z.1
   exact(by decide:(1:Int)≠0)
 intro i f e g
 obtain⟨S,a,rfl⟩:=tX e
 rw[pB,d]
 by_cases c:i=p
 ·subst c
  cases on with
  | true=>
   obtain⟨mp,b,z⟩:=hp
   rw[b]at a
   cases a
   rw[dY rfl,if_pos rfl]
   exact⟨T i,_,⟨z,XY _,λ_=>rfl⟩,rfl,rfl⟩
  |false=>exact absurd ⟨rfl,rfl⟩ g
 ·obtain⟨t,n,h,rfl,_,rfl⟩:=D i S a λz=>c z.1
  rw[dY rfl,if_pos rfl]
  exact⟨t,_,h,rfl,rfl⟩
def uY (ab:Nat×Nat)(o:Option (Nat×Nat)):Stc->Option (Nat×Nat)
 |.free _=>some ab
 |_=>o
def yW (o:Option (Nat×Nat)):Stc->Bool
 | .speaks _ _ k=>match o with
  |some x=>decide (k=x.1)
  |none=>false
 | .tlR _ _ c _=>match o with
  |some x=>decide (c=x.2)
  |none=>false
 |_=>false
def tu (w:List Int):Nat:=if (Wm.sk w).1=some 1 then Wm.run w else 0
def a0I (w:List Int):Wm.run (w++[1])=tu w+1:=by
 unfold tu
 rw[Wm.run_snoc]
 split <;> rfl
def a8Y (w:List Int):tu (w++[1])=tu w+1:=by
 rw[<-a0I]
 exact if_pos (Wm.last_snoc w 1)
def X4 (m p y:Nat)(on:Bool)(B:Nat->PS):Nat:=90*((if on=true then 3-y else 0)+mO m p B)
structure K4 (m v p:Nat)(fs:List (Nat×Nat×List Int))(B:Nat->PS)(T:Nat->Int)(on:Bool)(y:Nat)(s:List PS):Prop where
 ln:s.length=m
 bs:Bs m v p fs B
 of:Of p on s
 y3:y<=3
 tn:on=true->∃u:Nat,u<=y/\8*y+u<18/\T p=8*(y:Int)+((u:Nat):Int)/\∀i,i≠p->T i=7*((u:Nat):Int)+(y:Int)
 tf:on=false->∀i,i≠p->T i=16
 ne:on=true->∃i,i<m/\(B i).wt≠ []
structure KF (m v p:Nat)(fs:List (Nat×Nat×List Int))(B:Nat->PS)(y u:Nat)(tp:Int)(mp:Bool)(s:List PS):Prop where
 ln:s.length=m
 bs:Bs m v p fs B
 y3:y<=3
 uy:u<=y
 t0:0<=tp
 t8:tp<18
 tt:tp+(if mp=true then 8 else 0)=8*(y:Int)+(u:Int)
 ne:∃i,i<m/\(B i).wt≠ []
inductive Iv (m v p:Nat)(fs:List (Nat×Nat×List Int)):Option (Nat×Nat)->Nat->Nat->List PS->Prop
 |fr {o:Option (Nat×Nat)} {y n k:Nat} {s:List PS} {B:Nat->PS} {T:Nat->Int} {on:Bool}:K4 m v p fs B T on y s->Ds p B T on (gF k) s->k<=8->X4 m p y on B<=n+k->Iv m v p fs o y n s
 |wi {o:Option (Nat×Nat)} {y n q j:Nat} {f:Fr} {s:List PS} {B:Nat->PS} {T:Nat->Int} {on:Bool}:K4 m v p fs B T on y s->q<m->¬ xo p on q->(B q).wt.head? =some f->Ds p B T on (gW q f j) s->1<=j->j<LW f->(on=true->∃a b,o=some (a,b)/\11<=a/\2<=b/\b<=7/\(q=p->j<=a/\a<LW f))->X4 m p y on B<=n+8+j->Iv m v p fs o y n s
 |tl {o:Option (Nat×Nat)} {y n q c:Nat} {f:Fr} {s:List PS} {B:Nat->PS} {T:Nat->Int} {on:Bool}:K4 m v p fs B T on y s->q<m->q≠p->(B q).wt.head? =some f->Ds p B T on (gT q f c) s->c<9+v->(on=true->∃a b,o=some (a,b)/\2<=b/\b<=7/\c<=b)->X4 m p y on B<=n+52+c->Iv m v p fs o y n s
 |tp {o:Option (Nat×Nat)} {y n c:Nat} {f:Fr} {s:List PS} {B:Nat->PS} {T:Nat->Int}:K4 m v p fs B T false y s->f.1∈mH fs p->Ds p B T false (gT p f c) s->c<9+v->X4 m p y false B+25<=n+c->Iv m v p fs o y n s
 |r4 {o:Option (Nat×Nat)} {y n q c u:Nat} {f:Fr} {s:List PS} {B:Nat->PS} {T:Nat->Int} {tp:Int}:KF m v p fs B y u tp true s->Ds p B T false (gT q f c) s->(∀i,i≠p->T i+8=7*(u:Int)+(y:Int))->3<=c->c<=8->s[p]? =some { B p with tot:=tp,now:= .flag 6 true }->X4 m p y true B+30<=n->Iv m v p fs o y n s
 |uf {o:Option (Nat×Nat)} {y n l u:Nat} {n0:Stc} {s:List PS} {B:Nat->PS} {T:Nat->Int} {tp:Int}:KF m v p fs B y u tp false s->Ds p B T false (gQ n0) s->(∀i,i≠p->T i+1=7*(u:Int)+(y:Int))->((∃h,n0= .reads h/\6<=l+tz h)\/∃x z,n0= .tlR x z 0 0)->1<=l->l<=6->s[p]? =some { B p with tot:=tp,now:= .flag l false }->X4 m p y true B+30+l<=n->Iv m v p fs o y n s
 |fl {o:Option (Nat×Nat)} {y n a b u:Nat} {mp:Bool} {s:List PS} {B:Nat->PS} {T:Nat->Int} {tp:Int}:KF m v p fs B y u tp mp s->Ds p B T false (gG b) s->(∀i,i≠p->T i=7*(u:Int)+(y:Int))->a<b->b<=6->(mp=true->a+1=b)->s[p]? =some { B p with tot:=tp,now:=if a=0 then .settles mp else .flag a mp }->X4 m p y true B+23+b<=n->Iv m v p fs o y n s
 |fo {o:Option (Nat×Nat)} {y n b:Nat} {s:List PS} {B:Nat->PS} {T:Nat->Int}:K4 m v p fs B T false y s->Ds p B T false (gG b) s->1<=b->X4 m p y false B+23+b<=n->Iv m v p fs o y n s
 |st {o:Option (Nat×Nat)} {y n:Nat} {s:List PS} {B:Nat->PS} {T:Nat->Int} {on:Bool}:K4 m v p fs B T on y s->Ds p B T false gS s->(on=true->∃mp,s[p]? =some { B p with tot:=T p,now:= .settles mp })->X4 m p y on B+4<=n->Iv m v p fs o y n s
 |re {o:Option (Nat×Nat)} {y n l:Nat} {s:List PS} {B:Nat->PS} {T:Nat->Int} {on:Bool}:K4 m v p fs B T on y s->Ds p B T on (gR l) s->1<=l->l<=3->X4 m p y on B+l<=n->Iv m v p fs o y n s
 |vo {o:Option (Nat×Nat)} {y n d:Nat} {h:List Int} {s:List PS} {B:Nat->PS} {T:Nat->Int}:K4 m v p fs B T false y s->Ds p B (λ_=>15) false (gQ (.reads h)) s->nmB (kp h)∈mH fs p->9<=(kp h).length->6<=d+tu h->d<=6->X4 m p y false B+30+d<=n->Iv m v p fs o y n s
def Dn4 (p:Nat)(s:List PS):Prop:=∃S,s[p]? =some S/\18<=S.tot/\∀(i:Nat)(S:PS),s[i]? =some S->i≠p->S.wt= []
section
variable {p:Nat}
def vL (hq:q<m)(qp:q≠p)(e:(B q).wt≠ []):1<=mO m p B:=by
 cases c:mO m p B with
 | zero=>
  have:=oH (g:=λi=>if i=p then [] else (B i).wt) c q hq
  rw[if_neg qp]at this
  exact absurd this e
 |succ k=>lia
def a4O (h:mO m p B=0)(a:i<m)(b:i≠p):(B i).wt= []:=by
 have:=oH (g:=λi=>if i=p then [] else (B i).wt) h i a
 rw[if_neg b]at this
 exact this
def a1A {l:List Fr}{f:Fr}(h:l.head? =some f):l≠ []:=λz=>by rw[z]at h;cases h
def K4.mv {s:List PS}(K:K4 m v p fs B T on y s):K4 m v p fs B T on y (cT wp s):=⟨jG.trans K.ln,K.bs,K.of.step,K.y3,K.tn,K.tf,K.ne⟩
def K4.t17 {s:List PS}(K:K4 m v p fs B T on y s):∀i,i≠p->T i<18:=λi d=>by
 cases on with
 | true=>
  obtain⟨u,a,b,_,c⟩:=K.tn rfl
  rw[c i d];lia
 |false=>rw[K.tf rfl i d];decide
def K4.onX {s:List PS}(K:K4 m v p fs B T true y s):90<=X4 m p y true B:=by
 obtain⟨u,a,b,_⟩:=K.tn rfl
 unfold X4
 rw[if_pos rfl]
 lia
def X4.le:X4 m p y false B<=X4 m p y on B:=by
 unfold X4
 cases on
 ·exact Yc _
 ·rw[if_neg (by decide),if_pos rfl];lia
def X4.hit (h:y<=2):X4 m p (y+1) true B+90=X4 m p y true B:=by
 unfold X4
 rw[if_pos rfl,if_pos rfl]
 lia
def Ds.pAt {g:Nat->Stc->Prop}{s:List PS}(d:s.length=m)(C:Cx4 m v p fs)(D:Ds p B T true g s):∃n,s[p]? =some { B p with tot:=T p,now:=n }/\g p n/\0<=T p:=by
 have e:=Yb (l:=s) (i:=p) (by rw[d];exact C.pm)
 obtain⟨t,n,⟨a,_,b⟩,f,c⟩:=D p _ e λz=>by cases z.2
 have b:=b rfl
 subst b
 exact⟨n,by rw[<-f];exact e,c,a⟩
def K4.goOff {s:List PS}(K:K4 m v p fs B T true y s)(a:y<=2)(e:(cT wp s)[p]? =some { B p with tot:=tp,now:= .off })(h:18<=tp):K4 m v p fs B (λ_=>16) false (y+1) (cT wp s):=⟨jG.trans K.ln,K.bs,λ_=>⟨_,e,rfl,h⟩,by lia,(λz=>by cases z),λ_ _ _=>rfl,λz=>by cases z⟩
def a0Q (l:9<=(kp h).length):nmB (kp (h++[b]))=nmB (kp h)/\9<=(kp (h++[b])).length:=by
 rw[fP]
 split
 ·exact⟨rfl,l⟩
 ·refine⟨?_,by rw[Yd];lia⟩
  unfold nmB
  rw[Xj (by lia),YU (by rw[Xu];lia)]
end
def Go4 (m v p:Nat)(fs:List (Nat×Nat×List Int))(ab:Nat×Nat)(o:Option (Nat×Nat))(y n:Nat)(s:List PS):Prop:=1<=n/\∃S,s[p]? =some S/\(yW (uY ab o S.now) S.now=true->Iv m v p fs none (y+1) (n-1) (cT (some p) s))/\(yW (uY ab o S.now) S.now=false->Iv m v p fs (uY ab o S.now) y (n-1) (cT none s))
section
variable {p:Nat}{o:Option (Nat×Nat)}{s:List PS}
def uK {ab:Nat×Nat}{N:Stc}(a:1<=n)(e:s[p]? =some S)(b:S.now=N)(c:yW (uY ab o N) N=false)(k:Iv m v p fs (uY ab o N) y (n-1) (cT none s)):Go4 m v p fs ab o y n s:=by
 subst b
 exact⟨a,S,e,(λz=>by rw[c]at z;cases z),λ_=>k⟩
def jO {ab:Nat×Nat}(a:1<=n)(e:s[p]? =some S)(b:S.now= .off)(k:Iv m v p fs o y (n-1) (cT none s)):Go4 m v p fs ab o y n s:=uK a e b rfl k
def X4.one (h:1<=mO m p B):90<=X4 m p y on B:=by
 unfold X4
 lia
def K4.qX {f:Fr}(K:K4 m v p fs B T on y s)(hq:q<m)(qx:¬ xo p on q)(e:(B q).wt.head? =some f):90<=X4 m p y on B:=by
 cases on with
 |true=>exact K.onX
 |false=>exact X4.one (vL hq (λz=>qx ⟨z,rfl⟩) (a1A e))
def K4.ndX {g:Nat->Stc->Prop}(K:K4 m v p fs B T on y s)(nd:¬ Dn4 p s)(D:Ds p B T on g s):90<=X4 m p y on B/\∃i,i<m/\¬ xo p on i/\(B i).wt≠ []:=by
 cases on with
 | true=>
  obtain⟨i,a,b⟩:=K.ne rfl
  exact⟨K.onX,i,a,(λz=>by cases z.2),b⟩
 | false=>
  have f:1<=mO m p B:=by
   cases c:mO m p B with
   |succ k=>lia
   | zero=>
    exfalso
    obtain⟨S,h,_,j⟩:=K.of rfl
    refine nd ⟨S,h,j,λi l e d=>?_⟩
    obtain⟨t,n,_,rfl,_⟩:=D i l e λz=>d z.1
    exact a4O c (by rw[<-K.ln];exact(Ye.mp e).1) d
  refine⟨X4.one f,?_⟩
  obtain⟨i,o,e⟩:=pU (m:=m) (g:=λi=>if i=p then [] else (B i).wt) f
  by_cases d:i=p
  ·exact absurd (if_pos d) e
  ·exact⟨i,o,λz=>d z.1,λz=>e (by rw[if_neg d];exact z)⟩
def Iv.s_fr {ab:Nat×Nat}(C:Cx4 m v p fs)(nd:¬ Dn4 p s)(a1:11<=ab.1)(b2:2<=ab.2)(b7:ab.2<=7)(ha:∀f,(dJ fs p).head? =some f->ab.1<LW f)(K:K4 m v p fs B T on y s)(D:Ds p B T on (gF k) s)(k8:k<=8)(hX:X4 m p y on B<=n+k):Go4 m v p fs ab o y n s:=by
 obtain⟨O,b,g,h,j⟩:=K.ndX nd D
 have x:1<=n:=by lia
 have a :∀r,(on=true->r=some ab)->Iv m v p fs r y (n-1) (cT none s):=λr E=>by
  by_cases c:∃(i:Nat)(S:PS),s[i]? =some S/\bB S=0
  ·obtain⟨i,S,e,z⟩:=c
   obtain⟨q,f,G,H,u,I⟩:=b1J C K.bs K.ln D K.of e z
   have P:=(kO (n:=f.1) (ds:=f.2) (C.F.ok _ (K.bs.head u)).2).1
   refine .wi K.mv G H u I (Yc 1) (by show 1<(wr f.1 f.2).length;lia) (λz=>⟨ab.1,ab.2,E z,a1,b2,b7,λJ=>⟨by lia,ha f ?_⟩⟩) (by lia)
   rw[<-K.bs.wp,<-J]
   exact u
  ·have A:∀(i:Nat)(S:PS),s[i]? =some S->bB S≠0:=λi S e z=>c ⟨i,S,e,z⟩
   have L:k<8:=by
    by_cases d:k<8
    ·exact d
    ·exfalso
     have e:=Yb (l:=s) (i:=b) (by rw[K.ln];exact g)
     obtain⟨t,n,_,M,w⟩:=D b _ e h
     cases w
     refine A b _ e ?_
     rw[M]
     show (if (B b).wt= [] then (1:Int) else if 12<=t/\k<8 then 1 else 0)=0
     rw[if_neg j,if_neg λz=>d z.2]
   exact .fr K.mv (b5N D A) L (by lia)
 cases on with
 | true=>
  obtain⟨Q,e,w,_⟩:=D.pAt K.ln C
  cases w
  exact uK x e rfl rfl (a _ λ_=>rfl)
 | false=>
  obtain⟨S,e,N,_⟩:=K.of rfl
  exact jO x e N (a o λz=>by cases z)
def b0U {f:Fr}(hf:FrN f)(k11:11<=k):∀d,k+d=LW f->nmB (kp ((wr f.1 f.2).take k))=f.1:=λd=>by
 have b:∀d k,11<=k->k+d=LW f->nmB (kp ((wr f.1 f.2).take k))=f.1:=λd=>by
  induction d with
  | zero=>
   intro k _ e
   have:k=(wr f.1 f.2).length:=e
   rw[this,Yi (Yc _),(kW (n:=f.1) (ds:=f.2) hf).kp,a1G hf.1]
  | succ d ih=>
   intro k k11 e
   have a:k<LW f:=by lia
   have:=ih (k+1) (by lia) (by lia)
   rw[take_snoc a,(a0Q (tU hf k11 a)).1]at this
   exact this
 exact b d k k11
def Ds.imp {g g':Nat->Stc->Prop}(D:Ds p B T on g s)(k:∀i n,¬ xo p on i->g i n->g' i n):Ds p B T on g' s:=λi S e d=>let ⟨t,n,a,b,c⟩:=D i S e d;⟨t,n,a,b,k i n d c⟩
def Iv.s_hit (C:Cx4 m v p fs){f:Fr}{o':Option (Nat×Nat)}(K:K4 m v p fs B T true y s)(t:(B p).wt.head? =some f)(D:Ds p B T true (gW p f j) s)(w:11<=j)(x:j<LW f)(I:X4 m p y true B<=n+8+j):Iv m v p fs o' (y+1) (n-1) (cT (some p) s):=by
 have a:=K.bs.head t
 have o:FrN f:=(C.F.ok _ a).2
 have J:LW f<=43:=C.l4 (p,f) a
 have A:p<s.length:=by rw[K.ln];exact C.pm
 obtain⟨L,e,M,E⟩:=D.pAt K.ln C
 obtain⟨u,N,G,tp,tu⟩:=K.tn rfl
 obtain⟨g,k⟩:=b6N o (by lia) x A D K.of E (by lia)
 have q:f.1∈mH fs p:=YR.mpr ⟨f,a0S a,rfl⟩
 have O:=X4.hit (m:=m) (p:=p) (B:=B) (y:=y) (by lia)
 by_cases c:T p+8<18
 ·rw[if_pos c]at k
  refine .uf (l:=6) (u:=u) ⟨jG.trans K.ln,K.bs,by lia,by lia,by lia,c,by rw[if_neg (by decide),tp];lia,K.ne rfl⟩ g (λi b=>by rw[tu i b];lia) ?_ (by decide) (by decide) k (by lia)
  by_cases d:j+1=LW f
  ·rw[if_pos d];exact .inr ⟨_,_,rfl⟩
  ·rw[if_neg d];exact .inl ⟨_,rfl,by lia⟩
 ·rw [if_neg c]at k
  have r:=K.goOff (wp:=some p) (by lia) k (by lia)
  have P:X4 m p (y+1) false B<=X4 m p (y+1) true B:=X4.le
  by_cases d:j+1=LW f
  ·rw[if_pos d]at g
   refine .tp (f:=f) (c:=0) r q ((g.off (T':=λ_=>16) λi b=>by rw[tu i b];lia).imp λi n H h=>?_) (by lia) (by lia)
   have b:i≠p:=λz=>H ⟨z,rfl⟩
   unfold gT
   rw[if_neg b]
   exact h
  ·rw[if_neg d]at g
   refine .vo (d:=6) r (g.off (T':=λ_=>15) λi b=>by rw[tu i b];lia) ?_ ?_ (by lia) (by decide) (by lia)
   ·rw[b0U o (by lia) (LW f-(j+1)) (by lia)];exact q
   ·exact tU o (by lia) (by lia)
def Iv.s_wi {ab:Nat×Nat}(C:Cx4 m v p fs){f:Fr}(K:K4 m v p fs B T on y s)(ql:q<m)(qx:¬ xo p on q)(hq:(B q).wt.head? =some f)(D:Ds p B T on (gW q f j) s)(j1:1<=j)(hj:j<LW f)(ho:on=true->∃a b,o=some (a,b)/\11<=a/\2<=b/\b<=7/\(q=p->j<=a/\a<LW f))(hX:X4 m p y on B<=n+8+j):Go4 m v p fs ab o y n s:=by
 have g:=K.bs.head hq
 have E:FrN f:=(C.F.ok _ g).2
 have W:LW f<=43:=C.l4 (q,f) g
 have X:=K.qX ql qx hq
 have u:1<=n:=by lia
 have M:q<s.length:=by rw[K.ln];exact ql
 obtain⟨N,O⟩:=b3E E hj M qx D K.of
 have d :(on=true->∃a b,o=some (a,b)/\11<=a/\2<=b/\b<=7/\(q=p->j+1<=a/\a<LW f))->Iv m v p fs o y (n-1) (cT none s):=λho=>by
  by_cases c:j+1<LW f
  ·exact .wi K.mv ql qx hq (N c) (by lia) c ho (by lia)
  ·have P:j+1=LW f:=by lia
   have Q:q≠p:=λz=>by
    cases on with
    | true=>
     obtain⟨a,b,_,_,_,_,h⟩:=ho rfl
     have:=h z
     lia
    |false=>exact qx ⟨z,rfl⟩
   exact .tl K.mv ql Q hq (O P) (by lia) (λz=>let ⟨a,b,r,_,h3,h4,_⟩:=ho z;⟨a,b,r,h3,h4,YX _⟩) (by lia)
 cases on with
 | false=>
  obtain⟨S,e,R,_⟩:=K.of rfl
  exact jO u e R (d λz=>by cases z)
 | true =>
  obtain⟨a,b,U,i,G,H,w⟩:=ho rfl
  obtain⟨I,e,t,Y⟩:=D.pAt K.ln C
  subst U
  rcases t with ⟨x,rfl⟩ | ⟨x,t⟩
  ·subst x
   obtain⟨ja,al⟩:=w rfl
   refine⟨u,_,e,λA=>?_,λA=>d λ_=>⟨a,b,rfl,i,G,H,λ_=>⟨?_,al⟩⟩⟩
   rotate_left
   ·have:¬ j=a:=of_decide_eq_false A
    lia
   exact Iv.s_hit C K hq D (by have:j=a:=YK A;lia) hj hX
  ·have V:yW (some (a,b)) I=false:=by
    rcases t with rfl | ⟨k,l,r,lt,J,rfl⟩
    ·rfl
    ·refine Yl λz=>?_
     have Z:j=a:=z
     have:=wB E (by lia) hj (.inr ⟨k,l,r,lt,J,rfl⟩)
     cases this
   have L:uY ab (some (a,b)) I=some (a,b):=by
    rcases t with rfl | ⟨k,l,r,lt,J,rfl⟩ <;> rfl
   exact uK u e rfl (by rw[L];exact V) (by rw[L];exact d λ_=>⟨a,b,rfl,i,G,H,λz=>absurd z.symm x⟩)
def K4.over (C:Cx4 m v p fs){f:Fr}{T':Nat->Int}(K:K4 m v p fs B T false y s)(a:Bs m v p fs (nB p B q f)):K4 m v p fs (nB p B q f) T false y (cT none s):=⟨jG.trans K.ln,a,K.of.step,K.y3,(λz=>by cases z),K.tf,λz=>by cases z⟩
def Iv.s_tl {ab:Nat×Nat}(C:Cx4 m v p fs){f:Fr}(K:K4 m v p fs B T on y s)(ql:q<m)(qp:q≠p)(hq:(B q).wt.head? =some f)(D:Ds p B T on (gT q f c) s)(hc:c<9+v)(ho:on=true->∃a b,o=some (a,b)/\2<=b/\b<=7/\c<=b)(hX:X4 m p y on B<=n+52+c):Go4 m v p fs ab o y n s:=by
 have L:=C.v5
 have M:=C.v1
 have N:90<=X4 m p y on B:=X4.one (vL ql qp (a1A hq))
 have l:1<=n:=by lia
 obtain⟨r,w⟩:=a4I C K.bs K.ln hc K.t17 D K.of
 cases on with
 | false=>
  obtain⟨S,e,x,_⟩:=K.of rfl
  refine jO l e x ?_
  by_cases c1:c<8+v
  ·exact .tl K.mv ql qp hq (r c1) (by lia) (λz=>by cases z) (by lia)
  ·have O:=a1Z (B:=B) ql qp hq
   have P:X4 m p y false (nB p B q f)+90=X4 m p y false B:=by unfold X4;lia
   exact .re (K.over C (T':=T) (K.bs.over C qp hq)) (w (by lia)) (by decide) (by decide) (by lia)
 | true =>
  obtain⟨a,b,A,E,F,Q⟩:=ho rfl
  subst A
  obtain⟨R,e,h,G⟩:=D.pAt K.ln C
  unfold gT at h
  rw[if_neg λz=>qp z.symm]at h
  subst h
  refine⟨l,_,e,λj=>?_,λj=>?_⟩
  ·have H:c=b:=YK j
   obtain⟨u,U,I,tp,tu⟩:=K.tn rfl
   obtain⟨t,g⟩:=b6P C K.bs K.ln qp (by lia) (by lia) D K.of G (by lia)
   have V:=X4.hit (m:=m) (p:=p) (B:=B) (y:=y) (by lia)
   by_cases d:T p+1<18
   ·rw[if_pos d]at g
    exact .r4 (u:=u+1) ⟨jG.trans K.ln,K.bs,by lia,by lia,by lia,d,by rw[if_pos rfl,tp];lia,K.ne rfl⟩ t (λi k=>by rw[tu i k];lia) (by lia) (by lia) g (by lia)
   ·rw[if_neg d]at g
    have J:=K.goOff (wp:=some p) (by lia) g (by lia)
    have W:X4 m p (y+1) false B<=X4 m p (y+1) true B:=X4.le
    exact .tl J ql qp hq (t.off (T':=λ_=>16) λi k=>by rw[tu i k];lia) (by lia) (λz=>by cases z) (by lia)
  ·have H:¬ c=b:=of_decide_eq_false j
   exact .tl K.mv ql qp hq (r (by lia)) (by lia) (λ_=>⟨a,b,rfl,E,F,by lia⟩) (by lia)
def Iv.s_tp {ab:Nat×Nat}(C:Cx4 m v p fs){f:Fr}(K:K4 m v p fs B T false y s)(a:f.1∈mH fs p)(D:Ds p B T false (gT p f c) s)(b:c<9+v)(i:X4 m p y false B+25<=n+c):Go4 m v p fs ab o y n s:=by
 have j:=C.v5
 obtain⟨d,g⟩:=a4I C K.bs K.ln b K.t17 D K.of
 obtain⟨S,e,h,_⟩:=K.of rfl
 refine jO (by lia) e h ?_
 by_cases c1:c<8+v
 ·exact .tp K.mv a (d c1) (by lia) (by lia)
 ·have k:X4 m p y false (nB p B p f)=X4 m p y false B:=by unfold X4;rw[xX]
  exact .re (K.over C (T':=T) (K.bs.overP C a)) (g (by lia)) (by decide) (by decide) (by lia)
def KF.mv (K:KF m v p fs B y u tp mp s):KF m v p fs B y u tp mp (cT wp s):=⟨jG.trans K.ln,K.bs,K.y3,K.uy,K.t0,K.t8,K.tt,K.ne⟩
def KF.u16 (K:KF m v p fs B y u tp mp s):7*u+y<=16:=by
 have:=K.t8
 have:=K.tt
 have:=K.uy
 have:=K.y3
 cases mp
 ·rw[if_neg (by decide)]at *;lia
 ·rw[if_pos rfl]at *;lia
def Iv.s_r4 {ab:Nat×Nat}{q c u:Nat}{f:Fr}(K:KF m v p fs B y u tp true s)(D:Ds p B T false (gT q f c) s)(d:∀i,i≠p->T i+8=7*(u:Int)+((y:Nat):Int))(k:3<=c)(g:c<=8)(e:s[p]? =some { B p with tot:=tp,now:= .flag 6 true })(l:X4 m p y true B+30<=n):Go4 m v p fs ab o y n s:=by
 have u16:=K.u16
 obtain⟨r,h⟩:=b2W (by lia) g D e λi j=>by rw[d i j];lia
 refine uK (by lia) e rfl rfl (.fl (a:=5) (b:=6) K.mv h d (by decide) (by decide) (λ_=>rfl) ?_ (by lia))
 rw[jT e,fC rfl,if_neg (by decide)]
 rfl
def Iv.s_uf {ab:Nat×Nat}{l u:Nat}{k:Stc}(K:KF m v p fs B y u tp false s)(D:Ds p B T false (gQ k) s)(j:∀i,i≠p->T i+1=7*(u:Int)+((y:Nat):Int))(q:(∃h,k= .reads h/\6<=l+tz h)\/∃x z,k= .tlR x z 0 0)(l1:1<=l)(F:l<=6)(e:s[p]? =some { B p with tot:=tp,now:= .flag l false })(G:X4 m p y true B+30+l<=n):Go4 m v p fs ab o y n s:=by
 have u16:=K.u16
 have t:iJ s=0:=nW e rfl
 have f:(cT none s)[p]? =some { B p with tot:=tp,now:=if l-1=0 then .settles false else .flag (l-1) false }:=by
  rw[jT e,fC rfl]
  by_cases c:l=1
  ·rw[if_pos c,if_pos (by lia)]
  ·rw[if_neg c,if_neg (by lia)]
 have g:∀{h:List Int},ans (h++[0])≠"six"->tz h<=4:=λ{h} w=>by
  by_cases c:tz h<=4
  ·exact c
  ·exact absurd (lW (by have:=vQ h;show 5<Wm.run _;lia)) w
 refine uK (by lia) e rfl rfl ?_
 rcases a7B (wp:=none) (b:=0) (q.imp (λ⟨h,a,_⟩=>⟨h,a⟩) λz=>⟨rfl,z⟩) (λi _=>by rw[pB,t]) (λi A=>by rw[j i A];lia) D with ⟨h,rfl,r,D'⟩ | ⟨h,rfl,r,D'⟩ | D'
 ·rcases q with ⟨C,d,E⟩ | ⟨_,_,d⟩
  ·cases d
   have:=g (by rw[r];exact mZ.2.2.2.2.1)
   rw[if_neg (by lia)]at f
   exact .uf (l:=l-1) K.mv D' j (.inl ⟨_,rfl,by rw[a8W];lia⟩) (by lia) (by lia) f (by lia)
  ·cases d
 ·rcases q with ⟨C,d,E⟩ | ⟨_,_,d⟩
  ·cases d
   have:=g (by rw[r];decide +kernel)
   rw[if_neg (by lia)]at f
   exact .uf (l:=l-1) K.mv D' j (.inr ⟨_,_,rfl⟩) (by lia) (by lia) f (by lia)
  ·cases d
 ·exact .fl (a:=l-1) (b:=6) K.mv D' j (by lia) (by decide) (λz=>by cases z) f (by lia)
def Iv.s_fl {ab:Nat×Nat}(C:Cx4 m v p fs){a b u:Nat}(K:KF m v p fs B y u tp mp s)(D:Ds p B T false (gG b) s)(hT:∀i,i≠p->T i=7*(u:Int)+((y:Nat):Int))(ab':a<b)(b6:b<=6)(hm:mp=true->a+1=b)(e:s[p]? =some { B p with tot:=tp,now:=if a=0 then .settles mp else .flag a mp })(hX:X4 m p y true B+23+b<=n):Go4 m v p fs ab o y n s:=by
 have u16:=K.u16
 have k:=K.tt
 have t:=K.t8
 have l:=K.t0
 obtain⟨w,q,r⟩:=a7T K.ln C (by lia) D
 have fin:∀{f:Int}{g:Bool},b=1->f=8*((y:Nat):Int)+(u:Int)->8*y+u<18->(cT none s)[p]? =some { B p with tot:=f,now:= .settles g }->Iv m v p fs o y (n-1) (cT none s):=λ{f g} h x lt d=>by
  have A:=r h
  refine .st (on:=true) (T:=λi=>if i=p then f else T i) ⟨jG.trans K.ln,K.bs,(λz=>by cases z),K.y3,λ_=>⟨u,K.uy,lt,by rw[if_pos rfl];exact x,λi j=>by rw[if_neg j];exact hT i j⟩,(λz=>by cases z),λ_=>K.ne⟩ (A.off λi j=>by rw[if_neg j];exact XY _) (λ_=>⟨g,by rw[if_pos rfl];exact d⟩) (by lia)
 by_cases a0:a=0
 ·rw [if_pos a0]at e
  refine uK (by lia) e rfl rfl ?_
  have d:=jT (wp:=none) e
  rw[pB,w,dY rfl,if_neg (by decide)]at d
  cases mp with
  | true=>
   rw[if_pos rfl]at d k
   have h:b=1:=by have:=hm rfl;lia
   unfold eE at d
   by_cases c:tp+8<18
   ·rw[a1E (S:={ B p with tot:=tp,now:= .settles true }) l (by decide) c]at d
    exact fin h k (by lia) d
   ·rw[wR (S:={ B p with tot:=tp,now:= .settles true }) l t (by decide) (by show 18<=tp+8;lia)]at d
    have E:X4 m p y false B<=X4 m p y true B:=X4.le
    exact .st (on:=false) (T:=λ_=>16) ⟨jG.trans K.ln,K.bs,λ_=>⟨_,d,rfl,by show 18<=tp+8;lia⟩,K.y3,(λz=>by cases z),λ_ _ _=>rfl,λz=>by cases z⟩ ((r h).off λi j=>by rw[hT i j];lia) (λz=>by cases z) (by lia)
  | false=>
   rw[if_neg (by decide)]at d k
   by_cases h:b=1
   ·exact fin h (by lia) (by lia) d
   ·exact .fl (a:=0) (b:=b-1) K.mv (q (by lia)) hT (by lia) (by lia) (λz=>by cases z) d (by lia)
 ·rw[if_neg a0]at e
  refine uK (by lia) e rfl rfl (.fl (a:=a-1) (b:=b-1) K.mv (q (by lia)) hT (by lia) (by lia) (λz=>by have:=hm z;lia) ?_ (by lia))
  rw[jT e,fC rfl]
  by_cases c:a=1
  ·rw[if_pos c,if_pos (by lia)]
  ·rw[if_neg c,if_neg (by lia)]
def Iv.s_fo {ab:Nat×Nat}(C:Cx4 m v p fs){b:Nat}(K:K4 m v p fs B T false y s)(D:Ds p B T false (gG b) s)(a:1<=b)(h:X4 m p y false B+23+b<=n):Go4 m v p fs ab o y n s:=by
 obtain⟨i,d,f⟩:=a7T K.ln C a D
 obtain⟨S,e,g,_⟩:=K.of rfl
 refine jO (by lia) e g ?_
 by_cases c:b=1
 ·exact .st K.mv (f c) (λz=>by cases z) (by lia)
 ·exact .fo K.mv (d (by lia)) (by lia) (by lia)
def Iv.s_st {ab:Nat×Nat}(K:K4 m v p fs B T on y s)(D:Ds p B T false gS s)(hp:on=true->∃mp,s[p]? =some { B p with tot:=T p,now:= .settles mp })(hX:X4 m p y on B+4<=n):Go4 m v p fs ab o y n s:=by
 cases on with
 | true=>
  obtain⟨mp,e⟩:=hp rfl
  obtain⟨u,_,_,tp,_⟩:=K.tn rfl
  exact uK (by lia) e rfl rfl (.re K.mv (a5S (on:=true) D ⟨mp,e,by lia⟩) (by decide) (by decide) (by lia))
 | false=>
  obtain⟨S,e,a,_⟩:=K.of rfl
  exact jO (by lia) e a (.re K.mv (a5S (on:=false) D ⟨S,e,a⟩) (by decide) (by decide) (by lia))
def Iv.s_re {ab:Nat×Nat}(C:Cx4 m v p fs)(K:K4 m v p fs B T on y s)(D:Ds p B T on (gR l) s)(l1:1<=l)(l3:l<=3)(hX:X4 m p y on B+l<=n):Go4 m v p fs ab o y n s:=by
 obtain⟨b,d⟩:=b7H D K.of
 have a:Iv m v p fs o y (n-1) (cT none s):=by
  by_cases c:l=1
  ·exact .fr (k:=0) K.mv (d c) (by decide) (by lia)
  ·exact .re K.mv (b (by lia)) (by lia) (by lia) (by lia)
 cases on with
 | true=>
  obtain⟨h,e,f,_⟩:=D.pAt K.ln C
  cases f
  exact uK (by lia) e rfl rfl a
 | false=>
  obtain⟨S,e,g,_⟩:=K.of rfl
  exact jO (by lia) e g a
def Iv.s_vo {ab:Nat×Nat}{d:Nat}(K:K4 m v p fs B T false y s)(D:Ds p B (λ_=>15) false (gQ (.reads h)) s)(g:nmB (kp h)∈mH fs p)(r:9<=(kp h).length)(hd:6<=d+tu h)(F:d<=6)(G:X4 m p y false B+30+d<=n):Go4 m v p fs ab o y n s:=by
 obtain⟨S,e,u,_⟩:=K.of rfl
 refine jO (by lia) e u ?_
 have x:iJ s=1:=D.bit1 K.of λi t n _ _ _ g=>by cases g;exact(by decide:(1:Int)≠0)
 have j:∀i,i≠p->(15:Int)+1<=T i:=λi a=>by rw[K.tf rfl i a];decide
 obtain⟨l,A⟩:=a0Q (b:=1) r
 rcases a7B (wp:=none) (b:=1) (.inl ⟨h,rfl⟩) (λi _=>by rw[pB,x]) (λi a=>by decide) D with ⟨C,k,q,D'⟩ | ⟨C,k,q,D'⟩ | D'
 ·cases k
  have:tu h<=4:=by
   by_cases c:tu h<=4
   ·exact c
   ·exact absurd ((lW (w:=h++[1]) (by have:=a0I h;show 5<Wm.run _;lia)).symm.trans q) (by decide +kernel)
  exact .vo (d:=d-1) K.mv D' (by rw[l];exact g) A (by rw[a8Y];lia) (by lia) (by lia)
 ·cases k
  refine .tp (f:=(nmB (kp (h++[1])),daB (kp (h++[1])))) (c:=0) K.mv (by rw[l];exact g) ((D'.off (T':=T) λi a=>by have:=j i a;lia).imp λi n E g=>?_) (by lia) (by lia)
  have a:i≠p:=λz=>E ⟨z,rfl⟩
  unfold gT
  rw[if_neg a]
  exact g
 ·exact .fo (b:=6) K.mv (D'.off λi a=>j i a) (by decide) (by lia)
def Iv.step {ab:Nat×Nat}(C:Cx4 m v p fs)(h:Iv m v p fs o y n s)(nd:¬ Dn4 p s)(a1:11<=ab.1)(b2:2<=ab.2)(b7:ab.2<=7)(ha:∀f,(dJ fs p).head? =some f->ab.1<LW f):Go4 m v p fs ab o y n s:=by
 cases h with
 |fr K D k8 hX=>exact Iv.s_fr C nd a1 b2 b7 ha K D k8 hX
 |wi K ql qx hq D j1 hj ho hX=>exact Iv.s_wi C K ql qx hq D j1 hj ho hX
 |tl K ql qp hq D hc ho hX=>exact Iv.s_tl C K ql qp hq D hc ho hX
 |tp K fm D hc hX=>exact Iv.s_tp C K fm D hc hX
 |r4 K D hT c3 c8 e hX=>exact Iv.s_r4 K D hT c3 c8 e hX
 |uf K D hT hn l1 l6 e hX=>exact Iv.s_uf K D hT hn l1 l6 e hX
 |fl K D hT ab' b6 hm e hX=>exact Iv.s_fl C K D hT ab' b6 hm e hX
 |fo K D b1 hX=>exact Iv.s_fo C K D b1 hX
 |st K D hp hX=>exact Iv.s_st K D hp hX
 |re K D l1 l3 hX=>exact Iv.s_re C K D l1 l3 hX
 |vo K D hn k9 hd d6 hX=>exact Iv.s_vo K D hn k9 hd d6 hX
end
section
variable {p:Nat}{o:Option (Nat×Nat)}{s:List PS}
structure Fc4 (m v p:Nat)(fs:List (Nat×Nat×List Int))(y:Nat)(s:List PS):Prop where
 ln:s.length=m
 y3:y<=3
 ot:∀(i:Nat)(S:PS),s[i]? =some S->i≠p->S.now≠ .off/\S.tot<18
 ex:∃B,Bs m v p fs B/\∀(i:Nat)(S:PS),s[i]? =some S->i≠p->S.wt=(B i).wt/\S.up=(B i).up
def Ds.fc {g:Nat->Stc->Prop}(d:s.length=m)(f:Bs m v p fs B)(h:y<=3)(D:Ds p B T on g s)(j:∀i n,g i n->n≠ .off)(k:∀i,i≠p->T i<18):Fc4 m v p fs y s:=by
 refine⟨d,h,λi S e a=>?_,B,f,λi S e a=>?_⟩
 ·obtain⟨t,n,⟨_,b,_⟩,rfl,c⟩:=D i S e λz=>a z.1
  exact⟨j i n c,by have:=k i a;show t<18;lia⟩
 ·obtain⟨t,n,_,rfl,_⟩:=D i S e λz=>a z.1
  exact⟨rfl,rfl⟩
def zA {f:Fr}{n:Stc}(h:gT q f c i n):n≠ .off:=by
 unfold gT at h
 rw[h]
 split <;> exact λz=>by cases z
def Iv.fc (h:Iv m v p fs o y n s):Fc4 m v p fs y s:=by
 cases h with
 |fr K D k8 hX=>exact D.fc K.ln K.bs K.y3 (λi n h z=>by rw[z]at h;cases h) K.t17
 | wi K ql qx hq D j1 hj ho hX=>
  refine D.fc K.ln K.bs K.y3 (λi n h z=>?_) K.t17
  rw[z]at h
  rcases h with ⟨_,h⟩ | ⟨_,h | ⟨_,_,_,_,_,h⟩⟩ <;> cases h
 |tl K ql qp hq D hc ho hX=>exact D.fc K.ln K.bs K.y3 (λi n h=>zA h) K.t17
 |tp K fm D hc hX=>exact D.fc K.ln K.bs K.y3 (λi n h=>zA h) K.t17
 |r4 K D hT c3 c8 e hX=>exact D.fc K.ln K.bs K.y3 (λi n h=>zA h) λi a=>by have:=hT i a;have:=K.u16;lia
 | uf K D hT hn l1 l6 e hX=>
  refine D.fc K.ln K.bs K.y3 (λi n h z=>?_) λi a=>by have:=hT i a;have:=K.u16;lia
  have b:n=_:=h
  rw[z]at b
  rcases hn with ⟨_,q,_⟩ | ⟨_,_,q⟩ <;> (rw[q]at b;cases b)
 |fl K D hT ab' b6 hm e hX=>exact D.fc K.ln K.bs K.y3 (λi n ⟨_,h⟩ z=>by rw[z]at h;cases h) λi a=>by have:=hT i a;have:=K.u16;lia
 |fo K D b1 hX=>exact D.fc K.ln K.bs K.y3 (λi n ⟨_,h⟩ z=>by rw[z]at h;cases h) K.t17
 |st K D hp hX=>exact D.fc K.ln K.bs K.y3 (λi n ⟨_,h⟩ z=>by rw[z]at h;cases h) K.t17
 |re K D l1 l3 hX=>exact D.fc K.ln K.bs K.y3 (λi n h z=>by rw[z]at h;cases h) K.t17
 |vo K D hn k9 hd d6 hX=>exact D.fc K.ln K.bs K.y3 (λi n h z=>by rw[z]at h;cases h) λi a=>by decide
theorem a0G:∀{m:Nat},(mG m λi=>if i=p then [] else g i)<=mG m g
 |0=>Yc _
 | m+1=>by
  rw[eZ,eZ]
  have:=a0G (m:=m)
  split
  ·exact YY (Nat.add_le_add_left (YX _) _) (Nat.add_le_add_right this _)
  ·lia
def Iv.start (C:Cx4 m v p fs)(l:1<=fs.length)(b:s.length=m)(h:∀i S,s[i]? =some S->S=B91 (λ_=>(0,0)) v fs i):Iv m v p fs none 0 (270+90*fs.length) s:=by
 have a:mG m (λi=>(B91 (λ_=>(0,0)) v fs i).wt)=fs.length:=rR λf c=>(C.F.ok f c).1
 have n:mO m p (B91 (λ_=>(0,0)) v fs)<=fs.length:=by
  rw[<-a]
  exact a0G
 refine .fr (k:=0) (T:=λ_=>0) (on:=true) (B:=B91 (λ_=>(0,0)) v fs) ⟨b,⟨λi=>rfl,λi=>⟨rfl,rfl⟩,λi g d=>iZ d,rfl,λi _ _=>rfl,λi j _ _ _ _ _=>rfl⟩,(λz=>by cases z),by decide,λ_=>⟨0,Yc 0,by decide,rfl,λi _=>rfl⟩,(λz=>by cases z),λ_=>pU (by rw[a];lia)⟩ (λi S e _=>⟨0,.free 0,⟨XY 0,XY 0,λ_=>rfl⟩,h i S e,rfl⟩) (YX _) ?_
 unfold X4
 rw[if_pos rfl]
 lia
end
def wpL (p:Nat)(hit:Bool):List Int:=if hit=true then [(p:Int)] else []
def wpO (p:Nat)(hit:Bool):Option Nat:=if hit=true then some p else none
def b3C {p:Nat}{hit:Bool}:wrB (wpL p hit) ((i:Nat):Int) b=hrd (wpO p hit) b i:=by
 unfold wrB hrd wpL wpO
 cases hit with
 | false=>
  rw[if_neg (show ¬ (false=true) by decide),if_neg (show ¬ (false=true) by decide),if_neg (by simp),if_neg (by simp)]
 | true=>
  rw[if_pos rfl,if_pos rfl]
  by_cases c:i=p
  ·rw[if_pos (by rw[c];exact Yk.mpr rfl),if_pos (by rw[c])]
  ·rw[if_neg (λz=>c (by have:=Yk.mp z;lia)),if_neg (λz=>c (Yp z).symm)]
def a4F {R:RS}{t p:Nat}{hit:Bool}(L:Ln R m t)(hb:xN (R.ps.map bB) b)(h01:∀z∈R.ps.map bB,z=0\/z=1):(kY R (wrL (wpL p hit) R.ps.length b) b).ps=cT (wpO p hit) R.ps/\Ln (kY R (wrL (wpL p hit) R.ps.length b) b) m (t+1):=by
 have a:(wrL (wpL p hit) R.ps.length b).length=m:=by unfold wrL;rw[Ya,Y2,L.ps]
 refine⟨?_,L.turn a⟩
 have c:b=iJ R.ps:=a3A h01 hb
 rw[a0C L a]
 unfold cT
 refine List.ext_getElem? λi=>?_
 rw[Xs,Xs]
 cases e:R.ps[i]? with
 |none=>rfl
 | some S=>
  have d:=(Ye.mp e).1
  show some _=some _
  rw[Yf]
  unfold wrL
  rw[Yo,X3 d]
  show some (aZ S (wrB (wpL p hit) ((i:Nat):Int) b)).2=_
  rw[b3C,c]
theorem a1C {R:RS}{t:Nat}(h:Ln R m t)(hl:hs.length=m):∀n,n<=m->∀x∈(aY R hs n).ev,x∈R.ev\/∃(i:Nat)(S:PS),R.ps[i]? =some S/\x.2.1=i/\x.2.2=(aZ S (hs.getD i 0)).1
 |0,_,x,hx=> .inl hx
 | n + 1,hn,x,hx=>by
  have l:=h.ps
  have e1:=Yb (l:=R.ps) (i:=n) (by lia)
  have e2:=Yb (l:=hs) (i:=n) (by lia)
  have e3:=Yb (l:=R.sa) (i:=n) (by rw[h.sa];lia)
  have e4:=Yb (l:=R.he) (i:=n) (by rw[h.he];lia)
  rw[gM e1 e2 e3 e4]at hx
  change x∈(aY R hs n).ev++evt _ _ _ at hx
  rcases YL.mp hx with z | z
  ·exact a1C h hl n (by lia) x z
  ·right
   unfold evt at z
   split at z
   ·cases z
   ·have:=Yk.mp z
    refine⟨n,_,e1,by rw[this],?_⟩
    rw[this,Yf,e2]
    rfl
def Ev4 (p:Nat)(R:RS):Prop:=∀x∈R.ev,x.2.2=("off":Str)->x.2.1=p
def b1D (S:PS)(b:Int):(aZ S b).2.up.length<=S.up.length+1:=by
 have g:∀i w nx,(cH S i w nx).2.up.length<=S.up.length+1:=λi w nx=>by unfold cH;split <;> exact XE _
 have d:∀e,(bQ S e).2.up.length<=S.up.length+1:=λe=>g _ _ _
 have j:∀e,(cR S e).2.up.length<=S.up.length+1:=λe=>g _ _ _
 have o:(eE S).2.up.length<=S.up.length+1:=g _ _ _
 have a:S.up.length<=S.up.length+1:=XE _
 have p:∀f:Fr,(S.up++[f]).length<=S.up.length+1:=λf=>by rw[Yd];exact Yc _
 cases en:S.now with
 |off=>rw[lC en];exact a
 |free k=>rw[iQ en];(repeat' split) <;> first | exact d _ | exact a
 |speaks n ds k=>rw[dW en];(repeat' split) <;> first | exact d _ | exact a
 |reads h=>rw[eQ en];(repeat' split) <;> first | exact d _ | exact a
 |tlS v c=>rw[jM en];(repeat' split) <;> first | exact d _ | exact j _ | exact a
 | tlR n ds v c=>
  rw[iC en]
  split
  ·exact a
  ·split
   ·exact d _
   ·split
    ·exact j _
    ·show (if mD S n=true then S.up++[(n,ds)] else S.up).length<=_
     split
     ·exact p _
     ·exact a
 |flag l m=>rw[fC en];(repeat' split) <;> exact a
 |settles m=>rw[dY en];(repeat' split) <;> first | exact o | exact a
 |rests l=>rw[gK en];(repeat' split) <;> first | exact d _ | exact a
structure Rv4 (m v p:Nat)(fs:List (Nat×Nat×List Int))(o:Option (Nat×Nat))(y n t:Nat)(R:RS):Prop where
 ln:Ln R m t
 iv:Iv m v p fs o y n R.ps
 ev:Ev4 p R
 up:∀S∈R.ps,S.up.length<=t
 wt:∀S∈R.ps,S.wt.length<=9
def Rv4.sz {p:Nat}{o:Option (Nat×Nat)}{t:Nat}{R:RS}(h:Rv4 m v p fs o y n t R)(b:m<=5)(d:t<=800):SzR R:=by
 refine⟨by rw[h.ln.bo];lia,λx a=>by rw[h.ln.sl x a];lia,λx a=>by rw[h.ln.hl x a];lia,?_,λS c=>by have:=h.up S c;lia⟩
 have:=h.ln.ev
 have:m*t<=5*t:=Nat.mul_le_mul_right _ b
 lia
def Rv4.turn {p:Nat}{o o':Option (Nat×Nat)}{j k t:Nat}{R:RS}{hit:Bool}(h:Rv4 m v p fs o y n t R)(s:xN (R.ps.map bB) b)(g:∀z∈R.ps.map bB,z=0\/z=1)(l:Iv m v p fs o' j k (cT (wpO p hit) R.ps)):Rv4 m v p fs o' j k (t+1) (kY R (wrL (wpL p hit) R.ps.length b) b):=by
 obtain⟨e,L⟩:=a4F (p:=p) (hit:=hit) h.ln s g
 have q:(wrL (wpL p hit) R.ps.length b).length=m:=by unfold wrL;rw[Ya,Y2,h.ln.ps]
 refine⟨L,by rw[e];exact l,λx u ex=>?_,λS c=>?_,λS c=>?_⟩
 ·rcases a1C h.ln q R.ps.length (by rw[h.ln.ps];exact Yc _) x u with z | ⟨i,S,eS,d,w⟩
  ·exact h.ev x z ex
  ·rw [d]
   by_cases ip:i=p
   ·exact ip
   ·exfalso
    rw[w]at ex
    have A:=a0C (b:=b) h.ln q
    have r:(kY R (wrL (wpL p hit) R.ps.length b) b).ps[i]? =some (aZ S ((wrL (wpL p hit) R.ps.length b).getD i 0)).2:=by rw[A,Xs,eS];rfl
    rw[e]at r
    exact(l.fc.ot i _ r ip).1 (a4B ex)
 ·rw[e]at c
  obtain⟨i,a⟩:=Xg.mp c
  obtain⟨f,d,rfl⟩:=tX a
  have:=b1D f (hrd (wpO p hit) (iJ R.ps) i)
  have:=h.up f (Yu d)
  lia
 ·rw[e]at c
  obtain⟨i,a⟩:=Xg.mp c
  obtain⟨f,d,rfl⟩:=tX a
  exact YY (a7Q f _).2.2.2 (h.wt f (Yu d))
def a9H (K:W.Frag):Sp:=λb H Q _=>∃(a:Addr)(ss:List Int)(m:Nat),b= [.ref a,.int (m:Int)]/\SqL K H a (ss.map V.int)/\ss.length<=63/\3<=m/\m<=5/\∀(fl:Addr)(ts:List Addr)(fs:List (Nat×Nat×List Int)) H',H fl=none->Same H H'->a3R H' fl ts fs->F92 m fs->(∀f∈fs,f.2.2.length<=1)->1<=fs.length->fs.length<=5->Q (.ref fl) H'
def a9V (n:Nat)(z:Int):(List.replicate n [V.int z]).flatten=(List.replicate n z).map V.int:=by
 induction n with
 |zero=>rfl
 |succ n ih=>rw[Y1,Y1,Y6,ih,YE];rfl
def a5A (K:W.Frag):Sp:=λa H Q _=>∃(d:Addr)(n:Nat)(ds:List Int),a= [.int (n:Int),.ref d]/\SqL K H d (ds.map V.int)/\n<256/\ds.length<=7/\ds.all byt=true/\∀H',Same H H'->Q (.int (((put (fb (n:Int) ds)).length:Nat):Int)) H'
def uL {s:Str}{k:Int}(e:H t=some (.tup [.str s,.int k])):DV K H (.ref t) (.tuple [.str s,.int k]):= .tup (Vc e) (.cons (.str _) (.cons (.int _) .nil))
def lA {s:Str}(a:PyData.strOk s=true)(n:Int):SeqAt.shaped (.tuple [.str s,.int n])=true:=by
 unfold SeqAt.shaped
 rw[Xv]
 refine⟨by simp only[PyData.canLay0,PyData.canLayAll0,a,Bool.and_self],Yj ?_⟩
 simp only[PyData.depth,PyData.depthAll]
 decide
theorem a5R:∀s:Stc,PyData.strOk s.shown.1=true
 |.free _=>(by decide +kernel:PyData.strOk ("free":Str)=true)
 |.speaks _ _ _=>(by decide +kernel:PyData.strOk ("speaks":Str)=true)
 |.reads _=>(by decide +kernel:PyData.strOk ("reads":Str)=true)
 |.tlS _ _=>(by decide +kernel:PyData.strOk ("tail speaks":Str)=true)
 |.tlR _ _ _ _=>(by decide +kernel:PyData.strOk ("tail reads":Str)=true)
 |.flag _ _=>(by decide +kernel:PyData.strOk ("flag":Str)=true)
 |.settles _=>(by decide +kernel:PyData.strOk ("settles":Str)=true)
 |.rests _=>(by decide +kernel:PyData.strOk ("rests":Str)=true)
 |.off=>(by decide +kernel:PyData.strOk ("off":Str)=true)
def b8T (x:Nat×Nat):List PyData:=[.tuple [.str "speaks",.int ((x.1:Nat):Int)],.tuple [.str "tail reads",.int ((x.2:Nat):Int)]]
def wZ {s t:Str}{j k:Int}:PyData.eqv (.tuple [.str s,.int j]) (.tuple [.str t,.int k])=(decide (s=t) && decide (j=k)):=by
 have a:(s == t)=decide (s=t):=by
  by_cases c:s=t
  ·rw[c,Yj rfl];exact beq_self_eq_true _
  ·rw[Yl c];exact Y5.mpr c
 have b:(j == k)=decide (j=k):=by
  by_cases c:j=k
  ·rw[c,Yj rfl];exact beq_self_eq_true _
  ·rw[Yl c];exact Y5.mpr c
 simp only[PyData.eqv,PyData.eqvAll,Bool.and_true]
 rw[a,b]
def b1T (n:Stc)(x:Nat×Nat):((b8T x).any λe=>PyData.eqv e (.tuple [.str n.shown.1,.int ((n.shown.2:Nat):Int)]))=yW (some x) n:=by
 show (PyData.eqv _ _ || (PyData.eqv _ _ || false))=_
 rw[wZ,wZ,Bool.or_false]
 have ne:("speaks":Str)≠"free"/\("speaks":Str)≠"reads"/\("speaks":Str)≠"tail speaks"/\("speaks":Str)≠"tail reads"/\("speaks":Str)≠"flag"/\("speaks":Str)≠"settles"/\("speaks":Str)≠"rests"/\("speaks":Str)≠"off":=by decide +kernel
 have g:("tail reads":Str)≠"free"/\("tail reads":Str)≠"reads"/\("tail reads":Str)≠"tail speaks"/\("tail reads":Str)≠"speaks"/\("tail reads":Str)≠"flag"/\("tail reads":Str)≠"settles"/\("tail reads":Str)≠"rests"/\("tail reads":Str)≠"off":=by decide +kernel
 have i:∀{a b:Str}{p q:Bool},a≠b->(decide (a=b) && p || q)=q:=λ{a b p q} h=>by rw[Yl h];cases p <;> cases q <;> rfl
 have f:∀{a b:Str}{p:Bool},a≠b->(decide (a=b) && p)=false:=λ{a b p} h=>by rw[Yl h];rfl
 cases n with
 |free k=>exact(i ne.1).trans (f g.1)
 | speaks a b k=>
  refine(show (decide (("speaks":Str)="speaks") && decide (((x.1:Nat):Int)=((k:Nat):Int)) || (decide (("tail reads":Str)="speaks") && decide (((x.2:Nat):Int)=((k:Nat):Int))))=decide (k=x.1) from ?_)
  rw[f g.2.2.2.1,Bool.or_false,Yj rfl,Bool.true_and]
  exact decide_eq_decide.mpr (by lia)
 |reads h=>exact(i ne.2.1).trans (f g.2.1)
 |tlS a b=>exact(i ne.2.2.1).trans (f g.2.2.1)
 | tlR a b c d=>
  refine(show (decide (("speaks":Str)="tail reads") && decide (((x.1:Nat):Int)=((c:Nat):Int)) || (decide (("tail reads":Str)="tail reads") && decide (((x.2:Nat):Int)=((c:Nat):Int))))=decide (c=x.2) from ?_)
  rw[f ne.2.2.2.1,Bool.false_or,Yj rfl,Bool.true_and]
  exact decide_eq_decide.mpr (by lia)
 |flag l m=>exact(i ne.2.2.2.2.1).trans (f g.2.2.2.2.1)
 |settles m=>exact(i ne.2.2.2.2.2.1).trans (f g.2.2.2.2.2.1)
 |rests l=>exact(i ne.2.2.2.2.2.2.1).trans (f g.2.2.2.2.2.2.1)
 |off=>exact(i ne.2.2.2.2.2.2.2).trans (f g.2.2.2.2.2.2.2)
def lK (F:Hp)(l:Addr)(o:Option (Nat×Nat)):Prop:=match o with
 |none=>F l=some (.lst [])
 |some x=>∃t1 t2,F l=some (.lst [.ref t1,.ref t2])/\F t1=some (.tup [.str "speaks",.int ((x.1:Nat):Int)])/\F t2=some (.tup [.str "tail reads",.int ((x.2:Nat):Int)])
def lK.same {F F':Hp}{l:Addr}{o:Option (Nat×Nat)}(h:lK F l o)(g:Same F F'):lK F' l o:=by
 cases o with
 |none=>exact g _ _ h
 |some x=>obtain⟨d,e,a,b,c⟩:=h;exact⟨d,e,g _ _ a,g _ _ b,g _ _ c⟩
def a9O (K:W.Frag):Sp:=λb H Q _=>∃(a zl:Addr)(ss:List Int)(t:Nat)(zs:List Nat),b= [.ref a,.int (t:Int),.ref zl]/\SqL K H a (ss.map V.int)/\ss.length<=63/\t<=5000/\H zl=some (.lst (zs.map λn=>V.int ((n:Nat):Int)))/\(∀z∈zs,27<=z/\z<=200)/\∀(l:Addr)(x:Nat×Nat) H',H l=none->Same H H'->(∀t1 t2,H' l=some (.lst [.ref t1,.ref t2])->H t1=none/\H t2=none)->lK H' l (some x)->11<=x.1->2<=x.2->x.2<=7->(∀z r,zs=z::r->x.1<z)->Q (.ref l) H'
abbrev nV (l:List Nat):List V:=l.map λn=>V.int ((n:Nat):Int)
def b4V (l:List Nat):nV l=(l.map λn=>((n:Nat):Int)).map V.int:=by rw[List.map_map];rfl
theorem vK:∀l:List Nat,(l.map λn=>((n:Nat):Int)).sum=((l.sum:Nat):Int)
 |[]=>rfl
 |a::l=>by rw[YE,XB,XB,vK l];lia
def pY (n:Stc):(∃k,n= .free k/\n.shown.1=("free":Str))\/(n.shown.1≠("free":Str)/\∀ab o,uY ab o n=o):=by
 have ne:("speaks":Str)≠"free"/\("reads":Str)≠"free"/\("tail speaks":Str)≠"free"/\("tail reads":Str)≠"free"/\("flag":Str)≠"free"/\("settles":Str)≠"free"/\("rests":Str)≠"free"/\("off":Str)≠"free":=by decide +kernel
 cases n with
 |free k=>exact .inl ⟨k,rfl,rfl⟩
 |speaks a b k=>exact .inr ⟨ne.1,λ_ _=>rfl⟩
 |reads h=>exact .inr ⟨ne.2.1,λ_ _=>rfl⟩
 |tlS a b=>exact .inr ⟨ne.2.2.1,λ_ _=>rfl⟩
 |tlR a b c d=>exact .inr ⟨ne.2.2.2.1,λ_ _=>rfl⟩
 |flag l m=>exact .inr ⟨ne.2.2.2.2.1,λ_ _=>rfl⟩
 |settles m=>exact .inr ⟨ne.2.2.2.2.2.1,λ_ _=>rfl⟩
 |rests l=>exact .inr ⟨ne.2.2.2.2.2.2.1,λ_ _=>rfl⟩
 |off=>exact .inr ⟨ne.2.2.2.2.2.2.2,λ_ _=>rfl⟩
def lK.dv {l:Addr}{o:Option (Nat×Nat)}(h:lK H l o):∃ds xs,SqL K H l xs/\DVs K H xs ds/\(∀e∈ds,SeqAt.shaped e=true)/\∀n:Stc,(ds.any λe=>PyData.eqv e (.tuple [.str n.shown.1,.int ((n.shown.2:Nat):Int)]))=yW o n:=by
 cases o with
 | none=>
  refine⟨[], [],Vb h,.nil,λe d=>(by cases d),λn=>?_⟩
  cases n <;> rfl
 | some x=>
  obtain⟨f,g,a,b,c⟩:=h
  refine⟨b8T x, [.ref f,.ref g],Vb a,.cons (uL b) (.cons (uL c) .nil),λe d=>?_,λn=>b1T n x⟩
  rcases YI.mp d with z | z
  ·rw[z];exact lA (by decide +kernel) _
  ·rw[Yk.mp z];exact lA (by decide +kernel) _
structure c0W (m v p:Nat)(fs:List (Nat×Nat×List Int))(zs:List Nat)(n0 most:Nat):Prop where
 cx:Cx4 m v p fs
 m5:m<=5
 nl:n0<=most
 n7:n0<=720
 mo:most<=2000
 zb:∀z∈zs,27<=z/\z<=200
 zh:∀f,(dJ fs p).head? =some f->∃r,zs=LW f::r
def a5K (K:W.Frag)(C:Addr)(A:Cs)(P:Addr):Sp:=λb H Q _=>∃(a:Addr)(ss:List Int)(r:Addr)(F:Hp)(R:RS)(o:Own)(m v p:Nat)(fs:List (Nat×Nat×List Int))(zl:Addr)(zs:List Nat)(n0 most:Nat),b= [.ref a,.ref r,.int (p:Int),.ref zl,.int (m:Int),.int (most:Int)]/\(∀H',Same F H'->SqL K H' a (ss.map V.int))/\ss.length<=63/\J95 C A P F H r R o/\c0W m v p fs zs n0 most/\F zl=some (.lst (nV zs))/\Rv4 m v p fs none 0 n0 0 R/\¬ Dn4 p R.ps/\∀(y n t:Nat)(oo:Option (Nat×Nat))(F' H':Hp)(R':RS)(o':Own),J95 C A P F' H' r R' o'->Same F F'->Rv4 m v p fs oo y n t R'->t<=800->Dn4 p R'.ps->Q (.int (y:Int)) H'
def a9G (K:W.Frag)(C:Addr)(A:Cs):Sp:=λa H Q _=>∃(r fl:Addr)(R:RS)(o:Own)(w:Rw)(i p:Nat)(S:PS)(ts:List Addr)(fs:List (Nat×Nat×List Int)),a= [.ref r,.ref fl,.int (i:Int),.int (p:Int)]/\cG C A H r R o w/\R.ps[i]? =some S/\S.up.length<=800/\a3R H fl ts fs/\fs.length<=5/\(∀j,j≠p->flN fs j S.up=if j=i then [] else dJ fs j)/\∀H',Same H H'->Q (.bl true) H'
def sY {f:Nat×Nat×List Int}(a:fs[j]? =some f)(k:Nat):dJ (fs.take (j+1)) k=dJ (fs.take j) k++(if f.1=k then [f.2] else []):=sZ a k
def wI {l:List Nat}:decide (((n:Nat):Int)∈l.map λn=>((n:Nat):Int))=decide (n∈l):=by
 refine decide_eq_decide.mpr ⟨λh=>?_,λh=>YR.mpr ⟨n,h,rfl⟩⟩
 obtain⟨k,a,e⟩:=YR.mp h
 rwa [show n=k by lia]
def pD (K:W.Frag):Sp:=λb H Q _=>∃(a:Addr)(ns:List Int),b= [.ref a]/\SqL K H a (ns.map V.int)/\ns.length<=63/\a3O 965 a6H iqT H/\∀H',Q (.bl true) H'
def b3Z (F:F92 m fs)(h:m<=j):dJ fs j= []:=List.eq_nil_iff_forall_not_mem.mpr λf a=>by have:=(F.ok _ (iZ a)).1;dsimp only at this;lia
def Rv4.fin {p:Nat}{o:Option (Nat×Nat)}{t:Nat}{R:RS}(C:Cx4 m v p fs)(h:Rv4 m v p fs o y n t R)(d:Dn4 p R.ps)(e:R.ps[i]? =some S)(a:i≠p):S.tot<18/\S.wt= []/\∀j,j≠p->flN fs j S.up=if j=i then [] else dJ fs j:=by
 obtain⟨_,_,_,k⟩:=d
 have fc:=h.iv.fc
 obtain⟨B,q,r⟩:=fc.ex
 have s:i<m:=by rw[<-fc.ln];exact(Ye.mp e).1
 refine⟨(fc.ot i S e a).2,k i S e a,λj b=>?_⟩
 rw[(r i S e a).2]
 by_cases c:j=i
 ·subst c
  rw[if_pos rfl]
  exact q.ui j s a
 ·rw [if_neg c]
  by_cases jm:j<m
  ·have u:=q.uj i j s jm a b (λz=>c z.symm)
   have x:=Yb (l:=R.ps) (i:=j) (by rw[fc.ln];exact jm)
   rw[<-(r j _ x b).1,k j _ x b,YH]at u
   exact u
  ·have z:=b3Z C.F (Nat.le_of_not_lt jm)
   rw[z]
   refine List.filter_eq_nil_iff.mpr λg _ w=>?_
   have f:=YK w
   unfold mH at f
   rw[z]at f
   cases f
def b6L (h:ds.length<=1):(wr n ds).length<=43:=by
 have a:=a6C (fb (n:Int) ds)
 have l:=mJ (n:Int) ds
 unfold wr
 lia
def b7G (n:Nat)(x:V):(List.replicate n [x]).flatten=List.replicate n x:=by
 induction n with
 |zero=>rfl
 |succ n ih=>rw[Y1,Y1,Y6,ih];rfl
def zsP (p:Nat)(fs:List (Nat×Nat×List Int)):List Nat:=(dJ fs p).map λf=>LW f
abbrev FB (P:Program)(w:World)(K:W.Frag)(mg:Str->Option Value)(base:Heap)(CX:CXT)(k:Nat)(nm:Str)(a:Addr)(d:FuncData)(ps:List Str)(sp:Sp):Prop:=gD P w K mg base CX k a d ps sp/\Binds K d ps []/\W.keepIn K (.ref a)=true/\mg nm=some (.ref a)
abbrev MB (P:Program)(w:World)(K:W.Frag)(mg:Str->Option Value)(base:Heap)(CX:CXT)(k:Nat)(a:Addr)(d:FuncData)(ps:List Str)(sp:Sp):Prop:=gD P w K mg base CX k a d ps sp/\Binds K d ps []
abbrev FL (K:W.Frag)(f:Addr)(n q:Str)(st:Stmt)(oc:Value)(od:Option Addr)(kV dc pm:Value)(an:Option Addr)(cd ct:Value)(sl:Array (Option Value)):Prop:=K.lookup f=some ⟨oc,od,.func (W.fnOf n q (lV st) (gA st) (bM st) .none kV dc pm an cd ct),sl⟩
structure GFm (K:W.Frag)(mg:Str->Option Value)(nm:Str)(st:Stmt)(f:Addr)(d:FuncData):Prop where
 F:Fun K nm nm st f d
 m:mg nm=some (.ref f)
def GF (K:W.Frag)(mg:Str->Option Value)(nm:Str)(a:Stmt)(f:Addr):Prop:=∃d,GFm K mg nm a f d
def MF (K:W.Frag)(C:Addr)(x q:Str)(a:Stmt)(f:Addr):Prop:=W.findIn K (.ref C) x=some (some (.ref f))/\∃d,Fun K x q a f d
def gf_mk {h:Heap}{nm:Str}{f:Addr}(X:K.In h)(G:h.Ns mainGlobals mg)(a:W.nsIn K mainGlobals nm=some (some (.ref f)))(l:FL K f nm nm st oc od kV dc pm an cd ct sl)(c:W.codeIn K cd nm=true)(k:W.keepIn K (.ref f)=true):GF K mg nm st f:=⟨_,zF l c k,W.mg_of X G a⟩
def GF.s {nm:Str}{f:Addr}(h:GF K mg nm st f):GFm K mg nm st f (Exists.choose h):=Exists.choose_spec h
def MF.s {x q:Str}{f:Addr}(h:MF K C x q st f):Fun K x q st f (Exists.choose h.2):=Exists.choose_spec h.2
def mf_mk {x q:Str}{f:Addr}(a:W.findIn K (.ref C) x=some (some (.ref f)))(l:FL K f x q st oc od kV dc pm an cd ct sl)(c:W.codeIn K cd q=true)(k:W.keepIn K (.ref f)=true):MF K C x q st f:=⟨a,_,zF l c k⟩
def MFc (K:W.Frag)(C:Addr)(x q:Str)(a:Stmt)(f b:Addr):Prop:=W.findIn K (.ref C) x=some (some (.ref f))/\∃d,Fun K x q a f d/\d.code= .ref b
def MFc.s {x q:Str}{f a:Addr}(h:MFc K C x q st f a):Fun K x q st f (Exists.choose h.2)/\(Exists.choose h.2).code= .ref a:=Exists.choose_spec h.2
def mfc_mk {b:Addr}{x q:Str}{f:Addr}(a:W.findIn K (.ref C) x=some (some (.ref f)))(l:FL K f x q st oc od kV dc pm an (.ref b) ct sl)(c:W.codeIn K (.ref b) q=true)(k:W.keepIn K (.ref f)=true):MFc K C x q st f b:=⟨a,_,zF l c k,rfl⟩
abbrev HB (x q:Str)(st:Stmt)(ps:List Str):Prop:=∀(kV doc pm:Value)(an:Option Addr)(cdv ct:Value)(us:List Value),us.length=ps.length->bindArgs (W.fnOf x q (lV st) (gA st) (bM st) .none kV doc pm an cdv ct) ⟨us, []⟩=pure (ps.zip us)
theorem bi0 (h:bindArgs d ⟨[], []⟩=pure []):∀us:List Value,us.length=([]:List Str).length->bindArgs d ⟨us, []⟩=pure (([]:List Str).zip us) | [],_=>h
def bi1 {a:Str}(h:∀u,bindArgs d ⟨[u], []⟩=pure [(a,u)]):∀us:List Value,us.length= [a].length->bindArgs d ⟨us, []⟩=pure ([a].zip us):=by
 intro us b
 rcases us with _ | ⟨u,_ | ⟨c,e⟩⟩
 ·simp at b
 ·exact h u
 ·simp at b
def bi2 {a b:Str}(h:∀u v,bindArgs d ⟨[u,v], []⟩=pure [(a,u),(b,v)]):∀us:List Value,us.length= [a,b].length->bindArgs d ⟨us, []⟩=pure ([a,b].zip us):=by
 intro us c
 rcases us with _ | ⟨u,_ | ⟨v,_ | ⟨e,f⟩⟩⟩
 ·simp at c
 ·simp at c
 ·exact h u v
 ·simp at c
def bi3 {a b c:Str}(h:∀u v x,bindArgs d ⟨[u,v,x], []⟩=pure [(a,u),(b,v),(c,x)]):∀us:List Value,us.length= [a,b,c].length->bindArgs d ⟨us, []⟩=pure ([a,b,c].zip us):=by
 intro us e
 rcases us with _ | ⟨u,_ | ⟨v,_ | ⟨x,_ | ⟨f,g⟩⟩⟩⟩
 ·simp at e
 ·simp at e
 ·simp at e
 ·exact h u v x
 ·simp at e
def bi4 {a b c e:Str}(h:∀u v x y,bindArgs d ⟨[u,v,x,y], []⟩=pure [(a,u),(b,v),(c,x),(e,y)]):∀us:List Value,us.length= [a,b,c,e].length->bindArgs d ⟨us, []⟩=pure ([a,b,c,e].zip us):=by
 intro us f
 rcases us with _ | ⟨u,_ | ⟨v,_ | ⟨x,_ | ⟨y,_ | ⟨g,i⟩⟩⟩⟩⟩
 ·simp at f
 ·simp at f
 ·simp at f
 ·simp at f
 ·exact h u v x y
 ·simp at f
def bi6 {a b c e f g:Str}(h:∀u v x y z t,bindArgs d ⟨[u,v,x,y,z,t], []⟩=pure [(a,u),(b,v),(c,x),(e,y),(f,z),(g,t)]):∀us:List Value,us.length= [a,b,c,e,f,g].length->bindArgs d ⟨us, []⟩=pure ([a,b,c,e,f,g].zip us):=by
 intro us i
 rcases us with _ | ⟨u,_ | ⟨v,_ | ⟨x,_ | ⟨y,_ | ⟨z,_ | ⟨t,_ | ⟨j,k⟩⟩⟩⟩⟩⟩⟩
 ·simp at i
 ·simp at i
 ·simp at i
 ·simp at i
 ·simp at i
 ·simp at i
 ·exact h u v x y z t
 ·simp at i
def sco {N b:List Str}{a:Scope}(d:a.kind= .function/\a.isCoroutine=false/\a.isGenerator=false)(c:N.Nodup/\N.take b.length=b/\(∀x∈b,a.names.lookup x=some .local\/a.names.lookup x=some .cell)/\∀y∈a.names,y.2≠ .free):iM N b a:=⟨d.1,d.2.1,d.2.2,c.1,c.2.1,c.2.2.1,c.2.2.2⟩
section
variable {P:Program}{w:World}{base:Heap}{CX:CXT}{x q:Str}{f:Addr}{fd:FuncData}{ps:List Str}{sp:Sp}
theorem mbM (N:List Str)(F:Fun K x q st f fd)(g:iM N ps (bM st)->gD P w K mg base CX k f fd ps sp)(S:iM N ps (bM st):=by exact sco ⟨rfl,rfl,rfl⟩ (by decide +kernel))
  (a:HB x q st ps:=by first | exact λ_ _ _ _ _ _=>bi1 λ_=>rfl | exact λ_ _ _ _ _ _=>bi2 λ_ _=>rfl | exact λ_ _ _ _ _ _=>bi3 λ_ _ _=>rfl | exact λ_ _ _ _ _ _=>bi4 λ_ _ _ _=>rfl | exact λ_ _ _ _ _ _=>bi5 λ_ _ _ _ _=>rfl | exact λ_ _ _ _ _ _=>bi6 λ_ _ _ _ _ _=>rfl | exact λ_ _ _ _ _ _=>bi7 λ_ _ _ _ _ _ _=>rfl | exact λ_ _ _ _ _ _=>bi0 rfl):MB P w K mg base CX k f fd ps sp:=⟨g S,F.binds a⟩
theorem mbK (N:List Str)(F:Fun K x q st f fd)(a:∀{c:Value}{A:Around}{b:List Env}{s:Shared}{vs:List V}{E:XK}(H:Hp)(Q:VK),N.Nodup->cV k (A.deeper (PyProof.Rows.envOfC q (bM st) s.heap.objs.size f c))->sp vs H Q E->∃t,PSs (qU CX0 P w K mg base N q (bM st) f c A b s H E).nox (gA st) t/\t { nx:=λ_ H'=>Q .non H',rt:=Q } (start N vs) H)(len:∀(vs:List V)(H:Hp)(Q:VK)(E:XK),sp vs H Q E->vs.length=ps.length:=by intro _ _ _ _ h;repeat (first | (obtain⟨rfl,_⟩:=h;exact rfl) | obtain⟨_,h⟩:=h))(S:iM N ps (bM st):=by exact sco ⟨rfl,rfl,rfl⟩ (by decide +kernel))
  (d:HB x q st ps:=by first | exact λ_ _ _ _ _ _=>bi1 λ_=>rfl | exact λ_ _ _ _ _ _=>bi2 λ_ _=>rfl | exact λ_ _ _ _ _ _=>bi3 λ_ _ _=>rfl | exact λ_ _ _ _ _ _=>bi4 λ_ _ _ _=>rfl | exact λ_ _ _ _ _ _=>bi5 λ_ _ _ _ _=>rfl | exact λ_ _ _ _ _ _=>bi6 λ_ _ _ _ _ _=>rfl | exact λ_ _ _ _ _ _=>bi7 λ_ _ _ _ _ _ _=>rfl | exact λ_ _ _ _ _ _=>bi0 rfl):MB P w K mg base CX0 (k+1) f fd ps sp:=⟨F.ok S len λ_ _ _ _ _ _ _ _ e=>a _ _ S.nd e,F.binds d⟩
theorem fbK (N:List Str)(F:GFm K mg x st f fd)(a:∀{c:Value}{A:Around}{b:List Env}{s:Shared}{vs:List V}{E:XK}(H:Hp)(Q:VK),N.Nodup->cV k (A.deeper (PyProof.Rows.envOfC x (bM st) s.heap.objs.size f c))->sp vs H Q E->∃t,PSs (qU CX0 P w K mg base N x (bM st) f c A b s H E).nox (gA st) t/\t { nx:=λ_ H'=>Q .non H',rt:=Q } (start N vs) H)(len:∀(vs:List V)(H:Hp)(Q:VK)(E:XK),sp vs H Q E->vs.length=ps.length:=by intro _ _ _ _ h;repeat (first | (obtain⟨rfl,_⟩:=h;exact rfl) | obtain⟨_,h⟩:=h))(S:iM N ps (bM st):=by exact sco ⟨rfl,rfl,rfl⟩ (by decide +kernel))
  (d:HB x x st ps:=by first | exact λ_ _ _ _ _ _=>bi1 λ_=>rfl | exact λ_ _ _ _ _ _=>bi2 λ_ _=>rfl | exact λ_ _ _ _ _ _=>bi3 λ_ _ _=>rfl | exact λ_ _ _ _ _ _=>bi4 λ_ _ _ _=>rfl | exact λ_ _ _ _ _ _=>bi5 λ_ _ _ _ _=>rfl | exact λ_ _ _ _ _ _=>bi6 λ_ _ _ _ _ _=>rfl | exact λ_ _ _ _ _ _=>bi7 λ_ _ _ _ _ _ _=>rfl | exact λ_ _ _ _ _ _=>bi0 rfl):FB P w K mg base CX0 (k+1) x f fd ps sp:=⟨F.F.ok S len λ_ _ _ _ _ _ _ _ e=>a _ _ S.nd e,F.F.binds d,F.F.kp,F.m⟩
end
section
variable (P:Program)(w:World)(mg:Str->Option Value)(base:Heap)(CA:Cs){Zed ZcN Zc7 Zb0 Zhm ZfV ZfT Zhn Zhp Zgy Zho ZiU Ze8 Zfj Zhq ZfW Zfa Zfk Zd7 Zdt Zd6 ZdJ ZdI ZeY ZdU Zdx ZcH ZbB ZdT Zds Zc6 Zen Zc2 ZdE ZeK Zeo ZdX ZdW Zem ZeL ZeN Zea Zes ZdY Zdo ZdK Zev Zdr Zd1 Zc4 ZbZ ZbY ZfU ZdG ZeR ZiT Zeq Zff Zfm Zgz Zfl Zgx Ze9 ZeM ZeT Zep ZdN Zd8 ZdF Zc3 Zdu Zd9 ZeQ ZeO Zeb Zet ZdZ Zdp ZdL Zew Zfd Zfe Zdq ZdM Zex ZeP Zeu Zec Zd0 Zd2 ZeU ZeS ZdH ZeW ZeV Zc5 ZeX Zd3 Zd5 Zer Zfg Zd4 ZfQ ZfS Ze7 Zgv ZfR Zgw ZmK Zm8 Zm3 Zlw Zm6 Zdw ZbW ZdS ZjU Zo:Addr}{ZgT Zfb Zfs ZeA Zkj Zir Zip Zkk Zkm Zji Zkl Zly ZgV ZhE Zkn Zis ZgX ZhF ZgN ZfF ZgM Zf5 Zf4 Zik Zil ZhD ZfH Ze5 Zij ZfE Zfr Zhs Zfn ZfZ Zf0 Zht ZgD ZgC Zhr Zga Zh9 ZgQ Zhx ZgE ZfA Zf6 ZhA ZfD ZgH Zfp Zez Zey Ziq Zf2 Zid Zlx Zhv Zjd ZhH Zjj ZhG Zjh ZgW Zgb Zif Zhu Zf9 ZgO Zf1 Zfo ZfG ZgP Zic Zia ZgR Zhy ZgF ZfB Zf7 ZhB Zjb Zjc ZfC Zf8 ZhC Zib Zhz ZgS ZgG ZgI Zig Zie Zf3 Zii Zih Zfq ZfX ZgJ ZgL Zhw Zje ZgK Zim Zio ZgU Zjf Zin Zjg Zm4:FuncData}{Zkh Zna ZlW Zmz Zki ZlX Zm0 ZmA ZmZ Zmw ZlY Zk6 Zk8 Zl0 ZmQ Zmv ZmR Zmy Zl1 Zk7 Zmx ZlZ:Tok}(Zcj:mg "MOST_ALIKE"=some (.int 5 ZlX))(ZaB:mg "NoBits"=some (.ref Zm3))(ZdQ:mg "HIGHEST_BYTE"=some (.int 255 Zkh))(ZQ:mg "NoKey"=some (.ref Zm6))(Zla:mg "KEY"=some (.int 64647 Zna))(ZbC:mg "CHECK_BITS"=some (.int 15 ZlW))(ZdR:mg "HIGHEST_NAME"=some (.int 255 Zki))(Zej:mg "Streak"=some (.ref CA.streak))(ZeE:mg "MOST_BYTES"=some (.int 7 ZlY))(Zz:mg "NoFrame"=some (.ref Zdw))(Ze1:mg "NAME_BITS"=some (.int 8 Zmz))(Ze2:mg "SIZE_BITS"=some (.int 3 ZmA))(ZaX:mg "BYTE_BITS"=some (.int 8 Zmw))(Zdy:mg "SIZE_AT"=some (.int 9 Zm0))(ZbD:mg "DATA_AT"=some (.int 12 ZmZ))(ZcM:mg "ANSWER_AT"=some (.int 1 Zmv))(Zda:mg "VOTES_AT"=some (.int 9 ZmR))(Zdz:mg "Tail"=some (.ref ZdS))(ZeG:mg "QUIET_FROM"=some (.int 12 Zl0))(Zfh:mg "OFF_FROM"=some (.int 18 ZmQ))(ZbX:mg "GREAT_FAULT"=some (.int 8 Zk6))(Zeg:mg "SMALL_FAULT"=some (.int 1 Zk8))(ZgA:mg "Reader"=some (.ref CA.reader))(Zlb:mg "Off"=some (.ref CA.off))(Zc9:mg "Flagging"=some (.ref CA.flag))(Ze0:mg "FLAG_BITS"=some (.int 6 Zmy))(Zcb:mg "Settles"=some (.ref CA.settles))(ZcC:mg "VOTES"=some (.ref ZjU))(ZP:mg "NoPost"=some (.ref ZbW))(Zh0:mg "Count"=some (.ref CA.count))(ZdV:mg "Free"=some (.ref CA.free))(Zef:mg "QUIET_TURNS"=some (.int 8 Zk7))(ZcY:mg "Rests"=some (.ref CA.rests))(ZbE:mg "REST_TURNS"=some (.int 3 Zl1))(Zei:mg "Speaks"=some (.ref CA.speaks))(Zdm:mg "Reads"=some (.ref CA.reads))(Zeh:mg "InTail"=some (.ref CA.intail))(Zfi:mg "ReadTail"=some (.ref CA.rtail))(ZeZ:mg "DUEL_BITS"=some (.int 9 Zmx))(Ze3:mg "SpeakTail"=some (.ref CA.stail))(Zag:mg "Rail"=some (.ref Zo))(ZeF:mg "MOST_POSTS"=some (.int 5 ZlZ))(Zjk:mg "Post"=some (.ref CA.post))(Zft:mg "NoName"=some (.ref Zlw))(Z6:mg "range"=none)(Zlc:mg "all"=none)(ZaQ:mg "list"=none)(ZF:mg "len"=none)(Zld:mg "max"=none)(Zle:mg "min"=none)(Ze4:mg "enumerate"=none)(ZgB:mg "sum"=none)(ZdP:zN K ZjU [1,3,5])(Zf:TCl K CA.rtail)(Zc:TCl K CA.stail)(Zi:Cls K CA.streak)(Zbq:Mk K CA.streak Zed)(Zg:Cls K CA.reader)
variable (Zak:b2V K ZdS "__init__" ZeY)(Zd:Cls K CA.count)(ZdO:Mk K CA.reader Zd7)(Zw:Cls K CA.free)(Zh:Cls K CA.speaks)(Zu:Cls K CA.reads)(Zk:Cls K CA.intail)(Zn:Cls K CA.flag)(ZD:Cls K CA.settles)(Zy:Cls K CA.rests)(Za:Cls K CA.post)(ZaZ:Mk K CA.flag Zdo)(Zas:Mk K CA.settles ZdK)(Zee:Mk K CA.count Zen)(ZaT:Mk K CA.free ZeN)(Zaw:Mk K CA.rests Zev)(Zbp:Mk K CA.speaks Zea)(ZaH:Mk K CA.reads Zes)(Zbo:Mk K CA.intail ZdY)(Zc8:Mk K CA.rtail Zds)(ZcO:Mk K CA.stail Zc6)(ZaS:Cls K CA.off)(Zb:Cls K Zo)(ZeB:Mk K CA.post ZeT)(ZeC:Mk K Zo ZeW)(ZV:Meth K CA.streak "lengthen" ZcN)(ZE:Meth K CA.streak "is_full" Zc7)(ZaN:Meth K CA.streak "is_too_long" Zb0)(Zbh:Meth K CA.reader "judged" Zdt)(Za4:Meth K CA.rtail "is_fault" ZcH)(ZaY:Meth K CA.stail "is_fault" ZcH)(ZaO:Meth K CA.rtail "judged_vote" ZbB)(ZaA:Meth K CA.stail "judged_vote" ZbB)(Zaf:Meth K CA.count "is_off" ZdE)(ZX:Meth K CA.count "move" Zeo)(ZS:Meth K CA.reader "hear" Zd6)(Za8:Meth K CA.count "is_quiet" Zc2)(Zam:Meth K CA.post "is_off" Zd1)(ZeD:MkB K CA.off)(Zal:Meth K CA.count "fault" ZdX)(ZbM:Meth K CA.count "blame" ZdW)(ZaU:Meth K CA.rtail "place" Zdx)(ZaP:Meth K CA.stail "place" Zdx)(Zba:Meth K CA.post "has_frame" Zc4)(Zbg:Meth K CA.post "is_quiet" Zdr)(Za3:Meth K CA.rtail "says" ZdU)(ZaW:Meth K CA.stail "says" ZdU)(Zay:Meth K CA.free "says" ZeO)(ZaM:Meth K CA.post "foremost_wire" ZbZ)(Zbt:Meth K CA.reader "frame" ZdI)(Zbu:Meth K CA.reader "plain" ZdJ)(Zb1:Meth K CA.count "good" Zem)(ZaL:Meth K CA.post "drop_foremost" ZbY)(Zbs:Meth K CA.post "hand_up" ZdG)(Za2:Meth K CA.rtail "hear" ZdT)(ZaV:Meth K CA.stail "hear" ZdT)(Zb2:Meth K CA.free "shown" Zep)(Zbx:Meth K CA.speaks "shown" ZdN)(ZbS:Meth K CA.reads "shown" Zd8)(Zbr:Meth K CA.intail "shown" ZdF)(Za9:Meth K CA.flag "shown" Zc3)(Zbi:Meth K CA.settles "shown" Zdu)(ZbT:Meth K CA.rests "shown" Zd9)(Zcl:Meth K CA.off "shown" ZeQ)(ZbU:Meth K CA.speaks "says" Zeb)(Zb4:Meth K CA.reads "says" Zet)(ZbN:Meth K CA.intail "says" ZdZ)(Zbe:Meth K CA.flag "says" Zdp)(Zbv:Meth K CA.settles "says" ZdL)(Zb6:Meth K CA.rests "says" Zew)(ZcI:Meth K CA.off "says" Zfd)(Zck:Meth K CA.free "step" ZeP)(ZbV:Meth K CA.speaks "step" Zec)(Zb5:Meth K CA.reads "step" Zeu)(ZbO:Meth K CA.intail "step" Zd0)(Zbf:Meth K CA.flag "step" Zdq)(Zbw:Meth K CA.settles "step" ZdM)(Zb7:Meth K CA.rests "step" Zex)(ZcJ:Meth K CA.off "step" Zfe)(Zj:Meth K Zo "post_at" ZdH)(Zcm:Meth K CA.post "hand" ZeR)(Zco:Meth K CA.post "says" ZeU)(Zcn:Meth K CA.post "hear" ZeS)(Zbb:Meth K Zo "make_turn" Zc5)(ZbP:Meth K CA.post "stance" Zd2)(Zb3:Meth K CA.post "waits" Zeq)(ZcK:Meth K CA.post "got" Zff)(ZbR:Meth K Zo "stance" Zd5)(Zcq:Meth K Zo "turn" ZeX)(Zat:Meth K Zo "waits" Zer)(Zaa:Meth K Zo "is_off" Zd4)(ZcL:Meth K Zo "got" Zfg)(Zcp:Meth K Zo "hand" ZeV)(ZbQ:Meth K Zo "events" Zd3)(Zek:Bm K mg 4)(Zai:bF K CA.streak "last")(Zx:bF K CA.streak "alike")(ZC:bF K CA.reader "streak")(Zt:bF K CA.reader "kept")(ZK:bF K CA.reader "answer")(Zr:bF K CA.count "total")(ZI:bF K CA.free "since")(ZL:bF K CA.speaks "wire")
variable (ZU:bF K CA.speaks "reader")(Zv:bF K CA.speaks "many")(Z2:bF K CA.reads "reader")(Z5:bF K CA.reads "many")(Zs:bF K CA.intail "tail")(Zau:bF K CA.intail "found")(ZH:bF K CA.flag "left")(ZR:bF K CA.flag "may_blame")(Z3:bF K CA.settles "may_blame")(ZY:bF K CA.rests "left")(Zm:bF K CA.post "tally")(Zl:bF K CA.post "waiting")(Zaz:bF K CA.post "choice")(ZM:bF K CA.post "handed_up")(Z4:bF K CA.post "votes")(ZO:bF K CA.post "now")(ZJ:bF K Zo "posts")(Zah:bF K Zo "owners")(Zae:bF K Zo "borne")(Zav:bF K Zo "sayings")(Zan:bF K Zo "hearings")(ZT:bF K Zo "happened")(Zel:W.codeHdIn K 969 965=true)(hc_Rail_turn:ZfX.code= .ref 969)
set_option maxHeartbeats 4000000
variable (ZaG:MB P w K mg base (CX0) 1 Zed ZgT ["self"] (a4Y CA.streak))
include Zi Zai Zx in
theorem Zkc (c:Fun K "__init__" "Streak.__init__" Zhf Zed ZgT):type_of% ZaG:=by
 refine mbK ["self"] c λH Q e f h=>?_
 obtain⟨a,b,rfl,d,q⟩:=h
 refine⟨_,(aD (bR Zi Zai (dv 0) uB) (aF (bR Zi Zx (dv 0) aG))),?_⟩
 refine⟨b, [],d,by decide,?_⟩
 refine⟨b,_,aB,by decide,?_⟩
 exact q _ (by rw[jR];rfl)
variable (ZW:MB P w K mg base (CX0) 1 ZcN Zfb ["self","bit"] (a9E CA.streak))
include Zi Zai Zx in
theorem ZhI (F0:Fun K "lengthen" "Streak.lengthen" Zfc ZcN Zfb):type_of% ZW:=by
 refine mbK ["self","bit"] F0 λH Q k m h=>?_
 obtain⟨a,s,b,rfl,⟨d,f⟩,q⟩:=h
 refine⟨_,(aD (bR Zi Zx (dv 0) (bZ (dF (aW dU (dv 1) (aO Zi Zai (dv 0)) (aU _)) (aV cM (aO Zi Zx (dv 0)) aG) aG))) (aF (bR Zi Zai (dv 0) (dv 1)))),?_⟩
 refine⟨λx i=>x= .int (((skp s b).2:Nat):Int)/\i=H,?_,?_⟩
 ·obtain⟨l,n⟩:=s
  cases l with
  |none=>exact⟨d,_,.non,f,rfl,rfl,rfl⟩
  | some c=>
   refine⟨d,_,.int c,f,rfl,?_⟩
   conv=>whnf
   refine bL (λz=>?_) (λz=>?_)
   ·have e:b=c:=dec_true z
    subst e
    refine⟨d,_,.int n,f,rfl,?_,rfl⟩
    have g:(skp (some b,n) b).2=n+1:=if_pos rfl
    rw[g];rfl
   ·have e:¬ b=c:=dec_false z
    refine⟨?_,rfl⟩
    have g:(skp (some c,n) b).2=1:=if_neg λy=>e (Yp y).symm
    rw[g];rfl
 rintro x i ⟨rfl,rfl⟩
 refine⟨d,_,f,(show 2<1000 by decide),?_⟩
 refine⟨d,_,aB,(show 2<1000 by decide),?_⟩
 refine q _ ⟨d,?_⟩ λx j=>by rw[aH j,aH j]
 rw[aB]
 rfl
variable (ZN:MB P w K mg base (CX0) 1 Zc7 Zfs ["self"] (a4Z CA.streak))
include Zcj Zi Zx in
theorem Zh7 (b:Fun K "is_full" "Streak.is_full" Zfz Zc7 Zfs):type_of% ZN:=by
 refine mbK ["self"] b λH Q e f h=>?_
 obtain⟨a,s,rfl,⟨c,d⟩,q⟩:=h
 refine⟨_,(aF (aM (fM dU (aO Zi Zx (dv 0)) (bC (v:= .int 5) rfl Zcj ⟨_,rfl⟩) (aU _)))),?_⟩
 refine⟨c,_,.int s.2,d,rfl,?_⟩
 conv=>whnf
 rw[a3K]
 exact q
variable (ZaK:MB P w K mg base (CX0) 1 Zb0 ZeA ["self"] (a4X CA.streak))
include Zcj Zi Zx in
theorem Zge (b:Fun K "is_too_long" "Streak.is_too_long" ZeJ Zb0 ZeA):type_of% ZaK:=by
 refine mbK ["self"] b λH Q e f h=>?_
 obtain⟨a,s,rfl,⟨c,d⟩,q⟩:=h
 refine⟨_,(aF (aM (fM vC (aO Zi Zx (dv 0)) (bC (v:= .int 5) rfl Zcj ⟨_,rfl⟩) (aU _)))),?_⟩
 refine⟨c,_,.int s.2,d,rfl,?_⟩
 show Q (.bl (decide ((5:Int)<((s.2:Nat):Int)))) H
 rw[b1K]
 exact q
variable (Z0:FB P w K mg base (CX0) 1 "bits_of" Zhm Zkj ["number","many"] (a5Q))
include ZaB Z6 in
theorem ZmL (f:GFm K mg "bits_of" Zko Zhm Zkj):type_of% Z0:=by
 refine fbK ["number","many"] f λH Q r s h=>?_
 obtain⟨n,m,rfl,g,t,q⟩:=h
 refine⟨_,(aD (bH (PW.pt (vV (aW a3U (dv 0) aG (aU _)) (uA (aW tQ (aV zT (dv 0) (dv 1)) aG (aU _))))) (aF fB) aR) (aF (aM (gU rfl (ix:=[0,1]) (fU rfl Z6 (aA (dv 1) aC)) (λC j k l at0=>fX) (λC j k l at0=>(aV zZ (aV zT (dv 1) (aV jL (aV jL (dv 2) aG) (dv 0))) aG)) rfl rfl (by rfl) (show ([".0","place","number","many"]:List Str).Nodup by decide +kernel))))),?_⟩
 refine⟨by lia,?_⟩
 conv=>whnf
 refine b8A (a3J g) ?_
 have d:((m:Nat):Int).toNat=m:=YJ m
 refine⟨⟨by lia,by lia⟩,jZ (λi a b=>a=((bJ n m).take i).map V.int/\b=H) ?_ ⟨rfl,rfl⟩ ?_ ?_⟩
 ·rintro i a b c ⟨rfl,_⟩
  refine cD ?_
  rw[Ya,Yq,bV]
  lia
 ·rintro i a b c ⟨rfl,rfl⟩
  rw[d]at c
  refine⟨(by show (0:Int)<=(m:Int)-1-(0+(i:Int));lia),?_,rfl⟩
  have e:(m:Int)-1-(0+(i:Int))=((m-1-i:Nat):Int):=by lia
  show _++[V.int (Builtin.bitAnd ((n:Int) / 2 ^ ((m:Int)-1-(0+(i:Int))).toNat) 1)]=_
  rw[e,b2T,a1W c,Yr]
  rfl
 ·rintro a b ⟨rfl,rfl⟩ p o
  rw[d,Yi (by rw[bV];exact Yc _)]
  exact q p o
variable (ZA:FB P w K mg base (CX0) 1 "number_of" ZfV Zir ["bits"] (yD K))
def ZlS (k:GFm K mg "number_of" ZiL ZfV Zir):type_of% ZA:=by
 refine fbK ["bits","number","bit"] k λH Q e p h=>?_
 obtain⟨a,bs,rfl,g,j,r,q⟩:=h
 refine⟨_,(aD (aX (i:=1) e rfl (Or.inl rfl) aG) (aD (fQ YW rfl (cW (dv 0)) (dN (i:=2) e rfl (Or.inl rfl)) (aF (aX (i:=1) e rfl (Or.inl rfl) (aV cM (aV jD (dv 1) aG) (dv 2))))) (aF (aM (dv 1))))),?_⟩
 refine⟨⟨_,g⟩,iD (xs:=bs.map V.int) (λi c d=>(∃x,c= [some (.ref a),some (.int (jW (bs.take i))),x])/\d=H) ⟨⟨_,rfl⟩,rfl⟩ (λi c d _ z=>by rw[z.2];exact g) ?_ ?_⟩
 ·rintro i x c d l ⟨⟨y,rfl⟩,rfl⟩
  obtain⟨m,rfl⟩:=nM l
  have f:bK (bs.take i):=λb h=>j b (Xi h)
  have o:=uF f
  have s:(2:Int) ^ (bs.take i).length<=2 ^ 450:=xT (by rw[Yq];lia)
  refine⟨⟨rC (n:=450) (a2R o.1 (by lia)),jA (by decide) (by decide)⟩,⟨some (.int bs[i]),?_⟩,rfl⟩
  rw[Yg m,oJ]
  rfl
 ·rintro c d ⟨⟨y,rfl⟩,rfl⟩
  rw[Ya,Yi (Yc _),b0S j]
  exact q
variable (Zaq:FB P w K mg base (CX0) 1 "are_bytes" ZfT Zip ["numbers"] (a9L K))
include ZdQ Zlc in
theorem ZlQ (j:GFm K mg "are_bytes" ZiJ ZfT Zip):type_of% Zaq:=by
 refine fbK ["numbers"] j λH Q s t h=>?_
 obtain⟨a,b,rfl,k,u,q⟩:=h
 refine⟨_,(aF (aM (bI (b6K rfl) rfl Zlc b5Z (aA (gU rfl (ix:=[]) (b4Y (dv 0)) (λC l m n at0=>fX) (λC l m n at0=>(wL xQ xQ aG (dv 0) (bC (v:= .int 255) rfl ZdQ ⟨_,rfl⟩))) rfl rfl (by rfl) (show ([".0","number"]:List Str).Nodup by decide +kernel)) aC)))),?_⟩
 refine a8H k (λi d=>d=((b.take i).map byt).map V.bl) ?_ rfl ?_ ?_
 ·rintro i d f rfl
  refine cD ?_
  rw[Ya,Ya,Yq]
  lia
 ·rintro i x d o rfl
  obtain⟨f,rfl⟩:=nM o
  conv=>whnf
  refine bL (λc=>⟨?_,rfl⟩) (λc=>⟨?_,rfl⟩)
  ·have g:(0:Int)<=b[i]:=dec_true c
   rw[Yg f,Yr,Yr]
   show _++[V.bl (decide (b[i]<=255))]=_++[V.bl (byt b[i])]
   unfold byt
   rw[Yj g,Bool.true_and]
  ·have g:¬ (0:Int)<=b[i]:=dec_false c
   rw[Yg f,Yr,Yr]
   show _++[V.bl false]=_++[V.bl (byt b[i])]
   unfold byt
   rw[Yl g,Bool.false_and]
 rintro d rfl p r
 rw[Ya,Yi (Yc _)]
 refine⟨b.map byt,Vb aB,?_⟩
 have e:(b.map byt).all id=b.all byt:=by rw[List.all_map];rfl
 rw[e]
 exact q _ (aJ r _)
variable (ZcZ:FB P w K mg base (CX0) 1 "divided" Zhn Zkk ["number","key"] (a2H))
include ZQ in
theorem ZmM (u:GFm K mg "divided" Zkp Zhn Zkk):type_of% ZcZ:=by
 refine fbK ["number","key","whole","rest","power"] u λH Q b f h=>?_
 obtain⟨a,rfl,v,q⟩:=h
 refine⟨_,(aD (bH (aW dU (dv 1) aG (aU _)) (aF fB) aR) (aD (aX (i:=2) b rfl (Or.inl rfl) aG) (aD (aX (i:=3) b rfl (Or.inl rfl) (dv 0)) (aD (a6E YW (aW a3W (a0U (dv 3)) (a0U (dv 1)) (aU _)) (aD (aX (i:=4) b rfl (Or.inl rfl) (aV jL (a0U (dv 3)) (a0U (dv 1)))) (aD (aX (i:=2) b rfl (Or.inl rfl) (aV a0O (dv 2) (aV a0P aG (dv 4)))) (aF (aX (i:=3) b rfl (Or.inl rfl) (aV a0O (dv 3) (aV a0P (dv 1) (dv 4)))))))) (aF (aM (bO (aA (dv 2) (aA (dv 3) aC))))))))),?_⟩
 refine⟨λmm m g=>∃(w r:Nat)(p:Option V),mm=bl r/\m= [some (.int a),some (.int 64647),some (.int w),some (.int r),p]/\g=H/\r<2 ^ 450/\R r=R a,⟨_,0,a,_,rfl,rfl,rfl,v,rfl⟩,?_⟩
 rintro mm m g ⟨w,r,p,rfl,rfl,rfl,f,e⟩
 conv=>whnf
 refine bL (λc=>?_) (λc=>?_)
 ·have o:16<=bl r:=by
   have:((Builtin.Int.intBits (64647:Int):Nat):Int)<=((Builtin.Int.intBits (r:Int):Nat):Int):=dec_true c
   have k:=zM
   show 16<=Builtin.Int.intBits (r:Int)
   have l:Builtin.Int.intBits (64647:Int)=16:=k
   lia
  obtain⟨x,y,z⟩:=a7M f o
  have E:=a8L f
  refine⟨λd s=>∃(w:Nat)(p:Option V),d= [some (.int a),some (.int 64647),some (.int w),some (.int ((r ^^^ 64647 <<< (bl r-16):Nat):Int)),p]/\s=g,?_,?_⟩
  ·rintro d s ⟨A,B,rfl,rfl⟩
   exact⟨bl (r ^^^ 64647 <<< (bl r-16)),z,A,_,B,rfl,rfl,rfl,x,y.trans e⟩
  have t:((Builtin.Int.intBits (r:Int):Nat):Int)-((Builtin.Int.intBits (64647:Int):Nat):Int)=((bl r-16:Nat):Int):=by
   have l:Builtin.Int.intBits (64647:Int)=16:=zM
   rw[l]
   show ((bl r:Nat):Int)-_=_
   lia
  refine⟨1,(bl r-16),rfl,YO V.int t,⟨a7I (n:=1) (by decide),by lia⟩,w,_,rfl,rfl,trivial,?_⟩
  refine⟨64647,(bl r-16),rfl,YO V.int t,⟨a7I (n:=16) (by decide),by lia⟩,r,_,rfl,rfl,trivial,?_⟩
  exact⟨_,_,rfl,rfl⟩
 ·have o:bl r<16:=by
   have:¬ ((Builtin.Int.intBits (64647:Int):Nat):Int)<=((Builtin.Int.intBits (r:Int):Nat):Int):=dec_false c
   have l:Builtin.Int.intBits (64647:Int)=16:=zM
   show Builtin.Int.intBits (r:Int)<16
   lia
  have C:r<32768:=Yh (b2P r) (Yv (n:=2) (j:=15) (by decide) (by lia))
  rw[pM C]at e
  rw[e]
  exact⟨aL rfl,λp D=>q w p D⟩
variable (Z9:FB P w K mg base (CX0) 2 "rest_of" Zhp Zkm ["bits"] (b3P K))
include ZQ Zla ZA ZcZ in
theorem ZmO (e:GFm K mg "rest_of" Zkr Zhp Zkm):type_of% Z9:=by
 refine fbK ["bits"] e λH Q i b h=>?_
 obtain⟨a,bs,rfl,f,c,d,q⟩:=h
 refine⟨_,(aF (aM (cC iB (aQ ZcZ.1 b.mo rfl ZcZ.2.2.2 ZcZ.2.2.1 ZcZ.2.1 .nil aK (aA (aQ ZA.1 b.mo rfl ZA.2.2.2 ZA.2.2.1 ZA.2.1 .nil aK (aA (dv 0) aC)) (aA (bC (v:= .int 64647) rfl Zla ⟨_,rfl⟩) aC))) aG (λ_ _=>rfl)))),?_⟩
 refine⟨a,bs,rfl,f,c,d,?_⟩
 refine⟨nm bs,rfl,Yh (mF c) (Yv (by decide) d),λw p g=>?_⟩
 exact⟨_,_,Vc aB,rfl,q _ (aJ g _)⟩
variable (ZcG:FB P w K mg base (CX0) 3 "check_of" Zgy Zji ["bits"] (a9K K))
include ZaB ZQ ZbC ZaQ Z0 Z9 in
theorem Zmt (t:GFm K mg "check_of" ZjF Zgy Zji):type_of% ZcG:=by
 refine fbK ["bits"] t λH Q C f h=>?_
 obtain⟨a,bs,rfl,u,w,D,q⟩:=h
 refine⟨_,(aF (aM (aQ Z0.1 f.mo rfl Z0.2.2.2 Z0.2.2.1 Z0.2.1 .nil aK (aA (aQ Z9.1 f.mo rfl Z9.2.2.2 Z9.2.2.1 Z9.2.1 .nil aK (aA (aV zW (gJ iR rfl ZaQ kE (aA (dv 0) aC)) (aV a3S (cY (aA aG aC)) (bC (v:= .int 15) rfl ZbC ⟨_,rfl⟩))) aC)) (aA (bC (v:= .int 15) rfl ZbC ⟨_,rfl⟩) aC))))),?_⟩
 refine⟨_,.inl u,λl b=>?_⟩
 have g:=aJ b (.lst (bs.map V.int))
 have i:=aB (H:=H) (a:=l) (o:= .lst (bs.map V.int))
 generalize upd H l (.lst (bs.map V.int))=H1 at g i
 refine⟨aL rfl,λo x=>?_⟩
 have d:=aJ x (.lst [.int 0])
 have j:=aB (H:=H1) (a:=o) (o:= .lst [.int 0])
 generalize upd H1 o (.lst [.int 0])=H2 at d j
 refine⟨_,j,⟨by decide,by decide⟩,(by show 1*15<=sizeLine;exact small (by decide)),λz y=>?_⟩
 have e:=aJ y (.lst (List.replicate (15:Int).toNat [V.int 0]).flatten)
 have k:upd H2 z (.lst (List.replicate (15:Int).toNat [V.int 0]).flatten) z=some (.lst ((zs 15).map V.int)):=by rw[aB];rfl
 generalize upd H2 z (.lst (List.replicate (15:Int).toNat [V.int 0]).flatten)=H3 at e k
 refine⟨_,_,e _ _ (d _ _ i),k,(by rw[Ya];exact small (by show bs.length+15<=1000;lia)),λc A=>?_⟩
 have m:=aJ A (.lst (bs.map V.int++(zs 15).map V.int))
 have n:upd H3 c (.lst (bs.map V.int++(zs 15).map V.int)) c=some (.lst ((bs++zs 15).map V.int)):=by rw[aB,Yr]
 generalize upd H3 c (.lst (bs.map V.int++(zs 15).map V.int))=H4 at m n
 refine⟨c,bs++zs 15,rfl,Vb n,gC w (tO 15),(by rw[Yd];show bs.length+15<=450;lia),λE B=>?_⟩
 refine⟨ckn bs,15,rfl,a8J bs,by decide,λp r=>?_⟩
 have s:=g.trans (d.trans (e.trans (m.trans B)))
 exact q p _ (s.none r) (s.trans (aJ r _)) aB
variable (Zc0:FB P w K mg base (CX0) 1 "is_name" Zho Zkl ["number"] (b7D))
include ZdR in
theorem ZmN (b:GFm K mg "is_name" Zkq Zho Zkl):type_of% Zc0:=by
 refine fbK ["number"] b λH Q d f h=>?_
 obtain⟨n,rfl,q⟩:=h
 refine⟨_,(aF (aM (wL xQ xQ aG (dv 0) (bC (v:= .int 255) rfl ZdR ⟨_,rfl⟩)))),?_⟩
 conv=>whnf
 refine bL (λc=>?_) (λc=>?_)
 ·have a:(0:Int)<=n:=dec_true c
  show Q (.bl (decide (n<=255))) H
  have e:decide (n<=255)=byt n:=by unfold byt;rw[Yj a,Bool.true_and]
  rw[e];exact q
 ·have a:¬ (0:Int)<=n:=dec_false c
  show Q (.bl false) H
  have e:false=byt n:=by unfold byt;rw[Yl a,Bool.false_and]
  rw[e];exact q
variable (Zdv:FB P w K mg base (CX0) 3 "put_in" ZiU Zly ["bits"] (a9F K))
include Zej Zi Zbq ZV ZE ZaG ZW ZN in
theorem ZmY (Z:GFm K mg "put_in" ZlV ZiU Zly):type_of% Zdv:=by
 refine fbK ["bits","wire","streak","bit"] Z λH Q F v h=>?_
 obtain⟨a,bs,rfl,P,hl,q⟩:=h
 refine⟨_,(aD (aX (i:=1) F rfl (Or.inl rfl) (cY aC)) (aD (aX (i:=2) F rfl (Or.inl rfl) (mW Zbq ZaG.1 v.mo rfl Zej ZaG.2 .nil aK)) (aD (fQ YW rfl (cW (dv 0)) (dN (i:=3) F rfl (Or.inl rfl)) (aD (bD (dC (dv 1) (aA (dv 3) aC))) (aD (bD (bN Zi ZV ZW.1 v.mo ZW.2 .nil aK (dv 2) (aA (dv 3) aC))) (aF (bH (cJ (bT Zi ZE ZN.1 v.mo ZN.2 .nil aK (dv 2))) (aD (bD (dC (dv 1) (aA (aV jL aG (dv 3)) aC))) (aF (bD (bN Zi ZV ZW.1 v.mo ZW.2 .nil aK (dv 2) (aA (aV jL aG (dv 3)) aC))))) aR))))) (aF (aM (dv 1)))))),?_⟩
 refine⟨aL rfl,λp A=>?_⟩
 have B:=aJ A (.lst [])
 have R:=aB (H:=H) (a:=p) (o:= .lst [])
 generalize upd H p (.lst [])=H1 at B R
 refine λj S n G a0=>⟨j,S,rfl,aB,λT I=>⟨rfl,?_⟩⟩
 have J:Same H1 T:=by rw[I];exact bG n G
 have s2:jP CA.streak T j (sk []):=⟨S,by rw[I];exact aB⟩
 clear I
 have r:=B.none n
 refine⟨⟨_,(B.trans J).seq P⟩,iD (xs:=bs.map V.int) (λi C f=>(∃x,C= [some (.ref a),some (.ref p),some (.ref j),x])/\f p=some (.lst ((put (bs.take i)).map V.int))/\jP CA.streak f j (sk (put (bs.take i)))/\Same H f)
  ⟨⟨_,rfl⟩,J _ _ R,s2,B.trans J⟩ (λi C f _ z=>z.2.2.2.seq P) ?_ ?_⟩
 ·rintro i x C f hx ⟨⟨y,rfl⟩,l,L,M⟩
  obtain⟨hi,rfl⟩:=nM hx
  have pl:=mR (bs.take i)
  rw[Yq]at pl
  have h4:=mQ (bs.take i)
  generalize vW hi=ept
  generalize bs[i]=b at ept
  generalize put (bs.take i)=w at l L pl h4 ept
  refine⟨⟨_,Vb l⟩,_,l,cD (by rw[Ya];lia),?_⟩
  have m:upd f p (.lst (w.map V.int++[.int b])) p=some (.lst ((w++[b]).map V.int)):=by rw[aB,Yr];rfl
  have g:jP CA.streak (upd f p (.lst (w.map V.int++[.int b]))) j (sk w):=L.set l
  have s:Same H (upd f p (.lst (w.map V.int++[.int b]))):=M.put A
  generalize upd f p (.lst (w.map V.int++[.int b]))=H3 at m g s
  obtain⟨d3,k3⟩:=id g
  refine⟨⟨d3,_,k3,rfl⟩,j,sk w,b,rfl,g,λD t U=>?_⟩
  rw[<-lN]at t
  have d:=(U p (g.ne m)).trans m
  have k:Same H D:=λc o e=>(U c (aP e r)).trans (s c o e)
  obtain⟨d4,k5⟩:=id t
  refine⟨⟨d4,_,k5,rfl⟩,j,sk (w++[b]),rfl,t,?_⟩
  conv=>whnf
  refine bL (λc=>?_) (λc=>?_)
  ·have N:run (w++[b])=5:=dec_true c
   have u:put (bs.take (i+1))=w++[b]++[1-b]:=by rw[ept];unfold pst;rw[if_pos N]
   refine⟨⟨_,Vb d⟩,_,d,cD (by rw[Ya,Yd,Yt];lia),?_⟩
   have O:upd D p (.lst ((w++[b]).map V.int++[.int (1-b)])) p=some (.lst ((w++[b]++[1-b]).map V.int)):=by rw[aB,Yr (l₁:=w++[b])];rfl
   have E:=t.set (ys:=(w++[b]).map V.int++[.int (1-b)]) d
   have W:Same H (upd D p (.lst ((w++[b]).map V.int++[.int (1-b)]))):=k.put A
   generalize upd D p (.lst ((w++[b]).map V.int++[.int (1-b)]))=H5 at O E W
   obtain⟨d6,k6⟩:=id E
   refine⟨⟨d6,_,k6,rfl⟩,j,sk (w++[b]),1-b,rfl,E,λH6 X Y=>?_⟩
   rw[<-lN]at X
   refine⟨⟨_,rfl⟩,?_,?_,λc o e=>(Y c (aP e r)).trans (W c o e)⟩
   ·rw[u];exact(Y p (E.ne O)).trans O
   ·rw[u];exact X
  ·have N:¬ run (w++[b])=5:=dec_false c
   have u:put (bs.take (i+1))=w++[b]:=by rw[ept];unfold pst;rw[if_neg N]
   exact⟨⟨_,rfl⟩,by rw[u];exact d,by rw[u];exact t,k⟩
 rintro C f ⟨⟨y,rfl⟩,l,L,M⟩
 rw[Ya,Yi (Yc _)]at l
 exact q p f A M l
variable (ZB:FB P w K mg base (CX0) 2 "check_frame" Ze8 ZgV ["name","data"] (b3V K Zdw))
include ZeE Zz ZF Zaq Zc0 in
theorem Zke (F0:GFm K mg "check_frame" Zhh Ze8 ZgV):type_of% ZB:=by
 refine fbK ["name","data"] F0 λH Q p i h=>?_
 obtain⟨n,a,b,rfl,j,l,m,d⟩:=h
 refine⟨_,(aD (bH (gH (cJ (aQ Zc0.1 i.mo rfl Zc0.2.2.2 Zc0.2.2.1 Zc0.2.1 .nil aK (aA (dv 0) aC)))) (aF fB) aR) (aD (bH (aW vC (bI fD rfl ZF cU (aA (dv 1) aC)) (bC (v:= .int 7) rfl ZeE ⟨_,rfl⟩) (aU _)) (aF fB) aR) (aF (bH (gH (cJ (aQ Zaq.1 i.mo rfl Zaq.2.2.2 Zaq.2.2.1 Zaq.2.1 .nil aK (aA (dv 1) aC)))) (aF fB) aR)))),?_⟩
 refine⟨n,rfl,?_⟩
 conv=>whnf
 refine bL (λc=>?_) (λc=>?_)
 ·have f:¬ byt n=true:=λz=>by
   have:(!byt n)=true:=c
   rw[z]at this;cases this
  exact(d (a6Z (.inl f)) _ (Vd _))
 have f:byt n=true:=by
  cases e:byt n with
  |true=>rfl
  |false=>exact absurd (show (!byt n)=true by rw[e];rfl) c
 refine⟨_,.inl j,?_⟩
 rw[Ya]
 conv=>whnf
 refine bL (λz=>?_) (λz=>?_)
 ·have o:(7:Int)<((b.length:Nat):Int):=dec_true z
  exact(d (a6Z (.inr (.inl (by lia)))) _ (Vd _))
 have o:¬ (7:Int)<((b.length:Nat):Int):=dec_false z
 refine⟨a,b,rfl,.inl j,l,λq k=>?_⟩
 conv=>whnf
 refine bL (λy=>?_) (λy=>?_)
 ·have g:¬ b.all byt=true:=λz=>by
   have:(!b.all byt)=true:=y
   rw[z]at this;cases this
  exact(d (λh=>g h.2.2) _ k)
 ·have g:b.all byt=true:=by
   cases e:b.all byt with
   |true=>rfl
   |false=>exact absurd (show (!b.all byt)=true by rw[e];rfl) y
  exact m ⟨f,by lia,g⟩ _ k
variable (Zby:FB P w K mg base (CX0) 5 "frame_bits" Zfj ZhE ["name","data"] (a9I K Zdw))
include ZaB ZQ Zz Ze1 Ze2 ZaX ZF Z0 ZcG ZB in
theorem Zk2 (F0:GFm K mg "frame_bits" ZhW Zfj ZhE):type_of% Zby:=by
 refine fbK ["name","data","bits","byte"] F0 λH Q N k h=>?_
 obtain⟨n,a,b,rfl,s,hl,q1,q2⟩:=h
 refine⟨_,(aD (bD (aQ ZB.1 k.mo rfl ZB.2.2.2 ZB.2.2.1 ZB.2.1 .nil aK (aA (dv 0) (aA (dv 1) aC)))) (aD (aX (i:=2) N rfl (Or.inl rfl) (aV zW (aV zW (cY (aA aG aC)) (aQ Z0.1 k.mo rfl Z0.2.2.2 Z0.2.2.1 Z0.2.1 .nil aK (aA (dv 0) (aA (bC (v:= .int 8) rfl Ze1 ⟨_,rfl⟩) aC)))) (aQ Z0.1 k.mo rfl Z0.2.2.2 Z0.2.2.1 Z0.2.1 .nil aK (aA (bI fD rfl ZF cU (aA (dv 1) aC)) (aA (bC (v:= .int 3) rfl Ze2 ⟨_,rfl⟩) aC))))) (aD (fQ YW rfl (cW (dv 1)) (dN (i:=3) N rfl (Or.inl rfl)) (aF (bD (a2V (dv 2) (aA (aQ Z0.1 k.mo rfl Z0.2.2.2 Z0.2.2.1 Z0.2.1 .nil aK (aA (dv 3) (aA (bC (v:= .int 8) rfl ZaX ⟨_,rfl⟩) aC))) aC))))) (aF (aM (aV zW (dv 2) (aQ ZcG.1 k.mo rfl ZcG.2.2.2 ZcG.2.2.1 ZcG.2.1 .nil aK (aA (dv 2) aC)))))))),?_⟩
 refine⟨n,a,b,rfl,s,hl,λt O g1=>?_,q2⟩
 obtain⟨m,rfl,hm⟩:=uR t.1
 refine⟨aL rfl,λP B=>?_⟩
 have R:=aJ B (.lst [.int 0])
 have S:=aB (H:=O) (a:=P) (o:= .lst [.int 0])
 generalize upd O P (.lst [.int 0])=H2 at R S
 refine⟨m,8,rfl,by show m<2 ^ 8;lia,by decide,λT C=>?_⟩
 have D:=aJ C (.lst ((bJ m 8).map V.int))
 have U:=aB (H:=H2) (a:=T) (o:= .lst ((bJ m 8).map V.int))
 generalize upd H2 T (.lst ((bJ m 8).map V.int))=H3 at D U
 refine⟨_,_,D _ _ S,U,(by rw[Ya,bV];exact aL rfl),λW E=>?_⟩
 have X:=aJ E (.lst ([.int 0]++(bJ m 8).map V.int))
 have Y:=aB (H:=H3) (a:=W) (o:= .lst ([.int 0]++(bJ m 8).map V.int))
 generalize upd H3 W (.lst ([.int 0]++(bJ m 8).map V.int))=H4 at X Y
 have f:=g1.trans (R.trans (D.trans X))
 refine⟨_,.inl (f.seq s),?_⟩
 rw[Ya]
 have h7:=t.2.1
 refine⟨b.length,3,rfl,by show b.length<2 ^ 3;lia,by decide,λZ F=>?_⟩
 have u:=aJ F (.lst ((bJ b.length 3).map V.int))
 have e5:=aB (H:=H4) (a:=Z) (o:= .lst ((bJ b.length 3).map V.int))
 generalize upd H4 Z (.lst ((bJ b.length 3).map V.int))=H5 at u e5
 refine⟨_,_,u _ _ Y,e5,(by rw[Yd,Ya,Ya,bV,bV];exact aL rfl),λj l=>?_⟩
 have g6:=aJ l (.lst ([.int 0]++(bJ m 8).map V.int++(bJ b.length 3).map V.int))
 have e6:upd H5 j (.lst ([.int 0]++(bJ m 8).map V.int++(bJ b.length 3).map V.int)) j=some (.lst ((hdD (m:Int) b.length []).map V.int)):=by
  rw[aB];unfold hdD b8;simp
 generalize upd H5 j (.lst ([.int 0]++(bJ m 8).map V.int++(bJ b.length 3).map V.int))=H6 at g6 e6
 have p:=f.trans (u.trans g6)
 have G:H j=none:=(f.trans u).none l
 refine⟨⟨_,p.seq s⟩,iD (xs:=b.map V.int) (λi w A=>(∃x,w= [some (.int m),some (.ref a),some (.ref j),x])/\Same H A/\A j=some (.lst ((hdD (m:Int) b.length (b.take i)).map V.int))) ⟨⟨_,rfl⟩,p,e6⟩ (λi w A _ z=>z.2.1.seq s) ?_ ?_⟩
 ·rintro i x w A hx ⟨⟨y,rfl⟩,g,e⟩
  obtain⟨hi,rfl⟩:=nM hx
  obtain⟨d,ed,I⟩:=uR (xK t.2.2 hi)
  have c:=pK (m:Int) b.length (b.take i)
  rw[Yq]at c
  refine⟨⟨_,e⟩,d,8,by rw[ed];rfl,by show d<2 ^ 8;lia,by decide,λp7 J=>?_⟩
  have q:=aJ J (.lst ((bJ d 8).map V.int))
  refine⟨_,_,q _ _ e,aB,(by rw[Ya,Ya,bV,c];exact small (by lia)),⟨_,rfl⟩,(g.trans q).put G,?_⟩
  have eb:b8 b[i]=bJ d 8:=by rw[ed];rfl
  rw[aB,Yg hi,wQ,eb,Yr]
 rintro w H7 ⟨⟨y,rfl⟩,q,L⟩
 rw[Ya,Yi (Yc _)]at L
 have c:=yX (m:Int) b
 refine⟨j,hd (m:Int) b,rfl,Vb L,nH _ _,by lia,λp8 H8 a0 M e8=>?_⟩
 refine⟨_,_,M _ _ L,e8,(by rw[Ya,Ya,zL];show (hd (m:Int) b).length+15<=sizeLine;exact small (by lia)),λp9 r=>?_⟩
 have g9:=aJ r (.lst ((hd (m:Int) b).map V.int++(ck (hd (m:Int) b)).map V.int))
 refine q1 t p9 _ ((q.trans M).none r) (q.trans (M.trans g9)) ?_
 rw[aB]
 unfold fb
 rw[Yr]
 rfl
variable (Zc1:FB P w K mg base (CX0) 6 "wire_of" Zhq Zkn ["name","data"] (a4R K Zdw))
include ZaB ZQ Zz Zdv Zby in
theorem ZmP (g:GFm K mg "wire_of" Zks Zhq Zkn):type_of% Zc1:=by
 refine fbK ["name","data"] g λH Q t d h=>?_
 obtain⟨n,a,b,rfl,i,j,k,l⟩:=h
 refine⟨_,(aF (aM (aQ Zdv.1 d.mo rfl Zdv.2.2.2 Zdv.2.2.1 Zdv.2.1 .nil aK (aA (aQ Zby.1 d.mo rfl Zby.2.2.2 Zby.2.2.1 Zby.2.1 .nil aK (aA (dv 0) (aA (dv 1) aC))) aC)))),?_⟩
 refine⟨n,a,b,rfl,i,j,λe p u v f m=>?_,l⟩
 have:=mJ n b
 have:=e.2.1
 exact⟨p,fb n b,rfl,Vb m,by lia,λo q c r s=>k e o q (f.none c) (f.trans r) s⟩
variable (Zar:FB P w K mg base (CX0) 2 "told_size" ZfW Zis ["bits"] (b3O K))
include Zdy ZbD ZA in
theorem ZlT (b:GFm K mg "told_size" ZiM ZfW Zis):type_of% Zar:=by
 refine fbK ["bits"] b λH Q j c h=>?_
 obtain⟨a,bs,rfl,d,e,f,k,q⟩:=h
 refine⟨_,(aF (aM (aQ ZA.1 c.mo rfl ZA.2.2.2 ZA.2.2.1 ZA.2.1 .nil aK (aA (mV zR (dv 0) (jY (bC (v:= .int 9) rfl Zdy ⟨_,rfl⟩)) (jY (bC (v:= .int 12) rfl ZbD ⟨_,rfl⟩))) aC)))),?_⟩
 refine⟨_,d,λp g=>?_⟩
 have i:lY (bs.map V.int) (some (9:Int)) (some (12:Int))=((bs.drop 9).take 3).map V.int:=zJ rfl rfl (by lia)
 rw[i]
 refine⟨p,_,rfl,Vb aB,lE e 9 3,?_,q _ (aJ g _)⟩
 rw[Yq];lia
variable (Z8:FB P w K mg base (CX0) 3 "is_complete" Zfa ZgX ["bits"] (b7C K))
include ZbC ZaX ZbD ZF Zar in
theorem Zkg (j:GFm K mg "is_complete" Zhj Zfa ZgX):type_of% Z8:=by
 refine fbK ["bits"] j λH Q o k h=>?_
 obtain⟨a,bs,rfl,b,d,l,m,f⟩:=h
 refine⟨_,(aF (aM (a7E (fM a3W (bI fD rfl ZF cU (aA (dv 0) aC)) (bC (v:= .int 12) rfl ZbD ⟨_,rfl⟩) (aU _)) (a6J (fM dU (bI fD rfl ZF cU (aA (dv 0) aC)) (aV cM (aV cM (bC (v:= .int 12) rfl ZbD ⟨_,rfl⟩) (aV jD (bC (v:= .int 8) rfl ZaX ⟨_,rfl⟩) (aQ Zar.1 k.mo rfl Zar.2.2.2 Zar.2.2.1 Zar.2.1 .nil aK (aA (dv 0) aC)))) (bC (v:= .int 15) rfl ZbC ⟨_,rfl⟩)) (aU _)))))),?_⟩
 refine⟨_,.inl b,?_⟩
 rw[Ya]
 conv=>whnf
 refine bL (λc=>?_) (λc=>?_)
 ·have n:(12:Int)<=((bs.length:Nat):Int):=dec_true c
  refine⟨_,.inl b,?_⟩
  rw[Ya]
  refine⟨a,bs,rfl,b,d,by lia,l,λg i=>?_⟩
  have:=a4N d
  refine⟨⟨by decide,jA (by lia) (by lia)⟩,?_⟩
  by_cases z:lH bs
  ·have e:decide (((bs.length:Nat):Int)=12+8*((szB bs:Nat):Int)+15)=true:=Yj (by have:=z.2;lia)
   show Q (.bl (decide (((bs.length:Nat):Int)=12+8*((szB bs:Nat):Int)+15))) g
   rw[e];exact m z _ i
  ·have e:decide (((bs.length:Nat):Int)=12+8*((szB bs:Nat):Int)+15)=false:=Yl (λy=>z ⟨by lia,by lia⟩)
   show Q (.bl (decide (((bs.length:Nat):Int)=12+8*((szB bs:Nat):Int)+15))) g
   rw[e];exact f z _ i
 ·have n:¬ (12:Int)<=((bs.length:Nat):Int):=dec_false c
  exact f (λz=>by have:=z.1;lia) _ (Vd _)
variable (Zbz:FB P w K mg base (CX0) 4 "read_frame" Zfk ZhF ["bits"] (b3Q K Zdw))
include ZQ Zz ZaX Zdy ZbD Z6 ZA Z9 Zar Z8 in
theorem Zk3 (F0:GFm K mg "read_frame" ZhX Zfk ZhF):type_of% Zbz:=by
 refine fbK ["bits","starts"] F0 λH Q nd o h=>?_
 obtain⟨a,bs,rfl,m,n,A,q1,B⟩:=h
 refine⟨_,(aD (bH (gH (cJ (aQ Z8.1 o.mo rfl Z8.2.2.2 Z8.2.2.1 Z8.2.1 .nil aK (aA (dv 0) aC)))) (aF fB) aR) (aD (bH (aW tQ (cC jE (dv 0) aG (λ_ _=>rfl)) aG (aU _)) (aF fB) aR) (aD (bH (aW tQ (aQ Z9.1 o.mo rfl Z9.2.2.2 Z9.2.2.1 Z9.2.1 .nil aK (aA (dv 0) aC)) aG (aU _)) (aF fB) aR) (aD (iU (j:=1) nd rfl rfl rfl (ix:=[]) (fU rfl Z6 (aA (aQ Zar.1 o.mo rfl Zar.2.2.2 Zar.2.2.1 Zar.2.1 .nil aK (aA (dv 0) aC)) aC)) (λC D E F at0=>fX) (λC D E F at0=>(aV cM (bC (v:= .int 12) rfl ZbD ⟨_,rfl⟩) (aV jD (bC (v:= .int 8) rfl ZaX ⟨_,rfl⟩) (dv 0)))) rfl rfl (by rfl) (show ([".0","number"]:List Str).Nodup by decide +kernel)) (aF (aM (bO (aA (aQ ZA.1 o.mo rfl ZA.2.2.2 ZA.2.2.1 ZA.2.1 .nil aK (aA (mV zR (dv 0) (jY aG) (jY (bC (v:= .int 9) rfl Zdy ⟨_,rfl⟩))) aC)) (aA (gU rfl (ix:=[0]) (cW (dv 1)) (λC D E F at0=>fX) (λC D E F at0=>(aQ ZA.1 o.mo rfl ZA.2.2.2 ZA.2.2.1 ZA.2.1 .nil aK (aA (mV (b2X (K:=K)) (dv 1) (jY (dv 0)) (jY (aV cM (dv 0) (bC (v:= .int 8) rfl ZaX ⟨_,rfl⟩)))) aC))) rfl rfl (by rfl) (show ([".0","start","bits"]:List Str).Nodup by decide +kernel)) aC))))))))),?_⟩
 refine⟨a,bs,rfl,m,n,A,λp H1 e=>?_,λp H1 e=>(B (λz=>p z.1) _ e)⟩
 have G:=p.1
 have e0:atI (bs.map V.int) (0:Int)=some (.int (bs.getD 0 0)):=by rw[<-c0L (by lia)];exact uV (i:=0) (by lia)
 refine⟨_,_,e.seq m,e0,?_⟩
 conv=>whnf
 refine bL (λc=>?_) (λc=>?_)
 ·refine(B (λz=>?_) _ e)
  have:(!decide (bs.getD 0 0=0))=true:=c
  rw[Yj z.2.1]at this;cases this
 have c1:bs.getD 0 0=0:=YB λy=>c (by
  show (!decide (bs.getD 0 0=0))=true
  rw[Yl y];rfl)
 refine⟨a,bs,rfl,e.seq m,n,A,λH2 P=>?_⟩
 conv=>whnf
 refine bL (λz=>?_) (λz=>?_)
 ·refine(B (λy=>?_) _ (e.trans P))
  have:(!decide (((rst bs:Nat):Int)=0))=true:=z
  rw[Yj (by have:=y.2.2;lia)]at this;cases this
 have z1:rst bs=0:=YB λy=>z (by
  show (!decide (((rst bs:Nat):Int)=0))=true
  rw[Yl (by lia)];rfl)
 have ok:zO bs:=⟨p,c1,z1⟩
 have q:=e.trans P
 have s8:=a4N n
 refine⟨a,bs,rfl,q.seq m,n,G,A,λH3 g3=>?_⟩
 have I:=q.trans g3
 have R:((szB bs:Nat):Int).toNat=szB bs:=YJ _
 refine⟨⟨by lia,by lia⟩,jZ (λi b d=>b=((List.range i).map λk=>V.int (12+8*((k:Nat):Int)))/\d=H3) ?_ ⟨rfl,rfl⟩ ?_ ?_⟩
 ·rintro i b d f ⟨rfl,_⟩
  refine cD ?_
  rw[Ya,Y2];lia
 ·rintro i b d f ⟨rfl,rfl⟩
  rw[R]at f
  refine⟨⟨by decide,jA (by lia) (by lia)⟩,?_,rfl⟩
  rw[List.range_succ,Yr]
  show _++[V.int (12+8*(0+(i:Int)))]=_++[V.int (12+8*((i:Nat):Int))]
  rw[XG]
 rintro b H4 ⟨rfl,rfl⟩ ps J
 rw[R]
 generalize eU:upd H4 ps _=H5
 have g4:=nS J eU
 have e4:=nE eU
 clear eU
 have r:=I.trans g4
 refine⟨_,r.seq m,λS L=>?_⟩
 have ec:lY (bs.map V.int) (some (1:Int)) (some (9:Int))=((bs.drop 1).take 8).map V.int:=zJ rfl rfl (by lia)
 rw[ec]
 generalize eU:upd H5 S _=H6
 have T:=nS L eU
 have e6:=nE eU
 clear eU
 refine⟨S,_,rfl,Vb e6,lE n 1 8,(by rw[Yq];lia),?_⟩
 have l:=r.trans T
 have s:=T _ _ e4
 refine⟨⟨_,Vb s⟩,dO (xs:=(List.range (szB bs)).map λk=>V.int (12+8*((k:Nat):Int))) (λi b d=>b=((daB bs).take i).map V.int/\Same H6 d) ?_ ⟨rfl,Vd _⟩ (λi b d _ z=>Vb (z.2 _ _ s)) ?_ ?_⟩
 ·rintro i b d f ⟨rfl,_⟩
  refine cD ?_
  rw[Ya,Yq]
  rw[Ya,Y2]at f
  lia
 ·rintro i x b d M ⟨rfl,g⟩
  have f:i<szB bs:=by
   have:=(Ye.mp M).1
   rwa [Ya,Y2]at this
  have ex:x=V.int (12+8*((i:Nat):Int)):=by
   rw[Yo,X3 f]at M
   exact(Yp M).symm
  subst ex
  have a0:=p.2
  refine⟨_,(l.trans g).seq m,λp7 N=>?_⟩
  have O:lY (bs.map V.int) (some ((12:Int)+8*((i:Nat):Int))) (some ((12:Int)+8*((i:Nat):Int)+8))=((bs.drop (12+8*i)).take 8).map V.int:=zJ (by lia) (by lia) (by lia)
  rw[O]
  refine⟨p7,_,rfl,Vb aB,lE n _ 8,(by rw[Yq];lia),?_,g.trans (aJ N _)⟩
  rw[a8C f,Yr]
  rfl
 rintro b U ⟨rfl,W⟩ u w
 have X:upd U u (.lst (((daB bs).take ((List.range (szB bs)).map λk=>V.int (12+8*((k:Nat):Int))).length).map V.int)) u=some (.lst ((daB bs).map V.int)):=by
  rw[aB,Ya,Y2,Yi (by rw[a1L];exact Yc _)]
 have Y:=aJ w (.lst (((daB bs).take ((List.range (szB bs)).map λk=>V.int (12+8*((k:Nat):Int))).length).map V.int))
 generalize upd U u _=H8 at X Y
 refine⟨aL rfl,λt ht=>?_⟩
 have Z:=aJ ht (.tup [.int ((nm ((bs.drop 1).take 8):Nat):Int),.ref u])
 exact q1 ok t u _ ((l.trans W).none w) (l.trans (W.trans (Y.trans Z))) (Z _ _ X) aB
variable (Zcx:MB P w K mg base (CX0) 3 Zd7 ZgN ["self"] (a5G CA.reader CA.streak))
include Zej Zbq Zg ZC Zt ZK ZaG in
theorem Zj6 (A:Fun K "__init__" "Reader.__init__" Zg9 Zd7 ZgN):type_of% Zcx:=by
 refine mbK ["self"] A λH Q D B h=>?_
 obtain⟨a,l,rfl,n,q⟩:=h
 refine⟨_,(aD (bR Zg ZC (dv 0) (mW Zbq ZaG.1 B.mo rfl Zej ZaG.2 .nil aK)) (aD (bR Zg Zt (dv 0) (cY aC)) (aF (bR Zg ZK (dv 0) bA)))),?_⟩
 refine λj w g p C=>⟨j,w,rfl,aB,λr s=>⟨rfl,?_⟩⟩
 have m:Same H r:=by rw[s];exact bG g p
 have y:jP CA.streak r j (sk []):=⟨w,by rw[s];exact aB⟩
 clear s
 refine⟨l, [],m _ _ n,by decide,?_⟩
 have i:a≠j:=λz=>by rw[z,g]at n;cases n
 refine⟨aL rfl,λk b=>?_⟩
 have f:a≠k:=λz=>by rw[z]at b;rw[aB]at b;cases b
 have c:r k=none:=by rw[aH (Va f)]at b;exact b
 have t:j≠k:=λz=>by
  obtain⟨d,e⟩:=y
  rw[z,c]at e;cases e
 refine⟨l, [("streak",.ref j)],(by rw[aH f,aB];rfl),(show 1<1000 by decide),?_⟩
 refine⟨l,_,aB,(show 2<1000 by decide),?_⟩
 refine q _ j k ⟨⟨l,aB⟩,?_,?_⟩ g (m.none c) ?_
 ·refine y.at_ ?_
  rw[aH (Va i),aH (Va i),aH t,aH (Va i)]
 ·rw[aH (Va f),aH (Va f),aB]
  rfl
 ·intro x o u e
  have v:x≠k:=λz=>by rw[z,m.none c]at e;cases e
  rw[aH u,aH u,aH v,aH u]
  exact m _ _ e
variable (ZbJ:MB P w K mg base (CX0) 4 Zdt ZfF ["self"] (xZ CA.reader CA.streak))
include ZQ Zi Zg ZE ZaN ZC Zt ZN ZaK Z9 Z8 in
theorem Zi0 (v:Fun K "judged" "Reader.judged" ZfN Zdt ZfF):type_of% ZbJ:=by
 refine mbK ["self"] v λH Q E e h=>?_
 obtain⟨r,f,g,w,t,rfl,i,A,F,q⟩:=h
 refine⟨_,(aD (bH (cJ (bT Zi ZaN ZaK.1 e.mo ZaK.2 .nil aK (aO Zg ZC (dv 0)))) (aF (aM bA)) aR) (aD (bH (PW.pt (vV (cJ (bT Zi ZE ZN.1 e.mo ZN.2 .nil aK (aO Zg ZC (dv 0)))) (uA (gH (cJ (aQ Z8.1 e.mo rfl Z8.2.2.2 Z8.2.2.1 Z8.2.1 .nil aK (aA (aO Zg Zt (dv 0)) aC))))))) (aF (aM bA)) aR) (aF (aM (bZ (dF (aW dU (aQ Z9.1 e.mo rfl Z9.2.2.2 Z9.2.2.1 Z9.2.1 .nil aK (aA (aO Zg Zt (dv 0)) aC)) aG (aU _)) bA bA)))))),?_⟩
 obtain⟨j,er⟩:=i.rd
 have l:=i.sk
 obtain⟨o,p⟩:=id l
 refine⟨j,_,.ref f,er,rfl,⟨o,_,p,rfl⟩,f,sk w,rfl,l,?_⟩
 conv=>whnf
 refine bL (λc=>?_) (λc=>?_)
 ·have a:5<run w:=dec_true c
  have:=q H (Vd _)
  rw[lW a]at this
  exact this
 have a:¬ 5<run w:=dec_false c
 refine⟨j,_,.ref f,er,rfl,⟨o,_,p,rfl⟩,f,sk w,rfl,l,?_⟩
 conv=>whnf
 refine bL (λz=>?_) (λz=>?_)
 ·have m:run w=5:=dec_true z
  have:=q H (Vd _)
  rw[lF a (.inl m)]at this
  exact this
 have m:¬ run w=5:=dec_false z
 have s:=uH A
 have G:=yR w
 refine⟨j,_,.ref g,er,rfl,g,kp w,rfl,Vb i.kp,s,by lia,λn u b=>?_,λn u b=>?_⟩
 ·have d:¬ (run w=5\/¬ lH (kp w)):=λy=>y.elim m λx=>x n
  refine⟨λx B=>x= .str (ans w)/\Same H B,?_,?_⟩
  ·refine⟨j,_,.ref g,b _ _ er,rfl,g,kp w,rfl,Vb (b _ _ i.kp),s,by lia,λC k=>?_⟩
   conv=>whnf
   refine bL (λy=>?_) (λy=>?_)
   ·have D:((rst (kp w):Nat):Int)=0:=dec_true y
    rw[oN a d (by lia)]
    exact⟨rfl,b.trans k⟩
   ·have D:¬ ((rst (kp w):Nat):Int)=0:=dec_false y
    rw[uX a d (by lia)]
    exact⟨rfl,b.trans k⟩
  ·rintro x C ⟨rfl,k⟩
   exact q _ k
 ·have:=q u b
  rw[lF a (.inr n)]at this
  exact this
variable (Z7:MB P w K mg base (CX0) 5 Zd6 ZgM ["self","bit"] (a5H CA.reader CA.streak))
include ZQ Zi Zg ZV ZE Zbh ZC Zt ZK ZW ZN ZbJ in
theorem Zj5 (P:Fun K "hear" "Reader.hear" Zg8 Zd6 ZgM):type_of% Z7:=by
 refine mbK ["self","bit","is_put_in"] P λH Q R B h=>?_
 obtain⟨r,a,f,w,t,b,rfl,l,S,W,q⟩:=h
 refine⟨_,(aD (aX (i:=2) R rfl (Or.inl rfl) (bT Zi ZE ZN.1 B.mo ZN.2 .nil aK (aO Zg ZC (dv 0)))) (aD (bD (bN Zi ZV ZW.1 B.mo ZW.2 .nil aK (aO Zg ZC (dv 0)) (aA (dv 1) aC))) (aD (iV (bH (gH (cJ (dv 2))) (aF (bD (dC (aO Zg Zt (dv 0)) (aA (dv 1) aC)))) aR)) (aD (bR Zg ZK (dv 0) (bT Zg Zbh ZbJ.1 B.mo ZbJ.2 .nil aK (dv 0))) (aF (aM (aO Zg ZK (dv 0)))))))),?_⟩
 obtain⟨m,er⟩:=l.rd
 have C:=l.sk
 obtain⟨J,L⟩:=id C
 refine⟨m,_,.ref a,er,rfl,⟨J,_,L,rfl⟩,a,sk w,rfl,C,?_⟩
 refine⟨m,_,.ref a,er,rfl,⟨J,_,L,rfl⟩,a,sk w,b,rfl,C,λX D v=>?_⟩
 rw[<-lN]at D
 have j:=(v r l.ne1).trans er
 have g:=(v f l.ne3).trans l.kp
 have Y:=yR w
 refine⟨λn M=>n= [some (.ref r),some (.int b),some (.bl (decide (run w=5)))]/\iK CA.reader CA.streak M r a f (w++[b]) t/\b1V H M r a f,?_,?_⟩
 ·conv =>whnf
  refine bL (λc=>?_) (λc=>?_)
  ·have E:¬ run w=5:=λy=>by
    have:(!decide (run w=5))=true:=c
    rw[Yj y]at this;cases this
   refine⟨m,_,.ref f,j,rfl,⟨_,Vb g⟩,_,g,cD (by rw[Ya];lia),rfl,⟨⟨m,(by rw[aH l.ne2];exact j)⟩,D.set g,?_⟩,?_⟩
   ·rw[aB,fP,if_neg E,Yr];rfl
   ·intro x o z p A e
    rw[aH A,v x p]
    exact e
  ·have E:run w=5:=YB λy=>c (by
    show (!decide (run w=5))=true
    rw[Yl y];rfl)
   refine⟨rfl,⟨⟨m,j⟩,D,?_⟩,?_⟩
   ·rw[fP,if_pos E];exact g
   ·intro x o z p A e
    rw[v x p]
    exact e
 rintro n Z ⟨rfl,k,T⟩
 have s:(w++[b]).length<=450:=by rw[Yd,Yt];lia
 obtain⟨U,F⟩:=k.rd
 refine⟨⟨U,_,F,rfl⟩,r,a,f,w++[b],t,rfl,k,S,s,λN O=>?_⟩
 have d:=k.same O
 obtain⟨u,G⟩:=d.rd
 refine⟨u,_,G,(show 3<1000 by decide),?_⟩
 have I:iK CA.reader CA.streak (upd N r (.ins CA.reader u (rdF a f (ans (w++[b]))))) r a f (w++[b]) (ans (w++[b])):=⟨⟨u,aB⟩,d.sk.at_ (aH (Va d.ne1)),by rw[aH (Va d.ne2)];exact d.kp⟩
 have V:b1V H (upd N r (.ins CA.reader u (rdF a f (ans (w++[b]))))) r a f:=λx o z p A e=>by
  rw[aH z]
  exact O _ _ (T x o z p A e)
 exact⟨u,_,.str (ans (w++[b])),aB,rfl,q _ I V⟩
variable (Zcf:MB P w K mg base (CX0) 1 ZdJ Zf5 ["self"] (a2E CA.reader CA.streak))
include ZaQ Zg Zt in
theorem Zjr (c:Fun K "plain" "Reader.plain" Zgl ZdJ Zf5):type_of% Zcf:=by
 refine mbK ["self"] c λH Q f g h=>?_
 obtain⟨r,i,d,w,t,rfl,a,q⟩:=h
 refine⟨_,(aF (aM (gJ iR rfl ZaQ kE (aA (aO Zg Zt (dv 0)) aC)))),?_⟩
 obtain⟨e,er⟩:=a.rd
 exact⟨e,_,.ref d,er,rfl,_,.inl (Vb a.kp),λp b=>q p _ b (aJ b _) aB⟩
variable (Zce:MB P w K mg base (CX0) 5 ZdI Zf4 ["self"] (a2F CA.reader CA.streak))
include ZQ Zz Zg Zt ZK Zbz in
theorem Zjq (j:Fun K "frame" "Reader.frame" Zgk ZdI Zf4):type_of% Zce:=by
 refine mbK ["self"] j λH Q A k h=>?_
 obtain⟨r,B,d,w,rfl,e,l,C,m,n,o⟩:=h
 refine⟨_,(aF (aM (bZ (dF (aW dU (aO Zg ZK (dv 0)) bA (aU _)) (aQ Zbz.1 k.mo rfl Zbz.2.2.2 Zbz.2.2.1 Zbz.2.1 .nil aK (aA (aO Zg Zt (dv 0)) aC)) uB)))),?_⟩
 obtain⟨f,er⟩:=e.rd
 have q:=uH l
 have D:=yR w
 refine⟨λx a=>Q x a,?_,λx a z=>z⟩
 refine⟨f,_,.str (ans w),er,rfl,?_⟩
 conv=>whnf
 refine bL (λc=>?_) (λc=>?_)
 ·have b:ans w="whole":=YK c
  have i:=uW b
  have ok:zO (kp w):=⟨i.1,m b,i.2⟩
  refine⟨f,_,.ref d,er,rfl,d,kp w,rfl,Vb e.kp,q,by lia,λ_ t p a s g u v=>n b ok t p a s g u v,λy=>absurd ok y⟩
 ·exact o λz=>c (Yj z)
variable (Za6:MB P w K mg base (CX0) 1 ZeY Zik ["self","votes","spoke"] (a4V K CA.rtail CA.stail))
include Zf Zc in
theorem ZlL (f:Fun K "__init__" "Tail.__init__" ZiE ZeY Zik):type_of% Za6:=by
 refine mbK ["self","votes","spoke"] f λH Q i j h=>?_
 obtain⟨t,C,c,v,s,rfl,g,e,q⟩:=h
 refine⟨_,(aD (lO (dv 0) (dv 1)) (aD (lO (dv 0) (dv 2)) (aD (lO (dv 0) aG) (aF (lO (dv 0) aG))))),?_⟩
 have b:=jF Zf Zc g
 refine⟨C,c,_,e,b.cls,b.n1,by decide,?_⟩
 refine⟨C,c,_,aB,b.cls,b.n2,(show 1<1000 by decide),?_⟩
 refine⟨C,c,_,aB,b.cls,b.n3,(show 2<1000 by decide),?_⟩
 refine⟨C,c,_,aB,b.cls,b.n4,(show 3<1000 by decide),?_⟩
 have d:∀(H:Hp)(a:Addr)(x y:HO),upd (upd H a x) a y=upd H a y:=λH a x y=>by
  funext z
  by_cases h:z=a
  ·rw[h,aB,aB]
  ·rw[aH h,aH h,aH h]
 rw[d,d,d]
 exact q
variable (Zdl:MB P w K mg base (CX0) 1 ZdU Zil ["self"] (a4U CA.rtail CA.stail))
include ZcM Zf Zc in
theorem ZlM (g:Fun K "says" "Tail.says" ZiF ZdU Zil):type_of% Zdl:=by
 refine mbK ["self"] g λH Q j k h=>?_
 obtain⟨t,v,s,o,n,rfl,⟨C,b,i,e⟩,q⟩:=h
 refine⟨_,(aF (aM (bZ (dF (PW.pt (jV (aW dU (eG (dv 0)) (bC (v:= .int 1) rfl ZcM ⟨_,rfl⟩) (aU _)) (jH (gH (cJ (eG (dv 0))))))) aG aG)))),?_⟩
 have a:=jF Zf Zc i
 refine⟨λx d=>x= .int (fH s o)/\d=H,?_,?_⟩
 ·refine⟨C,b,_,_,e,a.cls,a.n3,rfl,?_⟩
  conv=>whnf
  refine bL (λc=>?_) (λc=>yU ?_)
  ·have f:((o:Nat):Int)=1:=dec_true c
   refine⟨C,b,_,_,e,a.cls,a.n2,rfl,?_⟩
   cases s
   ·refine⟨?_,rfl⟩
    unfold fH
    rw[if_pos ⟨by lia,rfl⟩]
   ·refine⟨?_,rfl⟩
    unfold fH
    rw[if_neg λz=>nomatch z.2]
  ·have f:¬ ((o:Nat):Int)=1:=dec_false c
   refine⟨?_,rfl⟩
   unfold fH
   rw[if_neg λz=>f (by lia)]
 rintro x d ⟨rfl,rfl⟩
 exact q
variable (ZcX:MB P w K mg base (CX0) 1 Zdx ZhD ["self"] (a2A CA.rtail CA.stail))
include Zf Zc in
theorem Zk1 (b:Fun K "place" "Tail.place" ZhV Zdx ZhD):type_of% ZcX:=by
 refine mbK ["self"] b λH Q f g h=>?_
 obtain⟨t,v,s,o,n,rfl,⟨C,c,d,e⟩,q⟩:=h
 refine⟨_,(aF (aM (eG (dv 0)))),?_⟩
 have a:=jF Zf Zc d
 exact⟨C,c,_,_,e,a.cls,a.n3,rfl,q⟩
variable (ZbL:MB P w K mg base (CX0) 1 ZcH ZfH ["self","at","bit"] (a2C CA.rtail CA.stail))
include ZcM Zf Zc in
theorem Zi2 (g:Fun K "is_fault" "Tail.is_fault" ZfP ZcH ZfH):type_of% ZbL:=by
 refine mbK ["self","at","bit"] g λH Q l m h=>?_
 obtain⟨t,v,s,o,n,a,b,rfl,⟨C,i,j,e⟩,q⟩:=h
 refine⟨_,(aD (bH (aW dU (dv 1) (bC (v:= .int 1) rfl ZcM ⟨_,rfl⟩) (aU _)) (aF (aM (a7E (eG (dv 0)) (a6J (fM dU (dv 2) aG (aU _)))))) aR) (aF (aM (fM dU (dv 2) aG (aU _))))),?_⟩
 have f:=jF Zf Zc j
 conv=>whnf
 refine bL (λc=>?_) (λc=>?_)
 ·have k:((a:Nat):Int)=1:=dec_true c
  have d:fV s a b=(s && decide (b=1)):=if_pos (by lia)
  rw[d]at q
  refine⟨C,i,_,_,e,f.cls,f.n2,rfl,?_⟩
  cases s
  ·exact q
  ·exact q
 ·have k:¬ ((a:Nat):Int)=1:=dec_false c
  have d:fV s a b=decide (b=0):=if_neg (by lia)
  rw[d]at q
  exact q
variable (Za0:MB P w K mg base (CX0) 1 ZbB Ze5 ["self","bit"] (a2B CA.rtail CA.stail))
include Zda Zf Zc in
theorem Zhk (y:Fun K "judged_vote" "Tail.judged_vote" Ze6 ZbB Ze5):type_of% Za0:=by
 refine mbK ["self","bit"] y λH Q D E h=>?_
 obtain⟨t,v,s,o,n,b,rfl,⟨C,d,p,e⟩,q⟩:=h
 refine⟨_,(aD (iV (bH (aW dU (dv 1) aG (aU _)) (aF (lO (dv 0) (aV cM (eG (dv 0)) aG))) aR)) (aD (bH (aW a3U (eG (dv 0)) (aV cM (bC (v:= .int 9) rfl Zda ⟨_,rfl⟩) (eG (dv 0))) (aU _)) (aF (aM bA)) aR) (aF (aM (bZ (dF (aW vC (eG (dv 0)) (aV a3X (eG (dv 0)) aG) (aU _)) bA bA)))))),?_⟩
 have a:=jF Zf Zc p
 refine⟨λg i=>g= [some (.ref t),some (.int b)]/\i t=some (.ins C d (tlF v s o (if b=0 then n+1 else n)))/\a8Q H i t,?_,?_⟩
 ·conv=>whnf
  refine bL (λc=>?_) (λc=>?_)
  ·have j:b=0:=dec_true c
   refine⟨C,d,_,_,e,a.cls,a.n4,rfl,C,d,_,e,a.cls,a.n4,(show 4<1000 by decide),rfl,?_,λx u r ex=>by rw[aH r];exact ex⟩
   rw[aB,if_pos j]
   rfl
  ·have j:¬ b=0:=dec_false c
   refine⟨rfl,?_,λx u r ex=>ex⟩
   rw[if_neg j]
   exact e
 rintro g i ⟨rfl,f,A⟩
 have k:=q i ⟨C,d,p,f⟩ A
 generalize (if b=0 then n+1 else n)=m at f k
 refine⟨C,d,_,_,f,a.cls,a.n3,rfl,C,d,_,_,f,a.cls,a.n1,rfl,?_⟩
 conv=>whnf
 refine bL (λc=>?_) (λc=>?_)
 ·have j:((o:Nat):Int)<9+((v:Nat):Int):=dec_true c
  have l:oG v o m="more":=if_pos (by lia)
  rw[l]at k
  exact k
 have j:¬ ((o:Nat):Int)<9+((v:Nat):Int):=dec_false c
 have l:oG v o m=(if v / 2<m then ("refused":Str) else ("taken":Str)):=if_neg (by lia)
 rw[l]at k
 refine⟨λx w=>x= .str (if v / 2<m then ("refused":Str) else ("taken":Str))/\w=i,?_,?_⟩
 ·refine⟨C,d,_,_,f,a.cls,a.n4,rfl,C,d,_,_,f,a.cls,a.n1,rfl,?_⟩
  refine⟨⟨by decide,by decide⟩,?_⟩
  conv=>whnf
  refine bL (λz=>?_) (λz=>?_)
  ·have B:((v:Nat):Int) / 2<((m:Nat):Int):=dec_true z
   rw[if_pos (by lia)]
   exact⟨rfl,rfl⟩
  ·have B:¬ ((v:Nat):Int) / 2<((m:Nat):Int):=dec_false z
   rw[if_neg (by lia)]
   exact⟨rfl,rfl⟩
 rintro x w ⟨rfl,rfl⟩
 exact k
variable (Zdk:MB P w K mg base (CX0) 2 ZdT Zij ["self","bit"] (a4W CA.rtail CA.stail))
include Zda Zf Zc Za4 ZaY ZaO ZaA ZbL Za0 in
theorem ZlK (F:Fun K "hear" "Tail.hear" ZiD ZdT Zij):type_of% Zdk:=by
 refine mbK ["self","bit","at"] F λH Q G D h=>?_
 obtain⟨t,v,s,o,n,b,rfl,⟨C,a,d,e⟩,q⟩:=h
 refine⟨_,(aD (aX (i:=2) G rfl (Or.inl rfl) (eG (dv 0))) (aD (lO (dv 0) (aV cM (dv 2) aG)) (aD (bH (aW a3W (dv 2) (bC (v:= .int 9) rfl Zda ⟨_,rfl⟩) (aU _)) (aF (aM (qK Za0.1 D.mo Za0.2 .nil aK (dv 0) (aA (dv 1) aC)))) aR) (aF (aM (bZ (dF (cJ (qK ZbL.1 D.mo ZbL.2 .nil aK (dv 0) (aA (dv 2) (aA (dv 1) aC)))) bA bA))))))),?_⟩
 have g:=jF Zf Zc d
 have p:=oU ZaO ZaA d
 have r:=oU Za4 ZaY d
 refine⟨C,a,_,_,e,g.cls,g.n3,rfl,C,a,_,e,g.cls,g.n3,(show 4<1000 by decide),?_⟩
 have j:upd H t (.ins C a (fJ "over" (.int (((o:Nat):Int)+1)) (tlF v s o n))) t=some (.ins C a (tlF v s (o+1) n)):=aB
 have w:a8Q H (upd H t (.ins C a (fJ "over" (.int (((o:Nat):Int)+1)) (tlF v s o n)))) t:=λx u l ex=>by rw[aH l];exact ex
 generalize upd H t (.ins C a (fJ "over" (.int (((o:Nat):Int)+1)) (tlF v s o n)))=H1 at j w
 conv=>whnf
 refine bL (λc=>?_) (λc=>?_)
 ·have I:(9:Int)<=((o:Nat):Int):=dec_true c
  have k:9<=o:=by lia
  refine⟨⟨C,a,_,j,g.cls,p,rfl⟩,t,v,s,o+1,n,b,rfl,⟨C,a,d,j⟩,λm E J=>?_⟩
  have A:tlN o b n=(if b=0 then n+1 else n):=by
   unfold tlN
   by_cases z:b=0
   ·rw[if_pos ⟨k,z⟩,if_pos z]
   ·rw[if_neg λy=>z y.2,if_neg z]
  have B:bW v s o n b=oG v (o+1) (tlN o b n):=if_pos k
  rw[<-A]at E ⊢
  have:=q m E λx u l ex=>J x u l (w x u l ex)
  rw[B]at this
  exact this
 have I:¬ (9:Int)<=((o:Nat):Int):=dec_false c
 have k:¬ 9<=o:=by lia
 have A:tlN o b n=n:=if_neg λz=>k z.1
 have B:bW v s o n b=(if fV s o b=true then ("fault":Str) else ("more":Str)):=if_neg k
 rw[B,A]at q
 have L:=q H1 ⟨C,a,d,j⟩ w
 refine⟨λx m=>x= .str (if fV s o b=true then ("fault":Str) else ("more":Str))/\m=H1,?_,?_⟩
 ·refine⟨⟨C,a,_,j,g.cls,r,rfl⟩,t,v,s,o+1,n,o,b,rfl,⟨C,a,d,j⟩,?_⟩
  generalize fV s o b=f
  cases f
  ·exact⟨rfl,rfl⟩
  ·exact⟨rfl,rfl⟩
 rintro x m ⟨rfl,rfl⟩
 exact L
variable (ZbI:MB P w K mg base (CX0) 2 Zds ZfE ["self","votes"] (vM CA.rtail false))
include Zdz Zf Zc Zak Za6 in
theorem ZiZ (a:Fun K "__init__" "ReadTail.__init__" ZfM Zds ZfE):type_of% ZbI:=by
 refine mbK ["self","votes"] a λH Q d b h=>?_
 obtain⟨t,c,v,rfl,e,q⟩:=h
 refine⟨_,(aF (bD (wK Zak Za6.1 b.mo Za6.2 .nil aK (bC (v:= .ref ZdS) rfl Zdz rfl) (aA (dv 0) (aA (dv 1) (aA iW aC)))))),?_⟩
 exact⟨rfl,t,CA.rtail,c,v,false,rfl,.inl rfl,e,q _ rfl⟩
variable (Zbn:MB P w K mg base (CX0) 2 Zc6 Zfr ["self","votes"] (vM CA.stail true))
include Zdz Zf Zc Zak Za6 in
theorem Zh6 (a:Fun K "__init__" "SpeakTail.__init__" Zfy Zc6 Zfr):type_of% Zbn:=by
 refine mbK ["self","votes"] a λH Q d b h=>?_
 obtain⟨t,c,v,rfl,e,q⟩:=h
 refine⟨_,(aF (bD (wK Zak Za6.1 b.mo Za6.2 .nil aK (bC (v:= .ref ZdS) rfl Zdz rfl) (aA (dv 0) (aA (dv 1) (aA iW aC)))))),?_⟩
 exact⟨rfl,t,CA.stail,c,v,true,rfl,.inr rfl,e,q _ rfl⟩
variable (ZcQ:MB P w K mg base (CX0) 1 Zen Zhs ["self"] (a5N CA.count))
include Zd Zr in
theorem ZkQ (b:Fun K "__init__" "Count.__init__" ZhK Zen Zhs):type_of% ZcQ:=by
 refine mbK ["self"] b λH Q e f h=>?_
 obtain⟨a,c,rfl,d,q⟩:=h
 refine⟨_,(aF (bR Zd Zr (dv 0) aG)),?_⟩
 exact⟨c, [],d,by decide,q⟩
variable (Zbj:MB P w K mg base (CX0) 1 Zc2 Zfn ["self"] (b2H CA.count 12))
include ZeG Zd Zr in
theorem Zh2 (b:Fun K "is_quiet" "Count.is_quiet" Zfu Zc2 Zfn):type_of% Zbj:=by
 refine mbK ["self"] b λH Q e f h=>?_
 obtain⟨a,n,rfl,⟨c,d⟩,q⟩:=h
 refine⟨_,(aF (aM (fM a3W (aO Zd Zr (dv 0)) (bC (v:= .int 12) rfl ZeG ⟨_,rfl⟩) (aU _)))),?_⟩
 exact⟨c,_,.int n,d,rfl,q⟩
variable (Zax:MB P w K mg base (CX0) 1 ZdE ZfZ ["self"] (b2H CA.count 18))
include Zfh Zd Zr in
theorem Zjl (b:Fun K "is_off" "Count.is_off" Zgf ZdE ZfZ):type_of% Zax:=by
 refine mbK ["self"] b λH Q e f h=>?_
 obtain⟨a,n,rfl,⟨c,d⟩,q⟩:=h
 refine⟨_,(aF (aM (fM a3W (aO Zd Zr (dv 0)) (bC (v:= .int 18) rfl Zfh ⟨_,rfl⟩) (aU _)))),?_⟩
 exact⟨c,_,.int n,d,rfl,q⟩
variable (ZfY:MB P w K mg base (CX0) 1 ZeK Zf0 ["self"] (b7B CA.count))
include Zd Zr in
theorem Zjm (b:Fun K "number" "Count.number" Zgg ZeK Zf0):type_of% ZfY:=by
 refine mbK ["self"] b λH Q e f h=>?_
 obtain⟨a,n,rfl,⟨c,d⟩,q⟩:=h
 refine⟨_,(aF (aM (aO Zd Zr (dv 0)))),?_⟩
 exact⟨c,_,.int n,d,rfl,q⟩
variable (Zac:MB P w K mg base (CX0) 2 Zeo Zht ["self","step"] (a5M CA.count))
include Zld Zd Zaf Zr Zax in
theorem ZkR (i:Fun K "move" "Count.move" ZhL Zeo Zht):type_of% Zac:=by
 refine mbK ["self","step"] i λH Q k j h=>?_
 obtain⟨a,n,l,rfl,⟨d,e⟩,q⟩:=h
 refine⟨_,(aF (bH (gH (cJ (bT Zd Zaf Zax.1 j.mo Zax.2 .nil aK (dv 0)))) (aF (bR Zd Zr (dv 0) (bI (b2Z rfl) rfl Zld b5Y (aA aG (aA (aV cM (aO Zd Zr (dv 0)) (dv 1)) aC))))) aR)),?_⟩
 refine⟨⟨d,_,e,rfl⟩,a,n,rfl,⟨d,e⟩,?_⟩
 conv=>whnf
 refine bL (λc=>?_) (λc=>?_)
 ·have f:¬ (18:Int)<=n:=λz=>by
   have:(!decide ((18:Int)<=n))=true:=c
   rw[Yj z]at this
   cases this
  refine⟨d,_,.int n,e,rfl,d,_,e,(show 1<1000 by decide),q _ ?_ λb g=>aH g⟩
  refine⟨d,?_⟩
  unfold mvd
  rw[if_neg f]
  exact aB
 ·have f:(18:Int)<=n:=YB λz=>c (by
   show (!decide ((18:Int)<=n))=true
   rw[Yl z];rfl)
  refine q _ ?_ λb g=>rfl
  unfold mvd
  rw[if_pos f]
  exact⟨d,e⟩
variable (ZaC:MB P w K mg base (CX0) 3 ZdX ZgD ["self","spoke"] (a2I CA.count))
include ZbX Zeg Zd ZX Zac in
theorem ZjW (F0:Fun K "fault" "Count.fault" ZgZ ZdX ZgD):type_of% ZaC:=by
 refine mbK ["self","spoke"] F0 λH Q g f h=>?_
 obtain⟨a,n,b,rfl,⟨c,d⟩,q⟩:=h
 refine⟨_,(aF (bD (bN Zd ZX Zac.1 f.mo Zac.2 .nil aK (dv 0) (aA (bZ (dF (cJ (dv 1)) (bC (v:= .int 8) rfl ZbX ⟨_,rfl⟩) (bC (v:= .int 1) rfl Zeg ⟨_,rfl⟩))) aC)))),?_⟩
 refine⟨⟨c,_,d,rfl⟩,λx e=>x= .int (if b=true then 8 else 1)/\e=H,?_,?_⟩
 ·cases b with
  |true=>exact⟨rfl,rfl⟩
  |false=>exact⟨rfl,rfl⟩
 rintro x e ⟨rfl,rfl⟩
 exact⟨a,n,_,rfl,⟨c,d⟩,q⟩
variable (Zcr:MB P w K mg base (CX0) 3 ZdW ZgC ["self"] (vO CA.count 8))
include ZbX Zd ZX Zac in
theorem ZjV (d:Fun K "blame" "Count.blame" ZgY ZdW ZgC):type_of% Zcr:=by
 refine mbK ["self"] d λH Q f e h=>?_
 obtain⟨a,n,rfl,⟨b,c⟩,q⟩:=h
 refine⟨_,(aF (bD (bN Zd ZX Zac.1 e.mo Zac.2 .nil aK (dv 0) (aA (bC (v:= .int 8) rfl ZbX ⟨_,rfl⟩) aC)))),?_⟩
 exact⟨⟨b,_,c,rfl⟩,a,n,8,rfl,⟨b,c⟩,q⟩
variable (ZcP:MB P w K mg base (CX0) 3 Zem Zhr ["self"] (vO CA.count (-1)))
include Zd ZX Zac in
theorem ZkP (d:Fun K "good" "Count.good" ZhJ Zem Zhr):type_of% ZcP:=by
 refine mbK ["self"] d λH Q f e h=>?_
 obtain⟨a,n,rfl,⟨b,c⟩,q⟩:=h
 refine⟨_,(aF (bD (bN Zd ZX Zac.1 e.mo Zac.2 .nil aK (dv 0) (aA (a0N zV aG) aC)))),?_⟩
 exact⟨⟨b,_,c,rfl⟩,a,n, -1,rfl,⟨b,c⟩,q⟩
variable (Zab:FB P w K mg base (CX0) 7 "begun_reader" ZeL Zga [] (a9N CA))
include ZQ Zz ZgA Zg ZdO ZS Zcx Z7 in
theorem Zjw (t:GFm K mg "begun_reader" Zgq ZeL Zga):type_of% Zab:=by
 refine fbK ["reader"] t λH Q u p h=>?_
 obtain⟨rfl,q⟩:=h
 refine⟨_,(aD (aX (i:=0) u rfl (Or.inl rfl) (mW ZdO Zcx.1 p.mo rfl ZgA Zcx.2 .nil aK)) (aD (bD (bN Zg ZS Z7.1 p.mo Z7.2 .nil aK (dv 0) (aA aG aC))) (aF (aM (dv 0))))),?_⟩
 refine λr dr a b v=>⟨r,dr,rfl,aB,λw f g s j k y=>⟨rfl,?_⟩⟩
 have l:Same H w:=λx o e=>y x o (aP e a) (by rw[aH (aP e a),aH (aP e b)];exact e)
 have c:H f=none:=Same.none (λx o e=>(by rw[aH (aP e a),aH (aP e b)];exact e):Same H _) j
 have d:H g=none:=Same.none (λx o e=>(by rw[aH (aP e a),aH (aP e b)];exact e):Same H _) k
 obtain⟨A,m⟩:=s.rd
 refine⟨⟨A,_,m,rfl⟩,r,f,g, [],_,0,rfl,s,(λz B=> .inl (Yk.mp B)),by decide,λC n D=>?_⟩
 exact q r f g C _ n (λx o e=>D x o (aP e a) (aP e c) (aP e d) (l x o e)) a c d
variable (Zap:MB P w K mg base (CX0) 1 ZeN Zh9 ["self","since"] (yF CA.free "since"))
include Zw ZI in
theorem Zlz (b:Fun K "__init__" "Free.__init__" Zit ZeN Zh9):type_of% Zap:=by
 refine mbK ["self","since"] b λH Q d f h=>?_
 obtain⟨a,c,v,rfl,e,q⟩:=h
 refine⟨_,(aF (bR Zw ZI (dv 0) (dv 1))),?_⟩
 exact⟨c, [],e,by decide,q _ rfl⟩
variable (ZaF:MB P w K mg base (CX0) 1 Zea ZgQ ["self","wire","reader","many"] (b3R CA.speaks "wire" "reader" "many"))
include Zh ZL ZU Zv in
theorem Zj9 (c:Fun K "__init__" "Speaks.__init__" Zhc Zea ZgQ):type_of% ZaF:=by
 refine mbK ["self","wire","reader","many"] c λH Q d f h=>?_
 obtain⟨a,b,v,w,z,rfl,e,q⟩:=h
 refine⟨_,(aD (bR Zh ZL (dv 0) (dv 1)) (aD (bR Zh ZU (dv 0) (dv 2)) (aF (bR Zh Zv (dv 0) (dv 3))))),?_⟩
 refine⟨b, [],e,by decide,b,_,aB,(show 1<1000 by decide),b,_,aB,(show 2<1000 by decide),?_⟩
 refine q _ ?_
 rw[jR,jR]
 rfl
variable (Zad:MB P w K mg base (CX0) 1 Zes Zhx ["self","reader","many"] (yE CA.reads "reader" "many"))
include Zu Z2 Z5 in
theorem ZkV (c:Fun K "__init__" "Reads.__init__" ZhP Zes Zhx):type_of% Zad:=by
 refine mbK ["self","reader","many"] c λH Q d f h=>?_
 obtain⟨a,b,v,w,rfl,e,q⟩:=h
 refine⟨_,(aD (bR Zu Z2 (dv 0) (dv 1)) (aF (bR Zu Z5 (dv 0) (dv 2)))),?_⟩
 refine⟨b, [],e,by decide,b,_,aB,(show 1<1000 by decide),?_⟩
 refine q _ ?_
 rw[jR]
 rfl
variable (ZaD:MB P w K mg base (CX0) 1 ZdY ZgE ["self","tail","found"] (yE CA.intail "tail" "found"))
include Zk Zs Zau in
theorem ZjX (c:Fun K "__init__" "InTail.__init__" Zg0 ZdY ZgE):type_of% ZaD:=by
 refine mbK ["self","tail","found"] c λH Q d f h=>?_
 obtain⟨a,b,v,w,rfl,e,q⟩:=h
 refine⟨_,(aD (bR Zk Zs (dv 0) (dv 1)) (aF (bR Zk Zau (dv 0) (dv 2)))),?_⟩
 refine⟨b, [],e,by decide,b,_,aB,(show 1<1000 by decide),?_⟩
 refine q _ ?_
 rw[jR]
 rfl
variable (Zao:MB P w K mg base (CX0) 1 Zdo ZfA ["self","left","may_blame"] (yE CA.flag "left" "may_blame"))
include Zn ZH ZR in
theorem ZiV (c:Fun K "__init__" "Flagging.__init__" ZfI Zdo ZfA):type_of% Zao:=by
 refine mbK ["self","left","may_blame"] c λH Q d f h=>?_
 obtain⟨a,b,v,w,rfl,e,q⟩:=h
 refine⟨_,(aD (bR Zn ZH (dv 0) (dv 1)) (aF (bR Zn ZR (dv 0) (dv 2)))),?_⟩
 refine⟨b, [],e,by decide,b,_,aB,(show 1<1000 by decide),?_⟩
 refine q _ ?_
 rw[jR]
 rfl
variable (ZZ:MB P w K mg base (CX0) 1 ZdK Zf6 ["self","may_blame"] (yF CA.settles "may_blame"))
include ZD Z3 in
theorem Zjs (b:Fun K "__init__" "Settles.__init__" Zgm ZdK Zf6):type_of% ZZ:=by
 refine mbK ["self","may_blame"] b λH Q d f h=>?_
 obtain⟨a,c,v,rfl,e,q⟩:=h
 refine⟨_,(aF (bR ZD Z3 (dv 0) (dv 1))),?_⟩
 exact⟨c, [],e,by decide,q _ rfl⟩
variable (Z1:MB P w K mg base (CX0) 1 Zev ZhA ["self","left"] (yF CA.rests "left"))
include Zy ZY in
theorem ZkY (b:Fun K "__init__" "Rests.__init__" ZhS Zev ZhA):type_of% Z1:=by
 refine mbK ["self","left"] b λH Q d f h=>?_
 obtain⟨a,c,v,rfl,e,q⟩:=h
 refine⟨_,(aF (bR Zy ZY (dv 0) (dv 1))),?_⟩
 exact⟨c, [],e,by decide,q _ rfl⟩
variable (ZbH:MB P w K mg base (CX0) 2 Zdr ZfD ["self"] (b2I CA 12))
include Zd Za Za8 Zm Zbj in
theorem ZiY (f:Fun K "is_quiet" "Post.is_quiet" ZfL Zdr ZfD):type_of% ZbH:=by
 refine mbK ["self"] f λH Q k g h=>?_
 obtain⟨p,i,S,o,rfl,⟨j,l,m,n,a,r,s,b⟩,q⟩:=h
 refine⟨_,(aF (aM (bT Zd Za8 Zbj.1 g.mo Zbj.2 .nil aK (aO Za Zm (dv 0))))),?_⟩
 obtain⟨c,d⟩:=b.et
 exact⟨j,_,.ref a,b.e,rfl,⟨c,_,d,rfl⟩,a,S.tot,rfl,⟨c,d⟩,q⟩
variable (ZaE:MB P w K mg base (CX0) 2 Zd1 ZgH ["self"] (b2I CA 18))
include Zd Za Zaf Zm Zax in
theorem Zj0 (f:Fun K "is_off" "Post.is_off" Zg3 Zd1 ZgH):type_of% ZaE:=by
 refine mbK ["self"] f λH Q k g h=>?_
 obtain⟨p,i,S,o,rfl,⟨j,l,m,n,a,r,s,b⟩,q⟩:=h
 refine⟨_,(aF (aM (bT Zd Zaf Zax.1 g.mo Zax.2 .nil aK (aO Za Zm (dv 0))))),?_⟩
 obtain⟨c,d⟩:=b.et
 exact⟨j,_,.ref a,b.e,rfl,⟨c,_,d,rfl⟩,a,S.tot,rfl,⟨c,d⟩,q⟩
variable (Zbl:MB P w K mg base (CX0) 1 Zc4 Zfp ["self"] (b6Z CA))
include ZF Za Zl in
theorem Zh4 (a:Fun K "has_frame" "Post.has_frame" Zfw Zc4 Zfp):type_of% Zbl:=by
 refine mbK ["self"] a λH Q g i h=>?_
 obtain⟨p,c,S,o,rfl,⟨d,j,f,k,l,m,n,b⟩,q⟩:=h
 refine⟨_,(aF (aM (fM vC (bI fD rfl ZF cU (aA (aO Za Zl (dv 0)) aC)) aG (aU _)))),?_⟩
 refine⟨d,_,.ref f,b.e,rfl,_,.inl (Vb b.ew),?_⟩
 rw[b.fw.len]
 exact q
variable (ZaJ:MB P w K mg base (CX0) 7 ZbZ Zez ["self"] (yG CA))
include ZaB ZQ Zz Za Zl Zc1 in
theorem Zgd (F0:Fun K "foremost_wire" "Post.foremost_wire" ZeI ZbZ Zez):type_of% ZaJ:=by
 refine mbK ["self"] F0 λH Q B u h=>?_
 obtain⟨p,v,S,o,f,r,rfl,⟨l,C,m,D,E,w,F,b⟩,c,n,q⟩:=h
 refine⟨_,(aF (aM (aQ Zc1.1 u.mo rfl Zc1.2.2.2 Zc1.2.2.1 Zc1.2.1 .nil aK (aA (cC iB (cC jE (aO Za Zl (dv 0)) aG (λ_ _=>rfl)) aG (λ_ _=>rfl)) (aA (cC iB (cC jE (aO Za Zl (dv 0)) aG (λ_ _=>rfl)) aG (λ_ _=>rfl)) aC))))),?_⟩
 have i:=b.fw
 rw[c]at i
 generalize hws:w=ws' at i
 cases i with
 | cons a rr=>
  rename_i t ts
  obtain⟨d,s,x,G⟩:=a
  have j:=b.ew
  rw[hws]at j
  refine⟨l,_,.ref m,b.e,rfl,_,.ref t,Vb j,at0,_,_,Vc s,rfl,l,_,.ref m,b.e,rfl,_,.ref t,Vb j,at0,_,_,Vc s,rfl,?_⟩
  have I:=n.2.1
  refine⟨(f.1:Int),d,f.2,rfl,Vb x,by lia,λ_ y z k g e=>q y z k g e,λA=>absurd n.ok A⟩
variable (ZaI:MB P w K mg base (CX0) 1 ZbY Zey ["self"] (b3T CA))
include Za Zl in
theorem Zgc (F0:Fun K "drop_foremost" "Post.drop_foremost" ZeH ZbY Zey):type_of% ZaI:=by
 refine mbK ["self"] F0 λH Q J L h=>?_
 obtain⟨p,y,S,o,rfl,⟨r,A,c,k,B,C,D,b⟩,E,q⟩:=h
 refine⟨_,(aF (bD (a7D (aO Za Zl (dv 0)) (aA aG aC)))),?_⟩
 have m:=b.fw
 generalize hws:C=ws' at m
 generalize hwt:S.wt=wt at m
 cases m with
 |nil=>exact absurd hwt E
 | cons a rr=>
  rename_i t f ts fs
  have j:=b.ew
  rw[hws]at j
  refine⟨r,_,.ref c,b.e,rfl,⟨_,j⟩,_,0,.ref t,j,⟨by decide,by decide⟩,sq0,rfl,?_⟩
  have n:cL o H (upd H c (.lst ts)):=λx v e z=>by
   rw[aH]
   ·exact e
   ·rintro rfl
    rcases z with z | ⟨M,rfl⟩
    ·exact z b.ow
    ·rw[j]at e;cases e
  have s:∀{x:Addr}{v:HO},H x=some v->(∀l,v≠ .lst l)->upd H c (.lst ts) x=some v:=λ{x v} e h=>by
   rw[aH]
   ·exact e
   ·rintro rfl
    rw[j]at e
    exact h _ (Yp e).symm
  have u:∀{g:List V}{i:List Fr},cQ H (Dl o c k) g i->cQ (upd H c (.lst ts)) (Dl o c k) g i:=λ{g i} h=>by
   induction h with
   |nil=>exact .nil
   | cons a _ ih=>
    obtain⟨d,F,G,w⟩:=a
    exact .cons ⟨d,n.tup F,by rw[aH w.2.1];exact G,w⟩ ih
  refine q _ ⟨r,A,c,k,B,ts,D,s b.e (λl z=>nomatch z),n.tup b.ec,aB,?_,by rw[aH (Va b.ne)];exact b.eu,u b.fu,(let ⟨d,e⟩:=b.et;⟨d,s e λl z=>nomatch z⟩),b.op,b.ow,b.ou,b.ot,b.ne,λx I=>?_⟩ n
  ·show cQ _ _ ts S.wt.tail
   rw[hwt]
   exact u rr
  ·by_cases h:x=c
   ·rw[h,aB];simp
   ·rw[aH h];exact b.al x I
variable (Zca:FB P w K mg base (CX0) 1 "is_wanted" ZfU Ziq ["choice","name"] (a4S K))
def ZlR (a:GFm K mg "is_wanted" ZiK ZfU Ziq):type_of% Zca:=by
 refine fbK ["choice","name"] a λH Q b d h=>?_
 obtain⟨c,m,t,n,rfl,e,q⟩:=h
 refine⟨_,(aF (aM (fM dU (aV zZ (dv 1) (cC iB (dv 0) aG (λ_ _=>rfl))) (cC iB (dv 0) aG (λ_ _=>rfl)) (aU _)))),?_⟩
 exact⟨_,_,Vc e,rfl,_,_,Vc e,rfl,q⟩
variable (Zcd:MB P w K mg base (CX0) 2 ZdG Zf2 ["self","frame"] (a5L CA))
include Za Zaz ZM Zca in
theorem Zjo (D:Fun K "hand_up" "Post.hand_up" Zgi ZdG Zf2):type_of% Zcd:=by
 refine mbK ["self","frame"] D λH Q O E h=>?_
 obtain⟨p,F,S,o,t,d,n,G,rfl,⟨i,j,k,g,w,y,l,b⟩,A,m,f,P,q⟩:=h
 refine⟨_,(aF (bH (cJ (aQ Zca.1 E.mo rfl Zca.2.2.2 Zca.2.2.1 Zca.2.1 .nil aK (aA (aO Za Zaz (dv 0)) (aA (cC iB (dv 1) aG (λ_ _=>rfl)) aC)))) (aF (bD (dC (aO Za ZM (dv 0)) (aA (dv 1) aC)))) aR)),?_⟩
 refine⟨i,_,.ref j,b.e,rfl,_,_,Vc A,rfl,j,_,_,_,rfl,b.ec,?_⟩
 conv=>whnf
 refine bL (λc=>?_) (λc=>?_)
 ·have r:mD S n=true:=c
  have I:=b.fu.len
  refine⟨i,_,.ref g,b.e,rfl,⟨_,Vb b.eu⟩,_,b.eu,cD (by lia),?_⟩
  obtain⟨B,J,L,M,C,N⟩:=wN (ys:=l++[.ref t]) b (.inr rfl)
  refine q _ ⟨i,j,k,g,w,y,l++[.ref t],J.trans b.e,L.trans b.ec,by rw[aH b.ne];exact b.ew,(C b.fw).imp (λx v e _=>e) (λx z=>⟨.inl z.1,z.2⟩),aB,?_,(let ⟨d,e⟩:=b.et;⟨d,M.trans e⟩),.inl b.op,.inl b.ow,.inl b.ou,.inl b.ot,b.ne,λx hx=>?_⟩ B
  ·show cQ _ _ _ (if mD S n=true then S.up++[(n,G)] else S.up)
   rw[if_pos r]
   have s:d≠k:=λz=>f (z▸b.ow)
   have a:d≠g:=λz=>f (z▸b.ou)
   exact((C b.fu).imp (λx v e _=>e) (λx z=>⟨.inl z.1,z.2⟩)).snoc ⟨d,B.tup A,by rw[aH a];exact m,.inr rfl,s,a⟩
  ·rcases hx with hx | hx
   ·exact N x hx
   ·have u:x=d:=hx
    have a:d≠g:=λz=>f (z▸b.ou)
    rw[u,aH a,m];simp
 ·have r:¬ mD S n=true:=c
  refine q _ ?_ cL.refl
  rw[if_neg r]
  exact Bd.grow ⟨i,j,k,g,w,y,l,b⟩ m
variable (Zdd:MB P w K mg base (CX0) 3 ZeR Zid ["self","name","data"] (b3S K CA Zdw))
include Zz ZaQ Za Zl ZB in
theorem ZlD (G:Fun K "hand" "Post.hand" Zix ZeR Zid):type_of% Zdd:=by
 refine mbK ["self","name","data"] G λH Q nd I h=>?_
 obtain⟨p,J,S,o,n,a,l,rfl,bd,w,L,hw,M,N⟩:=h
 refine⟨_,(aD (bD (aQ ZB.1 I.mo rfl ZB.2.2.2 ZB.2.2.1 ZB.2.1 .nil aK (aA (dv 1) (aA (dv 2) aC)))) (aF (bD (dC (aO Za Zl (dv 0)) (aA (bO (aA (dv 1) (aA (gJ iR rfl ZaQ kE (aA (dv 2) aC)) aC))) aC))))),?_⟩
 refine⟨n,a,l,rfl,w,L,λok i g=>?_,λO i g=>N O i g⟩
 obtain⟨y,P,q,A,R,B,T,b⟩:=bd.move (H':=i) λx v e _=>g x v e
 refine⟨y,_,.ref q,b.e,rfl,⟨_,Vb b.ew⟩,_,.inl (g.seq w),λd hd=>?_⟩
 have C:=aJ hd (.lst (l.map V.int))
 have r:=aB (H:=i) (a:=d) (o:= .lst (l.map V.int))
 generalize upd i d (.lst (l.map V.int))=H2 at C r
 refine⟨aL rfl,λt U=>?_⟩
 have m:=aJ U (.tup [.int n,.ref d])
 have D:=aB (H:=H2) (a:=t) (o:= .tup [.int n,.ref d])
 generalize upd H2 t (.tup [.int n,.ref d])=H3 at m D
 have j:=C.trans m
 have k:¬ o d:=λz=>b.al d z hd
 have c:=b.move (H':=H3) λx v e _=>j x v e
 have W:=b.fw.len
 refine⟨_,c.ew,cD (by lia),?_⟩
 obtain⟨E,X,Y,Z,F,k6⟩:=wN (ys:=B++[.ref t]) c (.inl rfl)
 have f:d≠q:=λz=>k (z▸b.ow)
 have s:d≠A:=λz=>k (z▸b.ou)
 have en:((n.toNat:Nat):Int)=n:=by
  have:=gY.mp ok.1
  lia
 refine M ok _ d (g.none hd) ⟨y,P,q,A,R,B++[.ref t],T,X.trans c.e,Y.trans c.ec,aB,?_,by rw[aH (Va b.ne)];exact c.eu,(F c.fu).imp (λx v e _=>e) (λx z=>⟨.inl z.1,z.2⟩),(let ⟨d,e⟩:=c.et;⟨d,Z.trans e⟩),.inl b.op,.inl b.ow,.inl b.ou,.inl b.ot,b.ne,λx hx=>?_⟩ (λx v e z=>E x v (j x v (g x v e)) z)
 ·refine((F c.fw).imp (λx v e _=>e) (λx z=>⟨.inl z.1,z.2⟩)).snoc ⟨d,?_,by rw[aH f];exact m _ _ r,.inr rfl,f,s⟩
  show _=some (HO.tup [.int ((n.toNat:Nat):Int),.ref d])
  rw[en]
  exact E.tup D
 ·rcases hx with hx | hx
  ·exact k6 x hx
  ·have u:x=d:=hx
   rw[u,aH f,m _ _ r];simp
variable (Za7:FB P w K mg base (CX0) 1 "copies" ZiT Zlx ["frames"] (a5O K))
include ZaQ in
theorem ZmX (B:GFm K mg "copies" ZlU ZiT Zlx):type_of% Za7:=by
 refine fbK ["frames"] B λH Q N O h=>?_
 obtain⟨a,D,fs,o,rfl,e,u,P,q⟩:=h
 refine⟨_,(aF (aM (gU rfl (ix:=[]) (cW (dv 0)) (λC E F G at0=>fX) (λC E F G at0=>(bO (aA (cC (jJ (K:=K)) (dv 0) aG (λ_ _=>rfl)) (aA (gJ (a1T (K:=K)) rfl ZaQ kE (aA (cC (jJ (K:=K)) (dv 0) aG (λ_ _=>rfl)) aC)) aC)))) rfl rfl (by rfl) (show ([".0","frame"]:List Str).Nodup by decide +kernel)))),?_⟩
 have I:=u.len
 refine⟨⟨_,Vb e⟩,dO (xs:=D) (λi c b=>Same H b/\dR H b c (fs.take i)) ?_ ⟨Vd _,.nil⟩ (λi c b _ z=>Vb (z.1 _ _ e)) ?_ ?_⟩
 ·rintro i c b v ⟨_,n⟩
  refine cD ?_
  rw[n.len,Yq]
  lia
 ·rintro i x c b J ⟨g,n⟩
  obtain⟨t,f,rfl,w,d,y,L,R⟩:=u.get J
  refine⟨_,_,Vc (g _ _ y),rfl,_,_,Vc (g _ _ y),rfl,_,.inl (Vb (g _ _ L)),λr k=>?_⟩
  have j:=aJ k (.lst (f.2.map V.int))
  have A:=aB (H:=b) (a:=r) (o:= .lst (f.2.map V.int))
  generalize upd b r (.lst (f.2.map V.int))=H2 at j A
  refine⟨aL rfl,λS m=>?_⟩
  have s:=aJ m (.tup [.int ((f.1:Nat):Int),.ref r])
  refine⟨g.trans (j.trans s),?_⟩
  have v:i<fs.length:=(Ye.mp w).1
  have M:fs[i]=f:=(Ye.mp w).2
  rw[Yg v,M]
  exact dR.snoc ((g.trans j).none m) (g.none k) aB (s _ _ A) (n.same (j.trans s))
 rintro c b ⟨g,n⟩ l p
 have j:=aJ p (.lst c)
 rw[I,Yi (Yc _)]at n
 exact q l c _ (g.none p) (g.trans j) aB (n.same j)
variable (ZcS:MB P w K mg base (CX0) 2 Zeq Zhv ["self"] (a9C CA))
include Za Zl Za7 in
theorem ZkT (c:Fun K "waits" "Post.waits" ZhN Zeq Zhv):type_of% ZcS:=by
 refine mbK ["self"] c λH Q k d h=>?_
 obtain⟨p,f,S,o,rfl,⟨g,l,a,m,n,i,r,b⟩,j,q⟩:=h
 refine⟨_,(aF (aM (aQ Za7.1 d.mo rfl Za7.2.2.2 Za7.2.2.1 Za7.2.1 .nil aK (aA (aO Za Zl (dv 0)) aC)))),?_⟩
 exact⟨g,_,.ref a,b.e,rfl,a,i,S.wt,_,rfl,b.ew,b.fw,j,q⟩
variable (ZdC:MB P w K mg base (CX0) 2 Zff Zjd ["self"] (b7A CA))
include Za ZM Za7 in
theorem Zmo (c:Fun K "got" "Post.got" ZjA Zff Zjd):type_of% ZdC:=by
 refine mbK ["self"] c λH Q k d h=>?_
 obtain⟨p,f,S,o,rfl,⟨g,l,m,a,n,r,i,b⟩,j,q⟩:=h
 refine⟨_,(aF (aM (aQ Za7.1 d.mo rfl Za7.2.2.2 Za7.2.2.1 Za7.2.1 .nil aK (aA (aO Za ZM (dv 0)) aC)))),?_⟩
 exact⟨g,_,.ref a,b.e,rfl,a,i,S.up,_,rfl,b.eu,b.fu,j,q⟩
variable (ZG:FB P w K mg base (CX0) 3 "unless_off" Zfm ZhH ["post","word","stance"] (a4T CA))
include Zlb Za Zam ZeD ZaE in
theorem Zk5 (m:GFm K mg "unless_off" ZhZ Zfm ZhH):type_of% ZG:=by
 refine fbK ["post","word","stance"] m λH Q B n h=>?_
 obtain⟨p,d,S,o,w,nx,rfl,bd,r,s⟩:=h
 refine⟨_,(aF (aM (bZ (dF (cJ (bT Za Zam ZaE.1 n.mo ZaE.2 .nil aK (dv 0))) (bO (aA bA (aA (a6L ZeD rfl Zlb) aC))) (bO (aA (dv 1) (aA (dv 2) aC))))))),?_⟩
 refine⟨λx j=>Q x j,?_,λx j z=>z⟩
 obtain⟨v,C,D,E,F,G,I,b⟩:=id bd
 refine⟨⟨v,_,b.e,rfl⟩,p,d,S,o,rfl,bd,?_⟩
 conv=>whnf
 refine bL (λc=>?_) (λc=>?_)
 ·have f:18<=S.tot:=dec_true c
  refine λx a k g y=>⟨aL rfl,λt i=>?_⟩
  have A:Same H (upd (upd H a (.own x)) x (.ins CA.off a [])):=λb u q=>by rw[aH (aP q k),aH (aP q g)];exact q
  have l:=aJ i (.tup [.str "off",.ref x])
  exact s f t x a _ (A.trans l) k (l _ _ aB) aB
 ·have f:¬ 18<=S.tot:=dec_false c
  refine⟨aL rfl,λt i=>?_⟩
  exact r f t _ (aJ i _) aB
variable (Zq:FB P w K mg base (CX0) 4 "fault_of" Zgz Zjj ["post","spoke"] (a9J CA))
include Zc9 Ze0 Zd Za ZaZ Zal Zm ZaC Zao ZG in
theorem Zmu (J:GFm K mg "fault_of" ZjG Zgz Zjj):type_of% Zq:=by
 refine fbK ["post","spoke"] J λH Q V l h=>?_
 obtain⟨p,m,S,o,r,rfl,bd,q⟩:=h
 refine⟨_,(aD (bD (bN Zd Zal ZaC.1 l.mo ZaC.2 .nil aK (aO Za Zm (dv 0)) (aA (dv 1) aC))) (aF (aM (aQ ZG.1 l.mo rfl ZG.2.2.2 ZG.2.2.1 ZG.2.1 .nil aK (aA (dv 0) (aA bA (aA (cF ZaZ Zao.1 l.mo rfl Zc9 Zao.2 .nil aK (aA (bC (v:= .int 6) rfl Ze0 ⟨_,rfl⟩) (aA (b4Z (dv 1)) aC))) aC))))))),?_⟩
 obtain⟨L,W,X,Y,D,Z,us,b⟩:=id bd
 obtain⟨M,N⟩:=id b.et
 refine⟨L,_,.ref D,b.e,rfl,⟨M,_,N,rfl⟩,D,S.tot,r,rfl,b.et,λO d P=>?_⟩
 obtain⟨k,f⟩:=Bd.count b d P
 generalize ht:mvd S.tot (if r=true then 8 else 1)=n at k d
 refine λx g E s R=>⟨x,g,_,_,rfl,aB,λF u=>⟨rfl,?_⟩⟩
 have a:Same O F:=by rw[u];exact bG E s
 have G:F x=some (.ins CA.flag g [("left",.int ((6:Nat):Int)),("may_blame",.bl (!r))]):=by rw[u];exact aB
 clear u
 refine⟨p,m,{ S with tot:=n },o,"fault",x,rfl,k.move λy v e _=>a y v e,λc t w i A=>?_,λc t B T w i U I A=>?_⟩
 ·have d:¬ 18<=n:=c
  refine q t w ⟨x,λy=>y=x,?_,?_,?_,?_,?_⟩
  ·unfold bQ cH;rw[ht,if_neg d];exact A
  ·unfold bQ cH;rw[ht,if_neg d];exact(k.move λy v e _=>i y v (a y v e)).now rfl rfl rfl rfl rfl rfl
  ·unfold bQ cH;rw[ht,if_neg d];exact gP (i _ _ G) ⟨g,i _ _ G⟩
  ·intro y C
   have j:y=x:=C
   rw[j]
   exact oK k f E
  ·exact λy v e z=>i y v (a y v (f y v e z))
 ·have d:18<=n:=c
  refine q t w ⟨B,λy=>y=B,?_,?_,?_,?_,?_⟩
  ·unfold bQ cH;rw[ht,if_pos d];exact A
  ·unfold bQ cH;rw[ht,if_pos d];exact(k.move λy v e _=>i y v (a y v e)).now rfl rfl rfl rfl rfl rfl
  ·unfold bQ cH;rw[ht,if_pos d];exact gP I ⟨T,I⟩
  ·intro y C
   have j:y=B:=C
   rw[j]
   exact oK k f (a.none U)
  ·exact λy v e z=>i y v (a y v (f y v e z))
variable (ZbA:FB P w K mg base (CX0) 4 "refusal_of" Zfl ZhG ["post","spoke"] (a2D CA))
include Zcb Zd Za Zas Zal Zm ZaC ZZ ZG in
theorem Zk4 (J:GFm K mg "refusal_of" ZhY Zfl ZhG):type_of% ZbA:=by
 refine fbK ["post","spoke"] J λH Q V l h=>?_
 obtain⟨p,m,S,o,C,rfl,bd,q⟩:=h
 refine⟨_,(aD (bD (bN Zd Zal ZaC.1 l.mo ZaC.2 .nil aK (aO Za Zm (dv 0)) (aA (dv 1) aC))) (aF (aM (aQ ZG.1 l.mo rfl ZG.2.2.2 ZG.2.2.1 ZG.2.1 .nil aK (aA (dv 0) (aA bA (aA (cF Zas ZZ.1 l.mo rfl Zcb ZZ.2 .nil aK (aA iW aC)) aC))))))),?_⟩
 obtain⟨L,W,X,Y,D,Z,us,b⟩:=id bd
 obtain⟨M,N⟩:=id b.et
 refine⟨L,_,.ref D,b.e,rfl,⟨M,_,N,rfl⟩,D,S.tot,C,rfl,b.et,λO d P=>?_⟩
 obtain⟨k,f⟩:=Bd.count b d P
 generalize ht:mvd S.tot (if C=true then 8 else 1)=n at k d
 refine λx g E r R=>⟨x,g,_,rfl,aB,λF s=>⟨rfl,?_⟩⟩
 have a:Same O F:=by rw[s];exact bG E r
 have G:F x=some (.ins CA.settles g [("may_blame",.bl false)]):=by rw[s];exact aB
 clear s
 refine⟨p,m,{ S with tot:=n },o,"refuses",x,rfl,k.move λy v e _=>a y v e,λc t u i w=>?_,λc t A T u i U I w=>?_⟩
 ·have d:¬ 18<=n:=c
  refine q t u ⟨x,λy=>y=x,?_,?_,?_,?_,?_⟩
  ·unfold cR cH;rw[ht,if_neg d];exact w
  ·unfold cR cH;rw[ht,if_neg d];exact(k.move λy v e _=>i y v (a y v e)).now rfl rfl rfl rfl rfl rfl
  ·unfold cR cH;rw[ht,if_neg d];exact gP (i _ _ G) ⟨g,i _ _ G⟩
  ·intro y B
   have j:y=x:=B
   rw[j]
   exact oK k f E
  ·exact λy v e z=>i y v (a y v (f y v e z))
 ·have d:18<=n:=c
  refine q t u ⟨A,λy=>y=A,?_,?_,?_,?_,?_⟩
  ·unfold cR cH;rw[ht,if_pos d];exact w
  ·unfold cR cH;rw[ht,if_pos d];exact(k.move λy v e _=>i y v (a y v e)).now rfl rfl rfl rfl rfl rfl
  ·unfold cR cH;rw[ht,if_pos d];exact gP I ⟨T,I⟩
  ·intro y B
   have j:y=A:=B
   rw[j]
   exact oK k f (a.none U)
  ·exact λy v e z=>i y v (a y v (f y v e z))
variable (ZcF:FB P w K mg base (CX0) 4 "blame_of" Zgx Zjh ["post"] (a9M CA))
include Zcb Zd Za Zas ZbM Zm Zcr ZZ ZG in
theorem Zms (I:GFm K mg "blame_of" ZjE Zgx Zjh):type_of% ZcF:=by
 refine fbK ["post"] I λH Q U l h=>?_
 obtain⟨p,m,S,o,rfl,bd,q⟩:=h
 refine⟨_,(aD (bD (bT Zd ZbM Zcr.1 l.mo Zcr.2 .nil aK (aO Za Zm (dv 0)))) (aF (aM (aQ ZG.1 l.mo rfl ZG.2.2.2 ZG.2.2.1 ZG.2.1 .nil aK (aA (dv 0) (aA bA (aA (cF Zas ZZ.1 l.mo rfl Zcb ZZ.2 .nil aK (aA iW aC)) aC))))))),?_⟩
 obtain⟨J,V,W,X,C,Y,Z,b⟩:=id bd
 obtain⟨L,M⟩:=id b.et
 refine⟨J,_,.ref C,b.e,rfl,⟨L,_,M,rfl⟩,C,S.tot,rfl,b.et,λN d O=>?_⟩
 obtain⟨k,f⟩:=Bd.count b d O
 generalize ht:mvd S.tot 8=n at k d
 refine λx g D r P=>⟨x,g,_,rfl,aB,λE s=>⟨rfl,?_⟩⟩
 have a:Same N E:=by rw[s];exact bG D r
 have F:E x=some (.ins CA.settles g [("may_blame",.bl false)]):=by rw[s];exact aB
 clear s
 refine⟨p,m,{ S with tot:=n },o,"",x,rfl,k.move λy v e _=>a y v e,λc t u i w=>?_,λc t A R u i T G w=>?_⟩
 ·have d:¬ 18<=n:=c
  refine q t u ⟨x,λy=>y=x,?_,?_,?_,?_,?_⟩
  ·unfold eE cH;rw[ht,if_neg d];exact w
  ·unfold eE cH;rw[ht,if_neg d];exact(k.move λy v e _=>i y v (a y v e)).now rfl rfl rfl rfl rfl rfl
  ·unfold eE cH;rw[ht,if_neg d];exact gP (i _ _ F) ⟨g,i _ _ F⟩
  ·intro y B
   have j:y=x:=B
   rw[j]
   exact oK k f D
  ·exact λy v e z=>i y v (a y v (f y v e z))
 ·have d:18<=n:=c
  refine q t u ⟨A,λy=>y=A,?_,?_,?_,?_,?_⟩
  ·unfold eE cH;rw[ht,if_pos d];exact w
  ·unfold eE cH;rw[ht,if_pos d];exact(k.move λy v e _=>i y v (a y v e)).now rfl rfl rfl rfl rfl rfl
  ·unfold eE cH;rw[ht,if_pos d];exact gP G ⟨R,G⟩
  ·intro y B
   have j:y=A:=B
   rw[j]
   exact oK k f (a.none T)
  ·exact λy v e z=>i y v (a y v (f y v e z))
variable (Zbd:FB P w K mg base (CX0) 1 "check_votes" Ze9 ZgW ["votes"] (a9D ZbW))
include ZcC ZP ZdP in
theorem Zkf (F0:GFm K mg "check_votes" Zhi Ze9 ZgW):type_of% Zbd:=by
 refine fbK ["votes"] F0 λH Q f g h=>?_
 obtain⟨v,rfl,b,d⟩:=h
 refine⟨_,(aF (bH (aW a3T (dv 0) (bC (v:= .ref ZjU) rfl ZcC rfl) rfl) (aF fB) aR)),?_⟩
 refine⟨[1,3,5],.inr (ZdP.sq H),?_⟩
 conv=>whnf
 refine bL (λc=>?_) (λc=>?_)
 ·refine(d λz=>?_)
  have a:(!decide (v∈ [(1:Int),3,5]))=true:=c
  rw[(sI v).mpr z]at a
  cases a
 ·refine b ((sI v).mp ?_)
  cases e:decide (v∈ [(1:Int),3,5]) with
  |true=>rfl
  |false=>exact absurd (show (!decide (v∈ [(1:Int),3,5]))=true by rw[e];rfl) c
variable (Za1:FB P w K mg base (CX0) 2 "check_choice" ZeM Zgb ["choice"] (a5P K ZbW))
include ZP Zaq in
theorem Zjx (F0:GFm K mg "check_choice" Zgr ZeM Zgb):type_of% Za1:=by
 refine fbK ["choice"] F0 λH Q m g h=>?_
 obtain⟨a,b,rfl,i,j,k,l⟩:=h
 refine⟨_,(aF (bH (gH (cJ (aQ Zaq.1 g.mo rfl Zaq.2.2.2 Zaq.2.2.1 Zaq.2.1 .nil aK (aA (dv 0) aC)))) (aF fB) aR)),?_⟩
 refine⟨a,b,rfl,.inr i,j,λn f=>?_⟩
 conv=>whnf
 refine bL (λc=>?_) (λc=>?_)
 ·have d:¬ b.all byt=true:=λz=>by
   have:(!b.all byt)=true:=c
   rw[z]at this;cases this
  exact(l d _ f)
 ·have d:b.all byt=true:=by
   cases e:b.all byt with
   |true=>rfl
   |false=>exact absurd (show (!b.all byt)=true by rw[e];rfl) c
  exact k d _ f
variable (Zdf:MB P w K mg base (CX0) 4 ZeT Zif ["self","choice","votes"] (yC K CA ZbW))
include ZcC ZP Zh0 ZdV Za Zee ZaT Zm Zl Zaz ZM Z4 ZO ZcQ Zap Zbd Za1 in
theorem ZlF (F0:Fun K "__init__" "Post.__init__" Ziz ZeT Zif):type_of% Zdf:=by
 refine mbK ["self","choice","votes"] F0 λH Q nd O h=>?_
 obtain⟨a,c,d,P,R,v,rfl,e,S,q1,q2⟩:=h
 refine⟨_,(aD (bD (aQ Za1.1 O.mo rfl Za1.2.2.2 Za1.2.2.1 Za1.2.1 .nil aK (aA (dv 1) aC))) (aD (bD (aQ Zbd.1 O.mo rfl Zbd.2.2.2 Zbd.2.2.1 Zbd.2.1 .nil aK (aA (dv 2) aC))) (aD (bR Za Zaz (dv 0) (dv 1)) (aD (bR Za Z4 (dv 0) (dv 2)) (aD (bR Za Zl (dv 0) (cY aC)) (aD (bR Za ZM (dv 0) (cY aC)) (aD (bR Za Zm (dv 0) (mW Zee ZcQ.1 O.mo rfl Zh0 ZcQ.2 .nil aK)) (aF (bR Za ZO (dv 0) (cF ZaT Zap.1 O.mo rfl ZdV Zap.2 .nil aK (aA aG aC))))))))))),?_⟩
 refine⟨d, [P,R],rfl,Vc S,(show 2<=500 by decide),λt w y=>?_,λT w y=>?_⟩
 rotate_left
 ·refine q2 (λok=>T ?_) w λx u _ h=>y x u h
  rw[XJ,XJ,List.all_nil,ok.1,ok.2.1];rfl
 rw[XJ,XJ,List.all_nil,Bool.and_true,Xv]at t
 refine⟨v,rfl,λhv=>?_,λT=>q2 (λok=>T ok.2.2) w λx u _ h=>y x u h⟩
 have ea:=y _ _ e
 refine⟨c, [],ea,by decide,?_⟩
 refine⟨c,_,aB,(show 1<1000 by decide),?_⟩
 rw[jR]
 have A:Mid H a (.ins CA.post c [("choice",.ref d),("votes",.int v)]) [] (upd w a (.ins CA.post c (fJ "votes" (.int v) (fJ "choice" (.ref d) [])))):=⟨aB,λx u B h=>by rw[aH B];exact y x u h,(λ_ z=>nomatch z),List.nodup_nil⟩
 generalize upd w a _=Ha at A
 refine⟨aL rfl,λi D=>?_⟩
 have q:=A.add D (aJ D (.lst [])) aB
 generalize upd Ha i (.lst [])=Hb at q
 refine⟨c,_,q.ea,(show 2<1000 by decide),?_⟩
 have E:Mid H a (.ins CA.post c [("choice",.ref d),("votes",.int v),("waiting",.ref i)]) _ (upd Hb a (.ins CA.post c (fJ "waiting" (.ref i) [("choice",.ref d),("votes",.int v)]))):=q.set _
 generalize upd Hb a _=Hb2 at E
 refine⟨aL rfl,λj F=>?_⟩
 have r:=E.add F (aJ F (.lst [])) aB
 generalize upd Hb2 j (.lst [])=Hc at r
 refine⟨c,_,r.ea,(show 3<1000 by decide),?_⟩
 have G:Mid H a (.ins CA.post c [("choice",.ref d),("votes",.int v),("waiting",.ref i),("handed_up",.ref j)]) _ (upd Hc a (.ins CA.post c (fJ "handed_up" (.ref j) [("choice",.ref d),("votes",.int v),("waiting",.ref i)]))):=r.set _
 generalize upd Hc a _=Hc2 at G
 refine λk I J U a2=>⟨k,I,rfl,aB,rfl,?_⟩
 have s:=G.add J (bG (C:=CA.count) (fs:=ctF 0) J U) aB
 generalize upd (upd (upd Hc2 I (.own k)) k (.ins CA.count I [])) k (.ins CA.count I (ctF 0))=Hd at s
 refine⟨c,_,s.ea,(show 4<1000 by decide),?_⟩
 have L:Mid H a (.ins CA.post c [("choice",.ref d),("votes",.int v),("waiting",.ref i),("handed_up",.ref j),("tally",.ref k)]) _ (upd Hd a (.ins CA.post c (fJ "tally" (.ref k) [("choice",.ref d),("votes",.int v),("waiting",.ref i),("handed_up",.ref j)]))):=s.set _
 generalize upd Hd a _=Hd2 at L
 refine λo dn M V a1=>⟨o,dn,_,rfl,aB,λH2 W=>⟨rfl,?_⟩⟩
 have N:=L.add (Hy:=H2) M (by rw[W];exact bG M V) (by rw[W];exact aB)
 clear W
 refine⟨c,_,N.ea,(show 5<1000 by decide),?_⟩
 have b:=N.set (.ins CA.post c (pF d v.toNat i j k o))
 have ev:v=((v.toNat:Nat):Int):=by lia
 have eF:(HO.ins CA.post c (fJ "now" (.ref o) [("choice",.ref d),("votes",.int v),("waiting",.ref i),("handed_up",.ref j),("tally",.ref k)]))= .ins CA.post c (pF d v.toNat i j k o):=by
  show HO.ins CA.post c [("choice",.ref d),("votes",.int v),("waiting",.ref i),("handed_up",.ref j),("tally",.ref k),("now",.ref o)]=_
  rw[ev,YJ]
 rw[eF]
 generalize upd H2 a _=Hz at b
 have f:=b.nw (o,_) (.head _)
 have l:=b.nw (k,_) (.tail _ (.head _))
 have m:=b.nw (j,_) (.tail _ (.tail _ (.head _)))
 have n:=b.nw (i,_) (.tail _ (.tail _ (.tail _ (.head _))))
 have g:=b.nd
 have X:i≠j:=λz=>by
  rw[z]at g
  exact absurd g (by simp)
 have Y:d≠a:=λz=>by rw[z,e]at S;cases S
 have a3:=gY.mp t.1
 have a4:=gY.mp t.2
 have Z:((P.toNat:Nat):Int)=P:=by lia
 have a0:((R.toNat:Nat):Int)=R:=by lia
 refine q1 ⟨t.1,t.2,hv⟩ Hz (λx=>(x=a\/x=i\/x=j\/x=k)\/x=o) ⟨o,λx=>x=a\/x=i\/x=j\/x=k,λx=>x=o,⟨c,d,i,j,k, [], [],b.ea,?_,n.2.2,.nil,m.2.2,.nil,⟨I,l.2.2⟩,.inl rfl,.inr (.inl rfl),.inr (.inr (.inl rfl)),.inr (.inr (.inr rfl)),X,?_⟩,gP f.2.2 ⟨dn,f.2.2⟩,?_,⟨?_,(λ_ z=>nomatch z),trivial⟩,λx B=>B,?_⟩ ?_ ?_
 ·show Hz d=some (.tup [.int ((P.toNat:Nat):Int),.int ((R.toNat:Nat):Int)])
  rw[Z,a0]
  exact b.kp d _ Y S
 ·rintro x (rfl | rfl | rfl | rfl)
  ·rw[b.ea];simp
  ·rw[n.2.2];simp
  ·rw[m.2.2];simp
  ·rw[l.2.2];simp
 ·rintro x B hy
  have p:x=o:=hy
  rcases B with rfl | rfl | rfl | rfl
  ·exact f.2.1 p.symm
  ·rw[p]at g;exact absurd g (by simp)
  ·rw[p]at g;exact absurd g (by simp)
  ·rw[p]at g;exact absurd g (by simp)
 ·show v.toNat<=5
  lia
 ·rintro x ((rfl | rfl | rfl | rfl) | rfl)
  ·rw[b.ea];simp
  ·rw[n.2.2];simp
  ·rw[m.2.2];simp
  ·rw[l.2.2];simp
  ·rw[f.2.2];simp
 ·rintro x ((rfl | rfl | rfl | rfl) | rfl)
  ·exact .inl rfl
  ·exact .inr n.1
  ·exact .inr m.1
  ·exact .inr l.1
  ·exact .inr f.1
 ·exact b.kp
variable (ZcR:MB P w K mg base (CX0) 1 Zep Zhu ["self"] (dD CA 0))
include Zw ZI in
theorem ZkS (F0:Fun K "shown" "Free.shown" ZhM Zep Zhu):type_of% ZcR:=by
 refine mbK ["self"] F0 λH Q i j h=>?_
 obtain⟨p,S,o,rfl,a,f,q⟩:=h
 refine⟨_,(aF (aM (bO (aA bA (aA (aO Zw ZI (dv 0)) aC))))),?_⟩
 obtain⟨b,r,al⟩:=id f
 cases en:S.now with
 | free k=>
  rw[en]at b
  obtain⟨g,e⟩:=b
  refine⟨g,_,_,e,rfl,aL rfl,λt d=>q t _ d (aJ d _) ?_⟩
  rw[aB,en]
  rfl
 |speaks n ds k=>rw[en]at a;cases a
 |reads h=>rw[en]at a;cases a
 |tlS v c=>rw[en]at a;cases a
 |tlR n ds v c=>rw[en]at a;cases a
 |flag l m=>rw[en]at a;cases a
 |settles m=>rw[en]at a;cases a
 |rests l=>rw[en]at a;cases a
 |off  =>rw[en]at a;cases a
variable (Zci:MB P w K mg base (CX0) 1 ZdN Zf9 ["self"] (dD CA 1))
include Zh Zv in
theorem Zjv (F0:Fun K "shown" "Speaks.shown" Zgp ZdN Zf9):type_of% Zci:=by
 refine mbK ["self"] F0 λH Q i j h=>?_
 obtain⟨p,S,o,rfl,a,b,q⟩:=h
 refine⟨_,(aF (aM (bO (aA bA (aA (aO Zh Zv (dv 0)) aC))))),?_⟩
 obtain⟨d,s,al⟩:=id b
 cases en:S.now with
 |free k=>rw[en]at a;cases a
 | speaks n ds k=>
  rw[en]at d
  obtain⟨g,u,r,b,w,x,e,_⟩:=d
  refine⟨g,_,_,e,rfl,aL rfl,λt f=>q t _ f (aJ f _) ?_⟩
  rw[aB,en]
  rfl
 |reads h=>rw[en]at a;cases a
 |tlS v c=>rw[en]at a;cases a
 |tlR n ds v c=>rw[en]at a;cases a
 |flag l m=>rw[en]at a;cases a
 |settles m=>rw[en]at a;cases a
 |rests l=>rw[en]at a;cases a
 |off  =>rw[en]at a;cases a
variable (Zcy:MB P w K mg base (CX0) 1 Zd8 ZgO ["self"] (dD CA 2))
include Zu Z5 in
theorem Zj7 (F0:Fun K "shown" "Reads.shown" Zha Zd8 ZgO):type_of% Zcy:=by
 refine mbK ["self"] F0 λH Q i j h=>?_
 obtain⟨p,S,o,rfl,a,b,q⟩:=h
 refine⟨_,(aF (aM (bO (aA bA (aA (aO Zu Z5 (dv 0)) aC))))),?_⟩
 obtain⟨d,s,al⟩:=id b
 cases en:S.now with
 |free k=>rw[en]at a;cases a
 |speaks n ds k=>rw[en]at a;cases a
 | reads h=>
  rw[en]at d
  obtain⟨g,r,b,u,w,e,_⟩:=d
  refine⟨g,_,_,e,rfl,aL rfl,λt f=>q t _ f (aJ f _) ?_⟩
  rw[aB,en]
  rfl
 |tlS v c=>rw[en]at a;cases a
 |tlR n ds v c=>rw[en]at a;cases a
 |flag l m=>rw[en]at a;cases a
 |settles m=>rw[en]at a;cases a
 |rests l=>rw[en]at a;cases a
 |off  =>rw[en]at a;cases a
variable (Zcc:MB P w K mg base (CX0) 2 ZdF Zf1 ["self"] (dD CA 3))
include Zf Zc Zk ZaU ZaP Zs ZcX in
theorem Zjn (F0:Fun K "shown" "InTail.shown" Zgh ZdF Zf1):type_of% Zcc:=by
 refine mbK ["self"] F0 λH Q z w h=>?_
 obtain⟨A,S,o,rfl,a,y,q⟩:=h
 refine⟨_,(aF (aM (bO (aA (bZ (dF (cJ (eG (aO Zk Zs (dv 0)))) bA bA)) (aA (sJ ZcX.1 w.mo ZcX.2 .nil aK (aO Zk Zs (dv 0))) aC))))),?_⟩
 obtain⟨s,B,al⟩:=id y
 cases en:S.now with
 |free k=>rw[en]at a;cases a
 |speaks n ds k=>rw[en]at a;cases a
 |reads h=>rw[en]at a;cases a
 | tlS v c=>
  rw[en]at s
  obtain⟨g,b,e,i,_⟩:=s
  obtain⟨C,d,j,p⟩:=id i
  have f:=jF Zf Zc j
  have u:=oU ZaU ZaP j
  refine⟨λx r=>x= .str "tail speaks"/\r=H,?_,?_⟩
  ·exact⟨g,_,.ref b,e,rfl,C,d,_,_,p,f.cls,f.n2,rfl,rfl,rfl⟩
  rintro x r ⟨rfl,rfl⟩
  refine⟨g,_,.ref b,e,rfl,⟨C,d,_,p,f.cls,u,rfl⟩,b,S.vt,true,v,c,rfl,i,aL rfl,λt h=>q t _ h (aJ h _) ?_⟩
  rw[aB,en]
  rfl
 | tlR n ds v c=>
  rw[en]at s
  obtain⟨g,b,D,E,e,i,_⟩:=s
  obtain⟨C,d,j,p⟩:=id i
  have f:=jF Zf Zc j
  have u:=oU ZaU ZaP j
  refine⟨λx r=>x= .str "tail reads"/\r=H,?_,?_⟩
  ·exact⟨g,_,.ref b,e,rfl,C,d,_,_,p,f.cls,f.n2,rfl,rfl,rfl⟩
  rintro x r ⟨rfl,rfl⟩
  refine⟨g,_,.ref b,e,rfl,⟨C,d,_,p,f.cls,u,rfl⟩,b,S.vt,false,v,c,rfl,i,aL rfl,λt h=>q t _ h (aJ h _) ?_⟩
  rw[aB,en]
  rfl
 |flag l m=>rw[en]at a;cases a
 |settles m=>rw[en]at a;cases a
 |rests l=>rw[en]at a;cases a
 |off  =>rw[en]at a;cases a
variable (Zbk:MB P w K mg base (CX0) 1 Zc3 Zfo ["self"] (dD CA 4))
include Zn ZH in
theorem Zh3 (F0:Fun K "shown" "Flagging.shown" Zfv Zc3 Zfo):type_of% Zbk:=by
 refine mbK ["self"] F0 λH Q i j h=>?_
 obtain⟨p,S,o,rfl,a,f,q⟩:=h
 refine⟨_,(aF (aM (bO (aA bA (aA (aO Zn ZH (dv 0)) aC))))),?_⟩
 obtain⟨b,r,al⟩:=id f
 cases en:S.now with
 |free k=>rw[en]at a;cases a
 |speaks n ds k=>rw[en]at a;cases a
 |reads h=>rw[en]at a;cases a
 |tlS v c=>rw[en]at a;cases a
 |tlR n ds v c=>rw[en]at a;cases a
 | flag l m=>
  rw[en]at b
  obtain⟨g,e⟩:=b
  refine⟨g,_,_,e,rfl,aL rfl,λt d=>q t _ d (aJ d _) ?_⟩
  rw[aB,en]
  rfl
 |settles m=>rw[en]at a;cases a
 |rests l=>rw[en]at a;cases a
 |off  =>rw[en]at a;cases a
variable (ZbK:MB P w K mg base (CX0) 1 Zdu ZfG ["self"] (dD CA 5))
def Zi1 (F0:Fun K "shown" "Settles.shown" ZfO Zdu ZfG):type_of% ZbK:=by
 refine mbK ["self"] F0 λH Q f g h=>?_
 obtain⟨i,S,o,rfl,a,d,q⟩:=h
 refine⟨_,(aF (aM (bO (aA bA (aA aG aC))))),?_⟩
 obtain⟨e,j,al⟩:=id d
 cases en:S.now with
 |free k=>rw[en]at a;cases a
 |speaks n ds k=>rw[en]at a;cases a
 |reads h=>rw[en]at a;cases a
 |tlS v c=>rw[en]at a;cases a
 |tlR n ds v c=>rw[en]at a;cases a
 |flag l m=>rw[en]at a;cases a
 | settles m=>
  rw[en]at e
  refine⟨aL rfl,λt b=>q t _ b (aJ b _) ?_⟩
  rw[aB,en]
  rfl
 |rests l=>rw[en]at a;cases a
 |off  =>rw[en]at a;cases a
variable (Zcz:MB P w K mg base (CX0) 1 Zd9 ZgP ["self"] (dD CA 6))
include Zy ZY in
theorem Zj8 (F0:Fun K "shown" "Rests.shown" Zhb Zd9 ZgP):type_of% Zcz:=by
 refine mbK ["self"] F0 λH Q i j h=>?_
 obtain⟨p,S,o,rfl,a,f,q⟩:=h
 refine⟨_,(aF (aM (bO (aA bA (aA (aO Zy ZY (dv 0)) aC))))),?_⟩
 obtain⟨b,r,al⟩:=id f
 cases en:S.now with
 |free k=>rw[en]at a;cases a
 |speaks n ds k=>rw[en]at a;cases a
 |reads h=>rw[en]at a;cases a
 |tlS v c=>rw[en]at a;cases a
 |tlR n ds v c=>rw[en]at a;cases a
 |flag l m=>rw[en]at a;cases a
 |settles m=>rw[en]at a;cases a
 | rests l=>
  rw[en]at b
  obtain⟨g,e⟩:=b
  refine⟨g,_,_,e,rfl,aL rfl,λt d=>q t _ d (aJ d _) ?_⟩
  rw[aB,en]
  rfl
 |off  =>rw[en]at a;cases a
variable (Zdc:MB P w K mg base (CX0) 1 ZeQ Zic ["self"] (dD CA 7))
def ZlC (F0:Fun K "shown" "Off.shown" Ziw ZeQ Zic):type_of% Zdc:=by
 refine mbK ["self"] F0 λH Q f g h=>?_
 obtain⟨i,S,o,rfl,a,d,q⟩:=h
 refine⟨_,(aF (aM (bO (aA bA (aA aG aC))))),?_⟩
 obtain⟨e,j,al⟩:=id d
 cases en:S.now with
 |free k=>rw[en]at a;cases a
 |speaks n ds k=>rw[en]at a;cases a
 |reads h=>rw[en]at a;cases a
 |tlS v c=>rw[en]at a;cases a
 |tlR n ds v c=>rw[en]at a;cases a
 |flag l m=>rw[en]at a;cases a
 |settles m=>rw[en]at a;cases a
 |rests l=>rw[en]at a;cases a
 | off  =>
  rw[en]at e
  refine⟨aL rfl,λt b=>q t _ b (aJ b _) ?_⟩
  rw[aB,en]
  rfl
variable (Za5:MB P w K mg base (CX0) 3 ZeO Zia ["self","post"] (cP CA 0))
include Zef Zw Za Zba Zbg ZI ZbH Zbl in
theorem ZlA (F0:Fun K "says" "Free.says" Ziu ZeO Zia):type_of% Za5:=by
 refine mbK ["self","post"] F0 λH Q E o h=>?_
 obtain⟨F,p,g,S,s,G,rfl,a,bd,C,wf,q⟩:=h
 refine⟨_,(aD (bH (gH (cJ (bT Za Zba Zbl.1 o.mo Zbl.2 .nil aK (dv 1)))) (aF (aM aG)) aR) (aF (aM (bZ (dF (PW.pt (jV (cJ (bT Za Zbg ZbH.1 o.mo ZbH.2 .nil aK (dv 1))) (jH (aW a3U (aO Zw ZI (dv 0)) (bC (v:= .int 8) rfl Zef ⟨_,rfl⟩) (aU _))))) aG aG))))),?_⟩
 obtain⟨t,I,al⟩:=id C
 cases en:S.now with
 | free k =>
  rw[en]at t
  obtain⟨D,e⟩:=t
  obtain⟨u,J,L,M,N,O,P,b⟩:=id bd
  have d:=vP en
  refine⟨⟨u,_,b.e,rfl⟩,p,g,S,s,rfl,bd,?_⟩
  conv=>whnf
  refine bL (λc=>?_) (λc=>?_)
  ·have i:S.wt= []:=by
    have:(!decide (0<(S.wt.length:Int)))=true:=c
    cases ew:S.wt with
    |nil=>rfl
    | cons f r=>
     rw[ew,Yj (by rw[YM];lia)]at this
     cases this
   rw[if_pos i]at d
   rw[d]at q
   exact q
  have i:¬ S.wt= []:=λz=>c (by
   show (!decide (0<(S.wt.length:Int)))=true
   rw[z];rfl)
  rw[if_neg i]at d
  refine⟨λx A=>x= .int (bB S)/\A=H,?_,λx A z=>by rw[z.1,z.2];exact q⟩
  refine⟨⟨u,_,b.e,rfl⟩,p,g,S,s,rfl,bd,?_⟩
  conv=>whnf
  refine bL (λy=>?_) (λy=>?_)
  ·have j:12<=S.tot:=dec_true y
   refine⟨D,_,_,e,rfl,?_⟩
   conv=>whnf
   refine bL (λz=>?_) (λz=>?_)
   ·have B:((k:Nat):Int)<8:=dec_true z
    rw[d,if_pos ⟨j,by lia⟩]
    exact⟨rfl,rfl⟩
   ·have B:¬ ((k:Nat):Int)<8:=dec_false z
    rw[d,if_neg λw=>B (by lia)]
    exact⟨rfl,rfl⟩
  ·have j:¬ 12<=S.tot:=dec_false y
   refine yU ⟨?_,rfl⟩
   rw[d,if_neg λw=>j w.1]
 |speaks n ds k=>rw[en]at a;cases a
 |reads h=>rw[en]at a;cases a
 |tlS v c=>rw[en]at a;cases a
 |tlR n ds v c=>rw[en]at a;cases a
 |flag l m=>rw[en]at a;cases a
 |settles m=>rw[en]at a;cases a
 |rests l=>rw[en]at a;cases a
 |off  =>rw[en]at a;cases a
variable (ZcA:MB P w K mg base (CX0) 1 Zeb ZgR ["self","post"] (cP CA 1))
include Zh ZL Zv in
theorem Zka (F0:Fun K "says" "Speaks.says" Zhd Zeb ZgR):type_of% ZcA:=by
 refine mbK ["self","post"] F0 λH Q s t h=>?_
 obtain⟨u,p,j,S,w,x,rfl,a,bd,b,wf,q⟩:=h
 refine⟨_,(aF (aM (cC jE (aO Zh ZL (dv 0)) (aO Zh Zv (dv 0)) (λ_ _=>rfl)))),?_⟩
 obtain⟨d,y,al⟩:=id b
 cases en:S.now with
 |free k=>rw[en]at a;cases a
 | speaks n ds k=>
  rw[en]at d
  obtain⟨f,z,r,b,A,B,e,o,_⟩:=d
  have g:=wf.now
  rw[en]at g
  obtain⟨_,_,i,_⟩:=g
  refine⟨f,_,_,e,rfl,f,_,_,e,rfl,_,_,Vb o,uV i,?_⟩
  have:bB S=(wr n ds)[k]:=by
   unfold bB
   rw[en]
   show (wr n ds).getD k 0=_
   rw[Yf,Yb i]
   rfl
  rw[this]at q
  exact q
 |reads h=>rw[en]at a;cases a
 |tlS v c=>rw[en]at a;cases a
 |tlR n ds v c=>rw[en]at a;cases a
 |flag l m=>rw[en]at a;cases a
 |settles m=>rw[en]at a;cases a
 |rests l=>rw[en]at a;cases a
 |off  =>rw[en]at a;cases a
variable (ZcT:MB P w K mg base (CX0) 1 Zet Zhy ["self","post"] (cP CA 2))
def ZkW (F0:Fun K "says" "Reads.says" ZhQ Zet Zhy):type_of% ZcT:=by
 refine mbK ["self","post"] F0 λH Q f g h=>?_
 obtain⟨i,p,b,S,j,o,rfl,a,bd,d,wf,q⟩:=h
 refine⟨_,(aF (aM aG)),?_⟩
 obtain⟨e,r,al⟩:=id d
 cases en:S.now with
 |free k=>rw[en]at a;cases a
 |speaks n ds k=>rw[en]at a;cases a
 | reads h=>
  rw[en]at e
  have:bB S=1:=by unfold bB;rw[en]
  rw[this]at q
  exact q
 |tlS v c=>rw[en]at a;cases a
 |tlR n ds v c=>rw[en]at a;cases a
 |flag l m=>rw[en]at a;cases a
 |settles m=>rw[en]at a;cases a
 |rests l=>rw[en]at a;cases a
 |off  =>rw[en]at a;cases a
variable (Zcs:MB P w K mg base (CX0) 2 ZdZ ZgF ["self","post"] (cP CA 3))
include Zf Zc Zk Za3 ZaW Zs Zdl in
theorem ZjY (F0:Fun K "says" "InTail.says" Zg1 ZdZ ZgF):type_of% Zcs:=by
 refine mbK ["self","post"] F0 λH Q x t h=>?_
 obtain⟨y,p,u,S,z,A,rfl,a,bd,w,wf,q⟩:=h
 refine⟨_,(aF (aM (sJ Zdl.1 t.mo Zdl.2 .nil aK (aO Zk Zs (dv 0))))),?_⟩
 obtain⟨i,B,al⟩:=id w
 cases en:S.now with
 |free k=>rw[en]at a;cases a
 |speaks n ds k=>rw[en]at a;cases a
 |reads h=>rw[en]at a;cases a
 | tlS v c=>
  rw[en]at i
  obtain⟨j,b,e,f,_⟩:=i
  obtain⟨C,d,g,o⟩:=id f
  have r:=jF Zf Zc g
  have s:=oU Za3 ZaW g
  refine⟨j,_,.ref b,e,rfl,⟨C,d,_,o,r.cls,s,rfl⟩,b,S.vt,true,v,c,rfl,f,?_⟩
  have:bB S=fH true v:=by unfold bB;rw[en]
  rw[this]at q
  exact q
 | tlR n ds v c=>
  rw[en]at i
  obtain⟨j,b,D,E,e,f,_⟩:=i
  obtain⟨C,d,g,o⟩:=id f
  have r:=jF Zf Zc g
  have s:=oU Za3 ZaW g
  refine⟨j,_,.ref b,e,rfl,⟨C,d,_,o,r.cls,s,rfl⟩,b,S.vt,false,v,c,rfl,f,?_⟩
  have:bB S=fH false v:=by unfold bB;rw[en]
  rw[this]at q
  exact q
 |flag l m=>rw[en]at a;cases a
 |settles m=>rw[en]at a;cases a
 |rests l=>rw[en]at a;cases a
 |off  =>rw[en]at a;cases a
variable (ZbF:MB P w K mg base (CX0) 1 Zdp ZfB ["self","post"] (cP CA 4))
def ZiW (F0:Fun K "says" "Flagging.says" ZfJ Zdp ZfB):type_of% ZbF:=by
 refine mbK ["self","post"] F0 λH Q f g h=>?_
 obtain⟨i,p,b,S,j,o,rfl,a,bd,d,wf,q⟩:=h
 refine⟨_,(aF (aM aG)),?_⟩
 obtain⟨e,r,al⟩:=id d
 cases en:S.now with
 |free k=>rw[en]at a;cases a
 |speaks n ds k=>rw[en]at a;cases a
 |reads h=>rw[en]at a;cases a
 |tlS v c=>rw[en]at a;cases a
 |tlR n ds v c=>rw[en]at a;cases a
 | flag l m=>
  rw[en]at e
  have:bB S=0:=by unfold bB;rw[en]
  rw[this]at q
  exact q
 |settles m=>rw[en]at a;cases a
 |rests l=>rw[en]at a;cases a
 |off  =>rw[en]at a;cases a
variable (Zcg:MB P w K mg base (CX0) 1 ZdL Zf7 ["self","post"] (cP CA 5))
def Zjt (F0:Fun K "says" "Settles.says" Zgn ZdL Zf7):type_of% Zcg:=by
 refine mbK ["self","post"] F0 λH Q f g h=>?_
 obtain⟨i,p,b,S,j,o,rfl,a,bd,d,wf,q⟩:=h
 refine⟨_,(aF (aM aG)),?_⟩
 obtain⟨e,r,al⟩:=id d
 cases en:S.now with
 |free k=>rw[en]at a;cases a
 |speaks n ds k=>rw[en]at a;cases a
 |reads h=>rw[en]at a;cases a
 |tlS v c=>rw[en]at a;cases a
 |tlR n ds v c=>rw[en]at a;cases a
 |flag l m=>rw[en]at a;cases a
 | settles m=>
  rw[en]at e
  have:bB S=1:=by unfold bB;rw[en]
  rw[this]at q
  exact q
 |rests l=>rw[en]at a;cases a
 |off  =>rw[en]at a;cases a
variable (ZcV:MB P w K mg base (CX0) 1 Zew ZhB ["self","post"] (cP CA 6))
def ZkZ (F0:Fun K "says" "Rests.says" ZhT Zew ZhB):type_of% ZcV:=by
 refine mbK ["self","post"] F0 λH Q f g h=>?_
 obtain⟨i,p,b,S,j,o,rfl,a,bd,d,wf,q⟩:=h
 refine⟨_,(aF (aM aG)),?_⟩
 obtain⟨e,r,al⟩:=id d
 cases en:S.now with
 |free k=>rw[en]at a;cases a
 |speaks n ds k=>rw[en]at a;cases a
 |reads h=>rw[en]at a;cases a
 |tlS v c=>rw[en]at a;cases a
 |tlR n ds v c=>rw[en]at a;cases a
 |flag l m=>rw[en]at a;cases a
 |settles m=>rw[en]at a;cases a
 | rests l=>
  rw[en]at e
  have:bB S=1:=by unfold bB;rw[en]
  rw[this]at q
  exact q
 |off  =>rw[en]at a;cases a
variable (ZdA:MB P w K mg base (CX0) 1 Zfd Zjb ["self","post"] (cP CA 7))
def Zmm (F0:Fun K "says" "Off.says" Zjy Zfd Zjb):type_of% ZdA:=by
 refine mbK ["self","post"] F0 λH Q f g h=>?_
 obtain⟨i,p,b,S,j,o,rfl,a,bd,d,wf,q⟩:=h
 refine⟨_,(aF (aM aG)),?_⟩
 obtain⟨e,r,al⟩:=id d
 cases en:S.now with
 |free k=>rw[en]at a;cases a
 |speaks n ds k=>rw[en]at a;cases a
 |reads h=>rw[en]at a;cases a
 |tlS v c=>rw[en]at a;cases a
 |tlR n ds v c=>rw[en]at a;cases a
 |flag l m=>rw[en]at a;cases a
 |settles m=>rw[en]at a;cases a
 |rests l=>rw[en]at a;cases a
 | off  =>
  rw[en]at e
  have:bB S=1:=by unfold bB;rw[en]
  rw[this]at q
  exact q
variable (ZdB:MB P w K mg base (CX0) 1 Zfe Zjc ["self","bit","post"] (cN CA 7))
def Zmn (F0:Fun K "step" "Off.step" Zjz Zfe Zjc):type_of% ZdB:=by
 refine mbK ["self","bit","post"] F0 λH Q s u h=>?_
 obtain⟨f,p,g,S,w,y,z,rfl,a,bd,b,i,wf,A,B,q⟩:=h
 refine⟨_,(aF (aM (bO (aA bA (aA (dv 0) aC))))),?_⟩
 obtain⟨j,C,al⟩:=id b
 cases en:S.now with
 |free k=>rw[en]at a;cases a
 |speaks n ds k=>rw[en]at a;cases a
 |reads h=>rw[en]at a;cases a
 |tlS v c=>rw[en]at a;cases a
 |tlR n ds v c=>rw[en]at a;cases a
 |flag l m=>rw[en]at a;cases a
 |settles m=>rw[en]at a;cases a
 |rests l=>rw[en]at a;cases a
 | off  =>
  rw[en]at j
  rw[lC en]at q
  refine⟨aL rfl,λt o=>?_⟩
  have d:=aJ o (.tup [.str "",.ref f])
  exact q t _ (Stp.go bd i cL.refl d aB ⟨rfl,rfl,rfl,rfl,rfl,rfl⟩ (b.move λx v e _=>d x v e) λx r=> .inl r)
variable (ZbG:MB P w K mg base (CX0) 3 Zdq ZfC ["self","bit","post"] (cN CA 4))
include Zc9 Zcb Zn ZaZ Zas ZH ZR Zao ZZ in
theorem ZiX (F0:Fun K "step" "Flagging.step" ZfK Zdq ZfC):type_of% ZbG:=by
 refine mbK ["self","bit","post"] F0 λH Q I y h=>?_
 obtain⟨J,p,C,S,L,M,N,rfl,a,bd,D,z,wf,O,P,q⟩:=h
 refine⟨_,(aD (bH (aW dU (aO Zn ZH (dv 0)) aG (aU _)) (aF (aM (bO (aA bA (aA (cF Zas ZZ.1 y.mo rfl Zcb ZZ.2 .nil aK (aA (aO Zn ZR (dv 0)) aC)) aC))))) aR) (aF (aM (bO (aA bA (aA (cF ZaZ Zao.1 y.mo rfl Zc9 Zao.2 .nil aK (aA (aV jL (aO Zn ZH (dv 0)) aG) (aA (aO Zn ZR (dv 0)) aC))) aC)))))),?_⟩
 obtain⟨A,R,al⟩:=id D
 cases en:S.now with
 |free k=>rw[en]at a;cases a
 |speaks n ds k=>rw[en]at a;cases a
 |reads h=>rw[en]at a;cases a
 |tlS v c=>rw[en]at a;cases a
 |tlR n ds v c=>rw[en]at a;cases a
 | flag l m=>
  rw[en]at A
  obtain⟨r,e⟩:=A
  have B:=wf.now
  rw[en]at B
  have E:1<=l:=B
  rw[fC en]at q
  refine⟨r,_,_,e,rfl,?_⟩
  conv=>whnf
  refine bL (λc=>?_) (λc=>?_)
  ·have F:((l:Nat):Int)=1:=dec_true c
   rw[if_pos (by lia)]at q
   refine⟨r,_,_,e,rfl,?_⟩
   refine λx b g d s=>⟨x,b,_,rfl,aB,λi j=>⟨rfl,aL rfl,λt u=>?_⟩⟩
   have w:Same H i:=by rw[j];exact bG g d
   have o:i x=some (.ins CA.settles b [("may_blame",.bl m)]):=by rw[j];exact aB
   have f:=aJ u (.tup [.str "",.ref x])
   exact q t _ (lM bd z cL.refl (w.trans f) aB ⟨rfl,rfl,rfl,rfl,rfl,rfl⟩ g (f _ _ o) ⟨b,f _ _ o⟩)
  ·have F:¬ ((l:Nat):Int)=1:=dec_false c
   rw[if_neg (by lia)]at q
   refine⟨r,_,_,e,rfl,r,_,_,e,rfl,?_⟩
   refine λx b g d s=>⟨x,b,_,_,rfl,aB,λi j=>⟨rfl,aL rfl,λt u=>?_⟩⟩
   have w:Same H i:=by rw[j];exact bG g d
   have G:((l:Nat):Int)-1=((l-1:Nat):Int):=by lia
   have o:i x=some (.ins CA.flag b [("left",.int ((l-1:Nat):Int)),("may_blame",.bl m)]):=by rw[j,<-G];exact aB
   have f:=aJ u (.tup [.str "",.ref x])
   exact q t _ (lM bd z cL.refl (w.trans f) aB ⟨rfl,rfl,rfl,rfl,rfl,rfl⟩ g (f _ _ o) ⟨b,f _ _ o⟩)
 |settles m=>rw[en]at a;cases a
 |rests l=>rw[en]at a;cases a
 |off  =>rw[en]at a;cases a
variable (Zch:MB P w K mg base (CX0) 5 ZdM Zf8 ["self","bit","post"] (cN CA 5))
include ZcY ZbE ZD Zaw Z3 Z1 ZcF in
theorem Zju (F0:Fun K "step" "Settles.step" Zgo ZdM Zf8):type_of% Zch:=by
 refine mbK ["self","bit","post"] F0 λH Q L r h=>?_
 obtain⟨D,p,f,S,E,M,s,rfl,a,bd,u,w,wf,N,O,q⟩:=h
 refine⟨_,(aD (bH (aW dU (dv 1) aG (aU _)) (aF (aM (bO (aA bA (aA (cF Zaw Z1.1 r.mo rfl ZcY Z1.2 .nil aK (aA (bC (v:= .int 3) rfl ZbE ⟨_,rfl⟩) aC)) aC))))) aR) (aD (bH (cJ (aO ZD Z3 (dv 0))) (aF (aM (aQ ZcF.1 r.mo rfl ZcF.2.2.2 ZcF.2.2.1 ZcF.2.1 .nil aK (aA (dv 2) aC)))) aR) (aF (aM (bO (aA bA (aA (dv 0) aC))))))),?_⟩
 obtain⟨y,P,al⟩:=id u
 cases en:S.now with
 |free k=>rw[en]at a;cases a
 |speaks n ds k=>rw[en]at a;cases a
 |reads h=>rw[en]at a;cases a
 |tlS v c=>rw[en]at a;cases a
 |tlR n ds v c=>rw[en]at a;cases a
 |flag l m=>rw[en]at a;cases a
 | settles m=>
  rw[en]at y
  obtain⟨F,e⟩:=y
  rw[dY en]at q
  conv=>whnf
  refine bL (λc=>?_) (λc=>?_)
  ·have g:s=1:=dec_true c
   rw[if_pos g]at q
   refine λx b d i G=>⟨x,b,_,rfl,aB,λz A=>⟨rfl,aL rfl,λt j=>?_⟩⟩
   have I:Same H z:=by rw[A];exact bG d i
   have B:z x=some (.ins CA.rests b [("left",.int ((3:Nat):Int))]):=by rw[A];exact aB
   have o:=aJ j (.tup [.str "",.ref x])
   exact q t _ (lM bd w cL.refl (I.trans o) aB ⟨rfl,rfl,rfl,rfl,rfl,rfl⟩ d (o _ _ B) ⟨b,o _ _ B⟩)
  have g:¬ s=1:=dec_false c
  rw[if_neg g]at q
  refine⟨F,_,_,e,rfl,?_⟩
  cases m with
  | true=>
   rw[if_pos rfl]at q
   exact⟨p,f,S,E,rfl,bd,λt J h=>q t J (h.stp cL.refl bd)⟩
  | false=>
   rw[if_neg (by decide)]at q
   refine⟨aL rfl,λt j=>?_⟩
   have C:=aJ j (.tup [.str "",.ref D])
   exact q t _ (Stp.go bd w cL.refl C aB ⟨rfl,rfl,rfl,rfl,rfl,rfl⟩ (u.move λx v e _=>C x v e) λx d=> .inl d)
 |rests l=>rw[en]at a;cases a
 |off  =>rw[en]at a;cases a
variable (ZcW:MB P w K mg base (CX0) 5 Zex ZhC ["self","bit","post"] (cN CA 6))
include ZdV ZcY Zy ZaT Zaw ZY Zap Z1 Zq in
theorem Zk0 (F0:Fun K "step" "Rests.step" ZhU Zex ZhC):type_of% ZcW:=by
 refine mbK ["self","bit","post"] F0 λH Q O r h=>?_
 obtain⟨P,p,s,S,F,R,y,rfl,b,bd,G,A,wf,T,U,q⟩:=h
 refine⟨_,(aD (bH (aW dU (dv 1) aG (aU _)) (aF (aM (aQ Zq.1 r.mo rfl Zq.2.2.2 Zq.2.2.1 Zq.2.1 .nil aK (aA (dv 2) (aA iW aC))))) aR) (aF (aM (bO (aA bA (aA (bZ (dF (aW dU (aO Zy ZY (dv 0)) aG (aU _)) (cF ZaT Zap.1 r.mo rfl ZdV Zap.2 .nil aK (aA aG aC)) (cF Zaw Z1.1 r.mo rfl ZcY Z1.2 .nil aK (aA (aV jL (aO Zy ZY (dv 0)) aG) aC)))) aC)))))),?_⟩
 obtain⟨B,V,al⟩:=id G
 cases en:S.now with
 |free k=>rw[en]at b;cases b
 |speaks n ds k=>rw[en]at b;cases b
 |reads h=>rw[en]at b;cases b
 |tlS v c=>rw[en]at b;cases b
 |tlR n ds v c=>rw[en]at b;cases b
 |flag l m=>rw[en]at b;cases b
 |settles m=>rw[en]at b;cases b
 | rests l=>
  rw[en]at B
  obtain⟨C,e⟩:=B
  have D:=wf.now
  rw[en]at D
  have I:1<=l:=D
  rw[gK en]at q
  conv=>whnf
  refine bL (λc=>?_) (λc=>?_)
  ·have u:y=0:=dec_true c
   rw[if_pos u]at q
   exact⟨p,s,S,F,false,rfl,bd,λt J h=>q t J (h.stp cL.refl bd)⟩
  have u:¬ y=0:=dec_false c
  rw[if_neg u]at q
  refine⟨λv g=>∃x a,v= .ref x/\H x=none/\Same H g/\(if l=1 then g x=some (.ins CA.free a [("since",.int ((0:Nat):Int))]) else g x=some (.ins CA.rests a [("left",.int ((l-1:Nat):Int))])),?_,?_⟩
  ·refine⟨C,_,_,e,rfl,?_⟩
   conv=>whnf
   refine bL (λz=>?_) (λz=>?_)
   ·have L:((l:Nat):Int)=1:=dec_true z
    refine λx a d f w=>⟨x,a,_,rfl,aB,λg o=>⟨rfl,x,a,rfl,d,by rw[o];exact bG d f,?_⟩⟩
    rw[if_pos (by lia),o]
    exact aB
   ·have L:¬ ((l:Nat):Int)=1:=dec_false z
    have M:((l:Nat):Int)-1=((l-1:Nat):Int):=by lia
    refine⟨C,_,_,e,rfl,?_⟩
    refine λx a d f w=>⟨x,a,_,rfl,aB,λg o=>⟨rfl,x,a,rfl,d,by rw[o];exact bG d f,?_⟩⟩
    rw[if_neg (by lia),o,<-M]
    exact aB
  rintro v g ⟨x,a,rfl,d,E,i⟩
  refine⟨aL rfl,λt N=>?_⟩
  have j:=aJ N (.tup [.str "",.ref x])
  by_cases z:l=1
  ·rw[if_pos z]at i q
   exact q t _ (lM bd A cL.refl (E.trans j) aB ⟨rfl,rfl,rfl,rfl,rfl,rfl⟩ d (j _ _ i) ⟨a,j _ _ i⟩)
  ·rw[if_neg z]at i q
   exact q t _ (lM bd A cL.refl (E.trans j) aB ⟨rfl,rfl,rfl,rfl,rfl,rfl⟩ d (j _ _ i) ⟨a,j _ _ i⟩)
 |off  =>rw[en]at b;cases b
variable (Zdb:MB P w K mg base (CX0) 8 ZeP Zib ["self","bit","post"] (cN CA 0))
include ZaB ZQ Zz ZdV Zei Zdm Zw Za ZaT Zbp ZaH Zay ZaM ZI Zab Zap ZaF Zad ZaJ Zq Za5 in
theorem ZlB (F0:Fun K "step" "Free.step" Ziv ZeP Zib):type_of% Zdb:=by
 refine mbK ["self","bit","post","begins"] F0 λH Q nd B h=>?_
 obtain⟨nw,p,E,S,Z,os,U,rfl,j,bd,st,dj,wf,hb,hu,q⟩:=h
 refine⟨_,(aD (aX (i:=3) nd rfl (Or.inl rfl) (fM dU (bN Zw Zay Za5.1 B.mo Za5.2 .nil aK (dv 0) (aA (dv 2) aC)) aG (aU _))) (aD (bH (PW.pt (jV (cJ (dv 3)) (jH (aW dU (dv 1) aG (aU _))))) (aF (aM (bO (aA bA (aA (cF Zbp ZaF.1 B.mo rfl Zei ZaF.2 .nil aK (aA (bT Za ZaM ZaJ.1 B.mo ZaJ.2 .nil aK (dv 2)) (aA (wA Zab.1 B.mo rfl Zab.2.2.2 Zab.2.2.1 Zab.2.1 .nil aK) (aA aG aC)))) aC))))) aR) (aD (bH (cJ (dv 3)) (aF (aM (aQ Zq.1 B.mo rfl Zq.2.2.2 Zq.2.2.1 Zq.2.1 .nil aK (aA (dv 2) (aA iW aC))))) aR) (aD (bH (aW dU (dv 1) aG (aU _)) (aF (aM (bO (aA bA (aA (cF ZaH Zad.1 B.mo rfl Zdm Zad.2 .nil aK (aA (wA Zab.1 B.mo rfl Zab.2.2.2 Zab.2.2.1 Zab.2.1 .nil aK) (aA aG aC))) aC))))) aR) (aF (aM (bO (aA bA (aA (cF ZaT Zap.1 B.mo rfl ZdV Zap.2 .nil aK (aA (aV cM (aO Zw ZI (dv 0)) aG) aC)) aC))))))))),?_⟩
 obtain⟨sa,on,al⟩:=id st
 cases en:S.now with
 | free k =>
  rw[en]at sa
  obtain⟨dx,e⟩:=sa
  obtain⟨dp,ch,wl,ul,ct,ws,us,b⟩:=id bd
  rw[iQ en]at q
  refine⟨⟨dx,_,e,rfl⟩,nw,p,E,S,Z,os,rfl,j,bd,st,wf,?_⟩
  conv=>whnf
  refine bL (λc=>?_) (λc=>?_)
  ·have M:bB S=0:=dec_true c
   rw[if_pos M]at q
   conv=>whnf
   refine bL (λz=>?_) (λz=>?_)
   ·have F:U=0:=dec_true z
    rw[if_pos F]at q
    cases ewt:S.wt with
    | nil=>
     rw[vP en,if_pos ewt]at M
     cases M
    | cons f rr=>
     rw[ewt]at q
     have hf:=wf.wt f (by rw[ewt];exact Yy)
     refine⟨⟨dp,_,b.e,rfl⟩,p,E,S,Z,f,rr,rfl,bd,ewt,hf,λV H1 a0 N W=>?_⟩
     refine⟨rfl,λr o G L X u A n1 n2 Y=>?_⟩
     refine λx g C s O=>⟨x,g,_,_,_,rfl,aB,λP D=>⟨rfl,aL rfl,λt R=>?_⟩⟩
     have I:Same L P:=by rw[D];exact bG C s
     have T:P x=some (.ins CA.speaks g [("wire",.ref V),("reader",.ref r),("many",.int ((1:Nat):Int))]):=by rw[D];exact aB
     have J:=aJ R (.tup [.str "begins",.ref x])
     have a1:V≠G:=λy=>by rw[y,Y]at W;cases W
     have a:=I.trans J
     have gs:=N.trans (A.trans a)
     refine q t _ (Stp.go (os':=λy=>y=x\/y=V\/y=r\/y=o\/y=G) bd dj cL.refl gs aB ⟨rfl,rfl,rfl,ewt.symm,rfl,rfl⟩ ⟨⟨g,V,r,o,G,X,J _ _ T,a _ _ (A _ _ W),?_,a1,.inr (.inl rfl),.inr (.inr (.inl rfl)),.inr (.inr (.inr (.inl rfl))),.inr (.inr (.inr (.inr rfl)))⟩,.inl rfl,?_⟩ ?_)
     ·show iK _ _ _ r o G ((wr f.1 f.2).take 1) X
      rw[tR]
      exact u.same a
     ·rintro y (rfl | rfl | rfl | rfl | rfl)
      ·rw[J _ _ T];simp
      ·rw[a _ _ (A _ _ W)];simp
      ·obtain⟨d,w⟩:=u.rd;rw[a _ _ w];simp
      ·obtain⟨d,w⟩:=u.sk;rw[a _ _ w];simp
      ·rw[a _ _ u.kp];simp
     ·rintro y (rfl | rfl | rfl | rfl | rfl)
      ·exact .inr (N.none (A.none C))
      ·exact .inr a0
      ·exact .inr (N.none n1)
      ·exact .inr (N.none n2)
      ·exact .inr (N.none Y)
   ·have F:¬ U=0:=dec_false z
    rw[if_neg F]at q
    conv=>whnf
    refine bL (λ_=>?_) (λc'=>absurd c c')
    exact⟨p,E,S,Z,true,rfl,bd,λt H' h=>q t H' (h.stp cL.refl bd)⟩
  have M:¬ bB S=0:=dec_false c
  rw[if_neg M]at q
  refine yU ?_
  conv=>whnf
  refine bL (λc'=>absurd c' c) (λ_=>?_)
  conv=>whnf
  refine bL (λz=>?_) (λz=>?_)
  ·have F:U=0:=dec_true z
   rw[if_pos F]at q
   refine⟨rfl,λr o G L X u A n1 n2 Y=>?_⟩
   refine λx g C s O=>⟨x,g,_,_,rfl,aB,λP D=>⟨rfl,aL rfl,λt R=>?_⟩⟩
   have I:Same L P:=by rw[D];exact bG C s
   have T:P x=some (.ins CA.reads g [("reader",.ref r),("many",.int ((1:Nat):Int))]):=by rw[D];exact aB
   have J:=aJ R (.tup [.str "",.ref x])
   have a:=I.trans J
   refine q t _ (Stp.go (os':=λy=>y=x\/y=r\/y=o\/y=G) bd dj cL.refl (A.trans a) aB ⟨rfl,rfl,rfl,rfl,rfl,rfl⟩ ⟨⟨g,r,o,G,X,J _ _ T,u.same a,.inr (.inl rfl),.inr (.inr (.inl rfl)),.inr (.inr (.inr rfl))⟩,.inl rfl,?_⟩ ?_)
   ·rintro y (rfl | rfl | rfl | rfl)
    ·rw[J _ _ T];simp
    ·obtain⟨d,w⟩:=u.rd;rw[a _ _ w];simp
    ·obtain⟨d,w⟩:=u.sk;rw[a _ _ w];simp
    ·rw[a _ _ u.kp];simp
   ·rintro y (rfl | rfl | rfl | rfl)
    ·exact .inr (A.none C)
    ·exact .inr n1
    ·exact .inr n2
    ·exact .inr Y
  ·have F:¬ U=0:=dec_false z
   rw[if_neg F]at q
   refine⟨dx,_,_,e,rfl,?_⟩
   refine λx g C s O=>⟨x,g,_,rfl,aB,λL D=>⟨rfl,aL rfl,λt R=>?_⟩⟩
   have A:Same H L:=by rw[D];exact bG C s
   have e2:L x=some (.ins CA.free g [("since",.int ((k+1:Nat):Int))]):=by rw[D];exact aB
   have I:=aJ R (.tup [.str "",.ref x])
   exact q t _ (lM bd dj cL.refl (A.trans I) aB ⟨rfl,rfl,rfl,rfl,rfl,rfl⟩ C (I _ _ e2) ⟨g,I _ _ e2⟩)
 |speaks n ds k=>rw[en]at j;cases j
 |reads h=>rw[en]at j;cases j
 |tlS v c=>rw[en]at j;cases j
 |tlR n ds v c=>rw[en]at j;cases j
 |flag l m=>rw[en]at j;cases j
 |settles m=>rw[en]at j;cases j
 |rests l=>rw[en]at j;cases j
 |off  =>rw[en]at j;cases j
variable (ZcU:MB P w K mg base (CX0) 7 Zeu Zhz ["self","bit","post"] (cN CA 2))
include ZQ Zz Zdz Zdm Zeh Zfi Zg Zu Za ZaH Zbo Zc8 ZS Zbt Z2 Z5 Z4 Z7 Zce ZbI Zad ZaD Zq in
theorem ZkX (F0:Fun K "step" "Reads.step" ZhR Zeu Zhz):type_of% ZcU:=by
 refine mbK ["self","bit","post","answer"] F0 λH Q nd G h=>?_
 obtain⟨Y,p,Z,S,ob,os,I,rfl,a,bd,st,dj,wf,hb,hu,q⟩:=h
 refine⟨_,(aD (aX (i:=3) nd rfl (Or.inl rfl) (bN Zg ZS Z7.1 G.mo Z7.2 .nil aK (aO Zu Z2 (dv 0)) (aA (dv 1) aC))) (aD (bH (aW dU (dv 3) bA (aU _)) (aF (aM (bO (aA bA (aA (cF ZaH Zad.1 G.mo rfl Zdm Zad.2 .nil aK (aA (aO Zu Z2 (dv 0)) (aA (aV cM (aO Zu Z5 (dv 0)) aG) aC))) aC))))) aR) (aD (bH (aW dU (dv 3) bA (aU _)) (aF (aM (bO (aA bA (aA (cF Zbo ZaD.1 G.mo rfl Zeh ZaD.2 .nil aK (aA (cF Zc8 ZbI.1 G.mo rfl Zfi ZbI.2 .nil aK (aA (aO Za Z4 (dv 2)) aC)) (aA (bT Zg Zbt Zce.1 G.mo Zce.2 .nil aK (aO Zu Z2 (dv 0))) aC))) aC))))) aR) (aF (aM (aQ Zq.1 G.mo rfl Zq.2.2.2 Zq.2.2.1 Zq.2.1 .nil aK (aA (dv 2) (aA iW aC)))))))),?_⟩
 obtain⟨sa,on,al⟩:=id st
 cases en:S.now with
 |free k=>rw[en]at a;cases a
 |speaks n ds k=>rw[en]at a;cases a
 | reads h=>
  rw[en]at sa
  obtain⟨V,r,o,J,t0,e,L,o1,o2,o3⟩:=sa
  have hn:=wf.now
  rw[en]at hn
  obtain⟨f1,f2,f3⟩:=hn
  have a5:=b4R f1 f2
  rw[eQ en]at q
  obtain⟨dr,er⟩:=L.rd
  obtain⟨dk,ek⟩:=L.sk
  have s:bK (h++[I]):=nZ f1 (λz hz=>by rw[Yk.mp hz];exact hb)
  refine⟨V,_,.ref r,e,rfl,⟨dr,_,er,rfl⟩,r,o,J,h,t0,I,rfl,L,s,by lia,λH1 g b1=>?_⟩
  have n1:Y≠r:=qJ "many" e er rfl rfl
  have n2:Y≠o:=qJ "many" e ek rfl rfl
  have n3:Y≠J:=a0R e L.kp
  have e1:=b1 _ _ n1 n2 n3 e
  have W:=a0Z L b1 o1 o2 o3
  have C:=pJ bd dj W
  have a0:cL (Or2 ob os) H H1:=W.le λx D=> .inr D
  obtain⟨a6,M⟩:=g.rd
  generalize hans:ans (h++[I])=an at g q M ⊢
  conv=>whnf
  refine bL (λc=>?_) (λc=>?_)
  ·have c1:an="more":=YK c
   rw[if_pos c1]at q
   refine⟨V,_,.ref r,e1,rfl,V,_,_,e1,rfl,?_⟩
   refine λx f D E N=>⟨x,f,_,_,rfl,aB,λO A=>⟨rfl,aL rfl,λt ht=>?_⟩⟩
   have F:Same H1 O:=by rw[A];exact bG D E
   have el:((h.length:Nat):Int)+1=(((h++[I]).length:Nat):Int):=by rw[Yd,Yt];rfl
   have P:O x=some (.ins CA.reads f [("reader",.ref r),("many",.int (((h++[I]).length:Nat):Int))]):=by rw[A,<-el];exact aB
   have B:=aJ ht (.tup [.str "",.ref x])
   have u:=F.trans B
   refine q t _ (Stp.go (os':=λy=>y=x\/y=r\/y=o\/y=J) bd dj W u aB ⟨rfl,rfl,rfl,rfl,rfl,rfl⟩ ⟨⟨f,r,o,J,an,B _ _ P,g.same u,.inr (.inl rfl),.inr (.inr (.inl rfl)),.inr (.inr (.inr rfl))⟩,.inl rfl,?_⟩ ?_)
   ·rintro y (rfl | rfl | rfl | rfl)
    ·rw[B _ _ P];simp
    ·rw[u _ _ M];simp
    ·obtain⟨d,w⟩:=g.sk;rw[u _ _ w];simp
    ·rw[u _ _ g.kp];simp
   ·rintro y (rfl | rfl | rfl | rfl)
    ·exact .inr D
    ·exact .inl o1
    ·exact .inl o2
    ·exact .inl o3
  have c1:¬ an="more":=λz=>c (Yj z)
  rw[if_neg c1]at q
  conv=>whnf
  refine bL (λz=>?_) (λz=>?_)
  ·have X:an="whole":=YK z
   rw[if_pos X]at q
   obtain⟨dp,ch,wl,ul,ct,ws,us,b⟩:=id C
   refine⟨dp,_,_,b.e,rfl,?_⟩
   refine λR dt T a1 N=>⟨R,dt,S.vt,rfl,aB,λO A=>⟨rfl,?_⟩⟩
   have F:Same H1 O:=by rw[A];exact bG T a1
   have P:O R=some (.ins CA.rtail dt (tlF S.vt false 0 0)):=by rw[A];exact aB
   clear A
   have U:=g.same F
   obtain⟨a2,a3⟩:=U.rd
   refine⟨V,_,.ref r,F _ _ e1,rfl,⟨a2,_,a3,rfl⟩,r,o,J,h++[I],rfl,(by rw[hans];exact U),s,(by rw[Yd,Yt];lia),(λ_=>a3G (by rw[b1A,Y7,f3];rfl)),λ_ ok t d H3 hd B ed et=>?_,λno=>absurd (hans.trans X) no⟩
   refine λx f D E N=>⟨x,f,_,_,rfl,aB,λH4 A=>⟨rfl,aL rfl,λt' a4=>?_⟩⟩
   have g4:Same H3 H4:=by rw[A];exact bG D E
   have e4:H4 x=some (.ins CA.intail f [("tail",.ref R),("found",.ref t)]):=by rw[A];exact aB
   clear A
   have g5:=aJ a4 (.tup [.str "",.ref x])
   have j:=g4.trans g5
   refine q t' _ (Stp.go (os':=λy=>y=x\/y=R\/y=d) bd dj W (F.trans (B.trans j)) aB ⟨rfl,rfl,rfl,rfl,rfl,rfl⟩ ⟨⟨f,R,t,d,g5 _ _ e4,⟨CA.rtail,dt,.inl rfl,j _ _ (B _ _ P)⟩,j _ _ et,j _ _ ed,.inr (.inl rfl),.inr (.inr rfl)⟩,.inl rfl,?_⟩ ?_)
   ·rintro y (rfl | rfl | rfl)
    ·rw[g5 _ _ e4];simp
    ·rw[j _ _ (B _ _ P)];simp
    ·rw[j _ _ ed];simp
   ·rintro y (rfl | rfl | rfl)
    ·exact .inr (F.none (B.none D))
    ·exact .inr T
    ·exact .inr (F.none hd)
  ·have X:¬ an="whole":=λy=>z (Yj y)
   rw[if_neg X]at q
   exact⟨p,Z,S,ob,false,rfl,C,λt H' h=>q t H' (h.stp a0 C)⟩
 |tlS v c=>rw[en]at a;cases a
 |tlR n ds v c=>rw[en]at a;cases a
 |flag l m=>rw[en]at a;cases a
 |settles m=>rw[en]at a;cases a
 |rests l=>rw[en]at a;cases a
 |off  =>rw[en]at a;cases a
variable (ZcB:MB P w K mg base (CX0) 7 Zec ZgS ["self","bit","post"] (cN CA 1))
include ZQ Zz Zdz Zei Zdm Zeh ZeZ Ze3 ZF Zg Zh Za Zbp ZaH Zbo ZcO ZS Zbu ZL ZU Zv Z4 Z7 Zcf Zbn ZaF Zad ZaD Zq in
theorem Zkb (F0:Fun K "step" "Speaks.step" Zhe Zec ZgS):type_of% ZcB:=by
 refine mbK ["self","bit","post","own","is_duel"] F0 λH Q nd F h=>?_
 obtain⟨nw,p,Y,S,ob,os,s,rfl,j,bd,st,dj,wf,hb,hu,q⟩:=h
 refine⟨_,(aD (aX (i:=3) nd rfl (Or.inl rfl) (cC jE (aO Zh ZL (dv 0)) (aO Zh Zv (dv 0)) (λ_ _=>rfl))) (aD (aX (i:=4) nd rfl (Or.inl rfl) (fM a3U (bI fD rfl ZF cU (aA (bT Zg Zbu Zcf.1 F.mo Zcf.2 .nil aK (aO Zh ZU (dv 0))) aC)) (bC (v:= .int 9) rfl ZeZ ⟨_,rfl⟩) (aU _))) (aD (bH (aW dU (bN Zg ZS Z7.1 F.mo Z7.2 .nil aK (aO Zh ZU (dv 0)) (aA (dv 1) aC)) bA (aU _)) (aF (aM (aQ Zq.1 F.mo rfl Zq.2.2.2 Zq.2.2.1 Zq.2.1 .nil aK (aA (dv 2) (aA iW aC))))) aR) (aD (iV (bH (PW.pt (jV (aW dU (dv 3) aG (aU _)) (jV (aW dU (dv 1) aG (aU _)) (jH (cJ (dv 4)))))) (aF (aM (bO (aA bA (aA (cF ZaH Zad.1 F.mo rfl Zdm Zad.2 .nil aK (aA (aO Zh ZU (dv 0)) (aA (aV cM (aO Zh Zv (dv 0)) aG) aC))) aC))))) aR)) (aD (bH (aW tQ (dv 1) (dv 3) (aU _)) (aF (aM (aQ Zq.1 F.mo rfl Zq.2.2.2 Zq.2.2.1 Zq.2.1 .nil aK (aA (dv 2) (aA iW aC))))) aR) (aD (bH (aW dU (aV cM (aO Zh Zv (dv 0)) aG) (bI fD rfl ZF cU (aA (aO Zh ZL (dv 0)) aC)) (aU _)) (aF (aM (bO (aA bA (aA (cF Zbo ZaD.1 F.mo rfl Zeh ZaD.2 .nil aK (aA (cF ZcO Zbn.1 F.mo rfl Ze3 Zbn.2 .nil aK (aA (aO Za Z4 (dv 2)) aC)) (aA uB aC))) aC))))) aR) (aF (aM (bO (aA bA (aA (cF Zbp ZaF.1 F.mo rfl Zei ZaF.2 .nil aK (aA (aO Zh ZL (dv 0)) (aA (aO Zh ZU (dv 0)) (aA (aV cM (aO Zh Zv (dv 0)) aG) aC)))) aC))))))))))),?_⟩
 obtain⟨sa,on,al⟩:=id st
 cases en:S.now with
 |free k=>rw[en]at j;cases j
 | speaks n ds k=>
  rw[en]at sa
  obtain⟨A,W,r,o,L,t0,e,ew,Z,a0,o0,o1,o2,o3⟩:=sa
  have hn:=wf.now
  rw[en]at hn
  obtain⟨f1,f2,hk,f4⟩:=hn
  have b0:=kO f1
  have wbits:=(kW f1).wbits
  rw[dW en]at q
  have eg:=getD_get hk
  rw[eg]at q
  obtain⟨dr,er⟩:=Z.rd
  obtain⟨dk,ek⟩:=Z.sk
  have M:bK ((wr n ds).take k++[s]):=nZ (tV wbits) (λz hz=>by rw[Yk.mp hz];exact hb)
  refine⟨A,_,.ref W,e,rfl,A,_,_,e,rfl,_,_,Vb ew,uV hk,?_⟩
  refine⟨A,_,.ref r,e,rfl,⟨dr,_,er,rfl⟩,r,o,L,_,t0,rfl,Z,λpp H0 b2 g0 e0=>?_⟩
  refine⟨_,.inl (Vb e0),?_⟩
  rw[Ya]
  have N:=Z.same g0
  obtain⟨a5,a6⟩:=N.rd
  have a1:=g0 _ _ e
  refine⟨A,_,.ref r,a1,rfl,⟨a5,_,a6,rfl⟩,r,o,L,(wr n ds).take k,t0,s,rfl,N,M,(by rw[Yq];lia),λH1 g b1=>?_⟩
  have n1:nw≠r:=qJ "wire" e er rfl rfl
  have n2:nw≠o:=qJ "wire" e ek rfl rfl
  have n3:nw≠L:=a0R e Z.kp
  have O:=b1 _ _ n1 n2 n3 a1
  have P:=b1 _ _ (Va (a0R er ew)) (Va (a0R ek ew)) a0 (g0 _ _ ew)
  have a7:=a0Z N b1 o1 o2 o3
  have k1:cL os H H1:=λx v ex z=>a7 x v (g0 x v ex) z
  have B:=pJ bd dj k1
  have a2:cL (Or2 ob os) H H1:=k1.le λx D=> .inr D
  obtain⟨b3,R⟩:=g.rd
  conv=>whnf
  refine bL (λc=>?_) (λc=>?_)
  ·have c1:ans ((wr n ds).take k++[s])="six":=YK c
   rw[if_pos c1]at q
   exact⟨p,Y,S,ob,true,rfl,B,λt G h=>q t G (h.stp a2 B)⟩
  have c1:¬ ans ((wr n ds).take k++[s])="six":=λz=>c (Yj z)
  rw[if_neg c1]at q
  refine⟨λa3 G=>a3= [some (.ref nw),some (.int s),some (.ref p),some (.int (wr n ds)[k]),some (.bl (decide (((kp ((wr n ds).take k)).length:Int)<9)))]/\G=H1/\¬ ((wr n ds)[k]=1/\s=0/\(kp ((wr n ds).take k)).length<9),?_,?_⟩
  ·conv=>whnf
   refine bL (λI=>?_) (λI=>yU ⟨rfl,rfl,λz=>dec_false I z.1⟩)
   conv=>whnf
   refine bL (λy2=>?_) (λy2=>yU ⟨rfl,rfl,λz=>dec_false y2 z.2.1⟩)
   conv=>whnf
   refine bL (λy3=>?_) (λy3=>⟨rfl,rfl,λz=>dec_false y3 (by have:=z.2.2;lia)⟩)
   have hl:(wr n ds)[k]=1/\s=0/\(kp ((wr n ds).take k)).length<9:=⟨dec_true I,dec_true y2,by have:=dec_true y3;lia⟩
   rw[if_pos hl]at q
   refine⟨A,_,.ref r,O,rfl,A,_,_,O,rfl,?_⟩
   refine λx f D C T=>⟨x,f,_,_,rfl,aB,λE u=>⟨rfl,aL rfl,λt ht=>?_⟩⟩
   have X:Same H1 E:=by rw[u];exact bG D C
   have el:((k:Nat):Int)+1=((((wr n ds).take k++[s]).length:Nat):Int):=by rw[Yd,Yt,Yq];lia
   have J:E x=some (.ins CA.reads f [("reader",.ref r),("many",.int ((((wr n ds).take k++[s]).length:Nat):Int))]):=by rw[u,<-el];exact aB
   have U:=aJ ht (.tup [.str "loses",.ref x])
   have a:=X.trans U
   refine q t _ (Stp.go (os':=λy=>y=x\/y=r\/y=o\/y=L) bd dj k1 a aB ⟨rfl,rfl,rfl,rfl,rfl,rfl⟩ ⟨⟨f,r,o,L,_,U _ _ J,g.same a,.inr (.inl rfl),.inr (.inr (.inl rfl)),.inr (.inr (.inr rfl))⟩,.inl rfl,?_⟩ ?_)
   ·rintro y (rfl | rfl | rfl | rfl)
    ·rw[U _ _ J];simp
    ·rw[a _ _ R];simp
    ·obtain⟨d,w⟩:=g.sk;rw[a _ _ w];simp
    ·rw[a _ _ g.kp];simp
   ·rintro y (rfl | rfl | rfl | rfl)
    ·exact .inr D
    ·exact .inl o1
    ·exact .inl o2
    ·exact .inl o3
  rintro a3 G ⟨rfl,rfl,nl⟩
  rw[if_neg nl]at q
  conv=>whnf
  refine bL (λy=>?_) (λy=>?_)
  ·have I:¬ s=(wr n ds)[k]:=λz=>by
    have:(!decide (s=(wr n ds)[k]))=true:=y
    rw[Yj z]at this;cases this
   rw[if_neg I]at q
   exact⟨p,Y,S,ob,true,rfl,B,λt G h=>q t G (h.stp a2 B)⟩
  have I:s=(wr n ds)[k]:=YB λz=>y (by
   show (!decide (s=(wr n ds)[k]))=true
   rw[Yl z];rfl)
  rw[if_pos I]at q
  have et:(wr n ds).take k++[s]=(wr n ds).take (k+1):=by rw[Yg hk,I]
  refine⟨A,_,_,O,rfl,A,_,.ref W,O,rfl,_,.inl (Vb P),?_⟩
  rw[Ya]
  conv=>whnf
  refine bL (λz=>?_) (λz=>?_)
  ·have z1:((k:Nat):Int)+1=(((wr n ds).length:Nat):Int):=dec_true z
   rw[if_pos (by lia)]at q
   obtain⟨dp,ch,wl,ul,ct,ws,us,b⟩:=id B
   refine⟨dp,_,_,b.e,rfl,?_⟩
   refine λtl dt a4 a8 T=>⟨tl,dt,S.vt,rfl,aB,λE u=>⟨rfl,?_⟩⟩
   have X:Same G E:=by rw[u];exact bG a4 a8
   have J:E tl=some (.ins CA.stail dt (tlF S.vt true 0 0)):=by rw[u];exact aB
   clear u
   refine λx f D C T=>⟨x,f,_,_,rfl,aB,λH4 u=>⟨rfl,aL rfl,λt' a9=>?_⟩⟩
   have g4:Same E H4:=by rw[u];exact bG D C
   have e4:H4 x=some (.ins CA.intail f [("tail",.ref tl),("found",.non)]):=by rw[u];exact aB
   clear u
   have g5:=aJ a9 (.tup [.str "",.ref x])
   have V:=g4.trans g5
   refine q t' _ (Stp.go (os':=λy=>y=x\/y=tl) bd dj k1 (X.trans V) aB ⟨rfl,rfl,rfl,rfl,rfl,rfl⟩ ⟨⟨f,tl,g5 _ _ e4,⟨CA.stail,dt,.inr rfl,V _ _ J⟩,.inr rfl⟩,.inl rfl,?_⟩ ?_)
   ·rintro y (rfl | rfl)
    ·rw[g5 _ _ e4];simp
    ·rw[V _ _ J];simp
   ·rintro y (rfl | rfl)
    ·exact .inr (X.none D)
    ·exact .inr a4
  ·have z1:¬ ((k:Nat):Int)+1=(((wr n ds).length:Nat):Int):=dec_false z
   rw[if_neg (by lia)]at q
   refine⟨A,_,.ref W,O,rfl,A,_,.ref r,O,rfl,A,_,_,O,rfl,?_⟩
   refine λx f D C T=>⟨x,f,_,_,_,rfl,aB,λE u=>⟨rfl,aL rfl,λt ht=>?_⟩⟩
   have X:Same G E:=by rw[u];exact bG D C
   have J:E x=some (.ins CA.speaks f [("wire",.ref W),("reader",.ref r),("many",.int ((k+1:Nat):Int))]):=by rw[u];exact aB
   clear u
   have U:=aJ ht (.tup [.str "",.ref x])
   have a:=X.trans U
   rw[et]at g R
   refine q t _ (Stp.go (os':=λy=>y=x\/y=W\/y=r\/y=o\/y=L) bd dj k1 a aB ⟨rfl,rfl,rfl,rfl,rfl,rfl⟩ ⟨⟨f,W,r,o,L,_,U _ _ J,a _ _ P,g.same a,a0,.inr (.inl rfl),.inr (.inr (.inl rfl)),.inr (.inr (.inr (.inl rfl))),.inr (.inr (.inr (.inr rfl)))⟩,.inl rfl,?_⟩ ?_)
   ·rintro y (rfl | rfl | rfl | rfl | rfl)
    ·rw[U _ _ J];simp
    ·rw[a _ _ P];simp
    ·rw[a _ _ R];simp
    ·obtain⟨d,w⟩:=g.sk;rw[a _ _ w];simp
    ·rw[a _ _ g.kp];simp
   ·rintro y (rfl | rfl | rfl | rfl | rfl)
    ·exact .inr D
    ·exact .inl o0
    ·exact .inl o1
    ·exact .inl o2
    ·exact .inl o3
 |reads h=>rw[en]at j;cases j
 |tlS v c=>rw[en]at j;cases j
 |tlR n ds v c=>rw[en]at j;cases j
 |flag l m=>rw[en]at j;cases j
 |settles m=>rw[en]at j;cases j
 |rests l=>rw[en]at j;cases j
 |off  =>rw[en]at j;cases j
variable (Zct:MB P w K mg base (CX0) 6 Zd0 ZgG ["self","bit","post"] (cN CA 3))
include ZcY ZbE Zf Zc Zd Zk Za Zaw Zb1 ZaL Zbs Za2 ZaV Zs Zau Zm Zdk ZcP Z1 ZaI Zcd Zq ZbA in
theorem ZjZ (F0:Fun K "step" "InTail.step" Zg2 Zd0 ZgG):type_of% Zct:=by
 refine mbK ["self","bit","post","answer"] F0 λH Q nd R h=>?_
 obtain⟨nw,p,E,S,L,M,bt,rfl,B,bd,st,Y,wf,hb,hu,q⟩:=h
 refine⟨_,(aD (aX (i:=3) nd rfl (Or.inl rfl) (qK Zdk.1 R.mo Zdk.2 .nil aK (aO Zk Zs (dv 0)) (aA (dv 1) aC))) (aD (bH (aW dU (dv 3) bA (aU _)) (aF (aM (bO (aA bA (aA (dv 0) aC))))) aR) (aD (bH (aW dU (dv 3) bA (aU _)) (aF (aM (aQ Zq.1 R.mo rfl Zq.2.2.2 Zq.2.2.1 Zq.2.1 .nil aK (aA (dv 2) (aA (eG (aO Zk Zs (dv 0))) aC))))) aR) (aD (bH (aW dU (dv 3) bA (aU _)) (aF (aM (aQ ZbA.1 R.mo rfl ZbA.2.2.2 ZbA.2.2.1 ZbA.2.1 .nil aK (aA (dv 2) (aA (eG (aO Zk Zs (dv 0))) aC))))) aR) (aD (bD (bT Zd Zb1 ZcP.1 R.mo ZcP.2 .nil aK (aO Za Zm (dv 2)))) (aD (bH (cJ (eG (aO Zk Zs (dv 0)))) (aD (bD (bT Za ZaL ZaI.1 R.mo ZaI.2 .nil aK (dv 2))) (aF (aM (bO (aA bA (aA (cF Zaw Z1.1 R.mo rfl ZcY Z1.2 .nil aK (aA (bC (v:= .int 3) rfl ZbE ⟨_,rfl⟩) aC)) aC)))))) aR) (aD (bD (bN Za Zbs Zcd.1 R.mo Zcd.2 .nil aK (dv 2) (aA (aO Zk Zau (dv 0)) aC))) (aF (aM (bO (aA bA (aA (cF Zaw Z1.1 R.mo rfl ZcY Z1.2 .nil aK (aA (bC (v:= .int 3) rfl ZbE ⟨_,rfl⟩) aC)) aC)))))))))))),?_⟩
 obtain⟨sa,on,al⟩:=id st
 cases en:S.now with
 |free k=>rw[en]at B;cases B
 |speaks n ds k=>rw[en]at B;cases B
 |reads h=>rw[en]at B;cases B
 | tlS v c=>
  rw[en]at sa
  obtain⟨D,g,  e,Z,o1⟩:=sa
  obtain⟨C,dt,hC,e0⟩:=id Z
  have hc:=jF Zf Zc hC
  have hm:=oU Za2 ZaV hC
  rw[jM en]at q
  refine⟨D,_,.ref g,e,rfl,⟨C,dt,_,e0,hc.cls,hm,rfl⟩,g,S.vt,true,v,c,bt,rfl,Z,λH1 G T=>?_⟩
  have a0:nw≠g:=qJ "found" e e0 rfl rfl
  have N:=T _ _ a0 e
  have U:=a0Y Z T o1
  have f:=pJ bd Y U
  have o:cL (Or2 L M) H H1:=U.le λx d=> .inr d
  obtain⟨C1,r,a1,j⟩:=id G
  have a:=jF Zf Zc a1
  have a2:∀x,M x->H1 x≠none:=λx d=>by
   by_cases z:x=g
   ·rw[z,j];simp
   ·cases ex:H x with
    |none=>exact absurd ex (al x d)
    |some u=>rw[T x u z ex];simp
  have hw:=wf.now
  rw[en]at hw
  have a9:S.wt≠ []:=hw
  generalize bW S.vt true v c bt=an at q ⊢
  conv=>whnf
  refine bL (λy=>?_) (λy=>?_)
  ·have y1:an="more":=YK y
   rw[if_pos y1]at q
   refine⟨aL rfl,λt s=>?_⟩
   have I:=aJ s (.tup [.str "",.ref nw])
   refine q t _ (Stp.go (os':=M) bd Y U I aB ⟨rfl,rfl,rfl,rfl,rfl,rfl⟩ ⟨⟨D,g,I _ _ N,G.same I,o1⟩,on,λx d=>?_⟩ λx d=> .inl d)
   cases ex:H1 x with
   |none=>exact absurd ex (a2 x d)
   |some u=>rw[I x u ex];simp
  have y1:¬ an="more":=λz=>y (Yj z)
  rw[if_neg y1]at q
  conv=>whnf
  refine bL (λy=>?_) (λy=>?_)
  ·have y2:an="fault":=YK y
   rw[if_pos y2]at q
   exact⟨D,_,.ref g,N,rfl,C1,r,_,_,j,a.cls,a.n2,rfl,p,E,S,L,true,rfl,f,λt H' h=>q t H' (h.stp o f)⟩
  have y2:¬ an="fault":=λz=>y (Yj z)
  rw[if_neg y2]at q
  conv=>whnf
  refine bL (λy=>?_) (λy=>?_)
  ·have y3:an="refused":=YK y
   rw[if_pos y3]at q
   exact⟨D,_,.ref g,N,rfl,C1,r,_,_,j,a.cls,a.n2,rfl,p,E,S,L,true,rfl,f,λt H' h=>q t H' (h.stp o f)⟩
  have y3:¬ an="refused":=λz=>y (Yj z)
  rw[if_neg y3]at q
  obtain⟨dp,ch,wl,ul,O,ws,us,b⟩:=id f
  obtain⟨dc,ec⟩:=id b.et
  refine⟨dp,_,.ref O,b.e,rfl,⟨dc,_,ec,rfl⟩,O,S.tot,rfl,b.et,λH2 c2 V=>?_⟩
  obtain⟨b2,P⟩:=Bd.count b c2 V
  have F:∀x,M x->x≠O:=λx d z=>Y O b.ot (z▸d)
  have e2:H2 nw=some (.ins CA.intail D [("tail",.ref g),("found",.non)]):=(V _ (F _ on)).trans N
  have a3:=(V _ (F _ o1)).trans j
  generalize hn2:mvd S.tot (-1)=n2 at b2 q
  refine⟨D,_,.ref g,e2,rfl,C1,r,_,_,a3,a.cls,a.n2,rfl,?_⟩
  obtain⟨a4,b0,b4,b5,b6,b7,b9,a5⟩:=id b2
  refine⟨⟨a4,_,a5.e,rfl⟩,p,E,{ S with tot:=n2 },L,rfl,b2,a9,λH3 b3 k3=>?_⟩
  have a6:cL (Or2 L M) H H3:=λx u ex z=>k3 x u (P x u (o x u ex z) (z.imp_left λy w=>y (.inl w))) (z.imp_left λy w=>y (.inl w))
  refine λx A d a7 c0=>⟨x,A,_,rfl,aB,λH4 eH=>⟨rfl,aL rfl,λt' s=>?_⟩⟩
  have g4:Same H3 H4:=by rw[eH];exact bG d a7
  have e4:H4 x=some (.ins CA.rests A [("left",.int ((3:Nat):Int))]):=by rw[eH];exact aB
  clear eH
  have g5:=aJ s (.tup [.str "done",.ref x])
  refine q t' _ (Stp.go2 (b3.now rfl rfl rfl rfl rfl rfl) a6 (g4.trans g5) aB (gP (g5 _ _ e4) ⟨A,g5 _ _ e4⟩) (λy hy=>?_) ?_)
  ·have J:y=x:=hy
   rw[J];exact d
  ·exact λy hy=> .inl (.inl hy)
 | tlR n ds v c=>
  rw[en]at sa
  obtain⟨D,g,tf,df,e,Z,c1,a8,o1,o2⟩:=sa
  obtain⟨C,dt,hC,e0⟩:=id Z
  have hc:=jF Zf Zc hC
  have hm:=oU Za2 ZaV hC
  rw[iC en]at q
  refine⟨D,_,.ref g,e,rfl,⟨C,dt,_,e0,hc.cls,hm,rfl⟩,g,S.vt,false,v,c,bt,rfl,Z,λH1 G T=>?_⟩
  have a0:nw≠g:=qJ "found" e e0 rfl rfl
  have N:=T _ _ a0 e
  have U:=a0Y Z T o1
  have f:=pJ bd Y U
  have o:cL (Or2 L M) H H1:=U.le λx d=> .inr d
  obtain⟨C1,r,a1,j⟩:=id G
  have a:=jF Zf Zc a1
  have W:=U.tup c1
  have c3:df≠g:=λz=>by rw[z,e0]at a8;cases a8
  have X:=T _ _ c3 a8
  have a2:∀x,M x->H1 x≠none:=λx d=>by
   by_cases z:x=g
   ·rw[z,j];simp
   ·cases ex:H x with
    |none=>exact absurd ex (al x d)
    |some u=>rw[T x u z ex];simp
  generalize bW S.vt false v c bt=an at q ⊢
  conv=>whnf
  refine bL (λy=>?_) (λy=>?_)
  ·have y1:an="more":=YK y
   rw[if_pos y1]at q
   refine⟨aL rfl,λt s=>?_⟩
   have I:=aJ s (.tup [.str "",.ref nw])
   refine q t _ (Stp.go (os':=M) bd Y U I aB ⟨rfl,rfl,rfl,rfl,rfl,rfl⟩ ⟨⟨D,g,tf,df,I _ _ N,G.same I,I _ _ W,I _ _ X,o1,o2⟩,on,λx d=>?_⟩ λx d=> .inl d)
   cases ex:H1 x with
   |none=>exact absurd ex (a2 x d)
   |some u=>rw[I x u ex];simp
  have y1:¬ an="more":=λz=>y (Yj z)
  rw[if_neg y1]at q
  conv=>whnf
  refine bL (λy=>?_) (λy=>?_)
  ·have y2:an="fault":=YK y
   rw[if_pos y2]at q
   exact⟨D,_,.ref g,N,rfl,C1,r,_,_,j,a.cls,a.n2,rfl,p,E,S,L,false,rfl,f,λt H' h=>q t H' (h.stp o f)⟩
  have y2:¬ an="fault":=λz=>y (Yj z)
  rw[if_neg y2]at q
  conv=>whnf
  refine bL (λy=>?_) (λy=>?_)
  ·have y3:an="refused":=YK y
   rw[if_pos y3]at q
   exact⟨D,_,.ref g,N,rfl,C1,r,_,_,j,a.cls,a.n2,rfl,p,E,S,L,false,rfl,f,λt H' h=>q t H' (h.stp o f)⟩
  have y3:¬ an="refused":=λz=>y (Yj z)
  rw[if_neg y3]at q
  obtain⟨dp,ch,wl,ul,O,ws,us,b⟩:=id f
  obtain⟨dc,ec⟩:=id b.et
  refine⟨dp,_,.ref O,b.e,rfl,⟨dc,_,ec,rfl⟩,O,S.tot,rfl,b.et,λH2 c2 V=>?_⟩
  obtain⟨b2,P⟩:=Bd.count b c2 V
  have F:∀x,M x->x≠O:=λx d z=>Y O b.ot (z▸d)
  have e2:H2 nw=some (.ins CA.intail D [("tail",.ref g),("found",.ref tf)]):=(V _ (F _ on)).trans N
  have a3:=(V _ (F _ o1)).trans j
  generalize hn2:mvd S.tot (-1)=n2 at b2 q
  refine⟨D,_,.ref g,e2,rfl,C1,r,_,_,a3,a.cls,a.n2,rfl,?_⟩
  obtain⟨a4,b0,b4,b5,b6,b7,b9,a5⟩:=id b2
  refine⟨⟨a4,_,a5.e,rfl⟩,D,_,.ref tf,e2,rfl,p,E,{ S with tot:=n2 },L,tf,df,n,ds,rfl,b2,P.tup W,(V _ (F _ o2)).trans X,λz=>Y df z o2,hu,λH3 b3 k3=>?_⟩
  have a6:cL (Or2 L M) H H3:=λx u ex z=>k3 x u (P x u (o x u ex z) (z.imp_left λy w=>y (.inl w))) (z.imp_left λy w=>y (.inl w))
  refine λx A d a7 c0=>⟨x,A,_,rfl,aB,λH4 eH=>⟨rfl,aL rfl,λt' s=>?_⟩⟩
  have g4:Same H3 H4:=by rw[eH];exact bG d a7
  have e4:H4 x=some (.ins CA.rests A [("left",.int ((3:Nat):Int))]):=by rw[eH];exact aB
  clear eH
  have g5:=aJ s (.tup [.str "takes",.ref x])
  refine q t' _ (Stp.go2 (b3.now rfl rfl rfl rfl rfl rfl) a6 (g4.trans g5) aB (gP (g5 _ _ e4) ⟨A,g5 _ _ e4⟩) (λy hy=>?_) ?_)
  ·have J:y=x:=hy
   rw[J];exact d
  ·rintro y (hy | hy)
   ·exact .inl (.inl hy)
   ·have J:y=df:=hy
    rw[J];exact .inl (.inr o2)
 |flag l m=>rw[en]at B;cases B
 |settles m=>rw[en]at B;cases B
 |rests l=>rw[en]at B;cases B
 |off  =>rw[en]at B;cases B
variable (Zcu:MB P w K mg base (CX0) 3 Zd2 ZgI ["self"] (a2G CA))
include Zw Zh Zu Zk Zn ZD Zy Za ZaS Zb2 Zbx ZbS Zbr Za9 Zbi ZbT Zcl ZO ZcR Zci Zcy Zcc Zbk ZbK Zcz Zdc in
theorem Zj1 (f:Fun K "stance" "Post.stance" Zg4 Zd2 ZgI):type_of% Zcu:=by
 refine mbK ["self"] f λH Q r g h=>?_
 obtain⟨p,S,o,rfl,⟨c,s,i,bd,d,t,wf,j,al⟩,q⟩:=h
 refine⟨_,(aF (aM (a2U (R:=λC a=>(C=CA.free/\a=dD CA 0)\/(C=CA.speaks/\a=dD CA 1)\/(C=CA.reads/\a=dD CA 2)\/(C=CA.intail/\a=dD CA 3)\/(C=CA.flag/\a=dD CA 4)\/(C=CA.settles/\a=dD CA 5)\/(C=CA.rests/\a=dD CA 6)\/(C=CA.off/\a=dD CA 7)) (k:=2) (by
  rintro C a (⟨rfl,rfl⟩ | ⟨rfl,rfl⟩ | ⟨rfl,rfl⟩ | ⟨rfl,rfl⟩ | ⟨rfl,rfl⟩ | ⟨rfl,rfl⟩ | ⟨rfl,rfl⟩ | ⟨rfl,rfl⟩)
  ·exact⟨_,_,_,Zw,Zb2,ZcR.1.mono (by decide),ZcR.2⟩
  ·exact⟨_,_,_,Zh,Zbx,Zci.1.mono (by decide),Zci.2⟩
  ·exact⟨_,_,_,Zu,ZbS,Zcy.1.mono (by decide),Zcy.2⟩
  ·exact⟨_,_,_,Zk,Zbr,Zcc.1.mono (by decide),Zcc.2⟩
  ·exact⟨_,_,_,Zn,Za9,Zbk.1.mono (by decide),Zbk.2⟩
  ·exact⟨_,_,_,ZD,Zbi,ZbK.1.mono (by decide),ZbK.2⟩
  ·exact⟨_,_,_,Zy,ZbT,Zcz.1.mono (by decide),Zcz.2⟩
  ·exact⟨_,_,_,ZaS,Zcl,Zdc.1.mono (by decide),Zdc.2⟩) g.mo aK (aO Za ZO (dv 0))))),?_⟩
 obtain⟨l,u,v,w,x,y,z,b⟩:=id bd
 obtain⟨C,m,fs,n,⟨l1,l2,l3⟩,hd⟩:=d.disp
 exact⟨l,_,.ref c,b.e,rfl,C,m,_,_,n,l3,hd (dD CA),c,S,i,rfl,rfl,d,q⟩
variable (Zdg:MB P w K mg base (CX0) 4 ZeU Zig ["self"] (a5I CA))
include Zw Zh Zu Zk Zn ZD Zy Za ZaS Zay ZbU Zb4 ZbN Zbe Zbv Zb6 ZcI ZO Za5 ZcA ZcT Zcs ZbF Zcg ZcV ZdA in
theorem ZlG (f:Fun K "says" "Post.says" ZiA ZeU Zig):type_of% Zdg:=by
 refine mbK ["self"] f λH Q s g h=>?_
 obtain⟨p,S,o,rfl,⟨c,i,j,bd,d,t,wf,l,al⟩,q⟩:=h
 refine⟨_,(aF (aM (wJ (R:=λC a=>(C=CA.free/\a=cP CA 0)\/(C=CA.speaks/\a=cP CA 1)\/(C=CA.reads/\a=cP CA 2)\/(C=CA.intail/\a=cP CA 3)\/(C=CA.flag/\a=cP CA 4)\/(C=CA.settles/\a=cP CA 5)\/(C=CA.rests/\a=cP CA 6)\/(C=CA.off/\a=cP CA 7)) (k:=3) (by
  rintro C a (⟨rfl,rfl⟩ | ⟨rfl,rfl⟩ | ⟨rfl,rfl⟩ | ⟨rfl,rfl⟩ | ⟨rfl,rfl⟩ | ⟨rfl,rfl⟩ | ⟨rfl,rfl⟩ | ⟨rfl,rfl⟩)
  ·exact⟨_,_,_,Zw,Zay,Za5.1.mono (by decide),Za5.2⟩
  ·exact⟨_,_,_,Zh,ZbU,ZcA.1.mono (by decide),ZcA.2⟩
  ·exact⟨_,_,_,Zu,Zb4,ZcT.1.mono (by decide),ZcT.2⟩
  ·exact⟨_,_,_,Zk,ZbN,Zcs.1.mono (by decide),Zcs.2⟩
  ·exact⟨_,_,_,Zn,Zbe,ZbF.1.mono (by decide),ZbF.2⟩
  ·exact⟨_,_,_,ZD,Zbv,Zcg.1.mono (by decide),Zcg.2⟩
  ·exact⟨_,_,_,Zy,Zb6,ZcV.1.mono (by decide),ZcV.2⟩
  ·exact⟨_,_,_,ZaS,ZcI,ZdA.1.mono (by decide),ZdA.2⟩) g.mo aK (aO Za ZO (dv 0)) (aA (dv 0) aC)))),?_⟩
 obtain⟨m,u,v,w,x,y,z,b⟩:=id bd
 obtain⟨C,n,fs,r,⟨l1,l2,l3⟩,hd⟩:=d.disp
 exact⟨m,_,.ref c,b.e,rfl,C,n,_,_,r,l1,hd (cP CA),c,p,c,S,i,j,rfl,rfl,bd,d,wf,q⟩
variable (Zde:MB P w K mg base (CX0) 9 ZeS Zie ["self","bit"] (a5J CA))
include ZaB ZQ Zz Zw Zh Zu Zk Zn ZD Zy Za ZaS Zck ZbV Zb5 ZbO Zbf Zbw Zb7 ZcJ ZO ZdB ZbG Zch ZcW Zdb ZcU ZcB Zct in
theorem ZlE (N:Fun K "hear" "Post.hear" Ziy ZeS Zie):type_of% Zde:=by
 refine mbK ["self","bit","told"] N λH Q O P h=>?_
 obtain⟨p,S,o,j,rfl,⟨l,T,U,bd,J,V,wf,c,al⟩,L,W,q⟩:=h
 refine⟨_,(aD (aX (i:=2) O rfl (Or.inl rfl) (wJ (R:=λC a=>(C=CA.free/\a=cN CA 0)\/(C=CA.speaks/\a=cN CA 1)\/(C=CA.reads/\a=cN CA 2)\/(C=CA.intail/\a=cN CA 3)\/(C=CA.flag/\a=cN CA 4)\/(C=CA.settles/\a=cN CA 5)\/(C=CA.rests/\a=cN CA 6)\/(C=CA.off/\a=cN CA 7)) (k:=8) (by
  rintro C a (⟨rfl,rfl⟩ | ⟨rfl,rfl⟩ | ⟨rfl,rfl⟩ | ⟨rfl,rfl⟩ | ⟨rfl,rfl⟩ | ⟨rfl,rfl⟩ | ⟨rfl,rfl⟩ | ⟨rfl,rfl⟩)
  ·exact⟨_,_,_,Zw,Zck,Zdb.1.mono (by decide),Zdb.2⟩
  ·exact⟨_,_,_,Zh,ZbV,ZcB.1.mono (by decide),ZcB.2⟩
  ·exact⟨_,_,_,Zu,Zb5,ZcU.1.mono (by decide),ZcU.2⟩
  ·exact⟨_,_,_,Zk,ZbO,Zct.1.mono (by decide),Zct.2⟩
  ·exact⟨_,_,_,Zn,Zbf,ZbG.1.mono (by decide),ZbG.2⟩
  ·exact⟨_,_,_,ZD,Zbw,Zch.1.mono (by decide),Zch.2⟩
  ·exact⟨_,_,_,Zy,Zb7,ZcW.1.mono (by decide),ZcW.2⟩
  ·exact⟨_,_,_,ZaS,ZcJ,ZdB.1.mono (by decide),ZdB.2⟩) P.mo aK (aO Za ZO (dv 0)) (aA (dv 1) (aA (dv 0) aC)))) (aD (bR Za ZO (dv 0) (cC iB (dv 2) aG (λ_ _=>rfl))) (aF (aM (cC iB (dv 2) aG (λ_ _=>rfl)))))),?_⟩
 obtain⟨X,ch,wl,ul,ct,ws,us,b⟩:=id bd
 obtain⟨C,Y,fs,Z,⟨l1,l2,l3⟩,hd⟩:=J.disp
 refine⟨X,_,.ref l,b.e,rfl,C,Y,_,_,Z,l2,hd (cN CA),l,p,l,S,T,U,j,rfl,rfl,bd,J,V,wf,L,W,λt H' hs=>?_⟩
 obtain⟨d,m,n,g,M,s',r,mv⟩:=hs
 obtain⟨f,s,u,B,D,a0,a1,E⟩:=id M
 refine⟨_,_,Vc g,rfl,f,_,E.e,(show 6<1000 by decide),?_⟩
 obtain⟨F,G⟩:=a3F (A:=CA) wf L M s' r E
 have I:upd H' p (.ins CA.post f (pF s (aZ S j).2.vt u B D d)) t=some (.tup [.str (aZ S j).1,.ref d]):=by rw[aH (λz=>by rw[z,E.e]at g;cases g)];exact g
 exact⟨_,_,Vc I,rfl,q _ (Or2 m n) F ⟨λx v ex z=>G x v (mv.1 x v ex (z.imp_left λy w=>y (c x w))) (z.imp_left λy w=>y (by have w':x=p:=w;rw[w'];exact c p (.inl bd.op))),λx hx=>(mv.2 x hx).imp_left (c x)⟩⟩
variable (Zp:MB P w K mg base (CX0) 1 ZdH Zf3 ["self","post"] (a5C Zo CA ZbW))
include ZP Zag ZF Zb ZJ in
theorem Zjp (m:Fun K "post_at" "Rail.post_at" Zgj ZdH Zf3):type_of% Zp:=by
 refine mbK ["self","post"] m λH Q q s h=>?_
 obtain⟨r,R,o,w,k,rfl,a,n,e⟩:=h
 refine⟨_,(aD (bH (gH (wF xQ a3U aG (dv 1) (bI fD rfl ZF cU (aA (aO Zb ZJ (dv 0)) aC)))) (aF fB) aR) (aF (aM (cC jE (aO Zb ZJ (dv 0)) (dv 1) (λ_ _=>rfl))))),?_⟩
 conv=>whnf
 refine bL (λc=>?_) (λc=>?_)
 ·have b:0<=k:=dec_true c
  refine⟨w.dx,_,.ref w.PL,a.er,rfl,_,.inl (Vb a.ePL),?_⟩
  rw[Ya,a.pl]
  conv=>whnf
  refine bL (λd=>?_) (λd=>?_)
  ·have f:¬ k<((R.ps.length:Nat):Int):=λz=>by
    have g:(!decide (k<((R.ps.length:Nat):Int)))=true:=d
    rw[Yj z]at g
    cases g
   exact(e (λz=>f z.2) _ (Vd _))
  ·have f:k<((R.ps.length:Nat):Int):=YB λz=>d (by
    show (!decide (k<((R.ps.length:Nat):Int)))=true
    rw[Yl z];rfl)
   obtain⟨i,rfl⟩:=YQ b
   have p:i<w.ps.length:=by rw[a.pl];lia
   have l:w.ps[i]? =some w.ps[i]:=Yb p
   exact⟨w.dx,_,.ref w.PL,a.er,rfl,_,_,Vb a.ePL,gZ (j:=i) (by rw[Yo,l];rfl),n i _ rfl l⟩
 ·have b:¬ 0<=k:=dec_false c
  exact(e (λz=>b z.1) _ (Vd _))
variable (Zdi:MB P w K mg base (CX0) 9 ZeW Zii ["self","choices","votes"] (a5E Zo CA ZbW))
include ZcC ZP Zag ZeF Zjk ZF Zb ZeB ZJ Zah Zae Zav Zan ZT Zdf in
theorem ZlI (F0:Fun K "__init__" "Rail.__init__" ZiC ZeW Zii):type_of% Zdi:=by
 refine mbK ["self","choices","votes"] F0 λH Q nd hr h=>?_
 obtain⟨a,l,cl,v,e,rfl,ea,hC,hl,q1,q2⟩:=h
 refine⟨_,(aD (bH (gH (wF xQ xQ aG (bI fD rfl ZF cU (aA (dv 1) aC)) (bC (v:= .int 5) rfl ZeF ⟨_,rfl⟩))) (aF fB) aR) (aD (bR Zb ZJ (dv 0) (gU rfl (ix:=[2]) (cW (dv 1)) (λC fp s0 H0 at0=>fX) (λC fp s0 H0 at0=>(cF ZeB Zdf.1 hr.mo rfl Zjk Zdf.2 .nil aK (aA (dv 0) (aA (dv 1) aC)))) rfl rfl (by rfl) (show ([".0","choice","votes"]:List Str).Nodup by decide +kernel))) (aD (bR Zb Zah (dv 0) a6N) (aD (bR Zb Zae (dv 0) (cY aC)) (aD (bR Zb Zav (dv 0) (gU rfl (ix:=[]) (cW (dv 1)) (λC fp s0 H0 at0=>fX) (λC fp s0 H0 at0=>(cY aC)) rfl rfl (by rfl) (show ([".0","choice"]:List Str).Nodup by decide +kernel))) (aD (bR Zb Zan (dv 0) (gU rfl (ix:=[]) (cW (dv 1)) (λC fp s0 H0 at0=>fX) (λC fp s0 H0 at0=>(cY aC)) rfl rfl (by rfl) (show ([".0","choice"]:List Str).Nodup by decide +kernel))) (aF (bR Zb ZT (dv 0) (cY aC))))))))),?_⟩
 obtain⟨ts,n,tl,tt⟩:=hC
 have r:cl≠a:=λz=>by rw[z,ea]at n;cases n
 have a7:∀(i:Nat)(t:Addr)(m:Int×Int),ts[i]? =some t->e[i]? =some m->t≠a:=λi t m h1 h2 z=>by have:=tt i t m h1 h2;rw[z,ea]at this;cases this
 refine⟨_,.inl (Vb n),?_⟩
 rw[Ya,tl]
 conv=>whnf
 refine bL (λc=>?_) (λc=>?_)
 rotate_left
 ·have c1:¬ (1:Int)<=((e.length:Nat):Int):=dec_false c
  exact(q2 (λz=>c1 (by have:=z.1.1;lia)) _ λx u _ h=>h)
 have c1:(1:Int)<=((e.length:Nat):Int):=dec_true c
 conv=>whnf
 refine bL (λd=>?_) (λd=>?_)
 ·have d1:¬ ((e.length:Nat):Int)<=5:=λz=>by
   have d2:(!decide (((e.length:Nat):Int)<=5))=true:=d
   rw[Yj z]at d2
   cases d2
  exact(q2 (λz=>d1 (by have:=z.1.2;lia)) _ λx u _ h=>h)
 have d1:((e.length:Nat):Int)<=5:=YB λz=>d (by
  show (!decide (((e.length:Nat):Int)<=5))=true
  rw[Yl z];rfl)
 have l5:e.length<=5:=by lia
 refine⟨⟨_,Vb n⟩,dO (xs:=ts.map V.ref) (λi s y=>∃(g:List Addr)(op:Own),s=g.map V.ref/\g.length=i/\Mk0 CA H a y [(a,.ins Zo l [])] g ((e.take i).map λm=>S0 m.1.toNat m.2.toNat v.toNat) op/\∀m∈e.take i,a3P m.1 m.2 v) ?_ ?_ ?_ ?_ ?_⟩
 ·rintro i s y E ⟨g,op,rfl,w,_⟩
  rw[Ya]at E ⊢
  exact cD (by lia)
 ·exact⟨[],_,rfl,rfl,Mk0.base ea,λm hm=>by simp at hm⟩
 ·rintro i s y E ⟨g,op,rfl,w,mk,_⟩
  exact Vb (mk.kp _ _ r n)
 ·rintro i x s y hx ⟨g,op,rfl,a2,mk,D⟩
  rw[Yo]at hx
  obtain⟨t,ht,rfl⟩:=YG.mp hx
  have O:i<e.length:=by rw[<-tl];exact(Ye.mp ht).1
  have hm:e[i]? =some e[i]:=Yb O
  have et:=mk.kp _ _ (a7 i t _ ht hm) (tt i t _ ht hm)
  have tk:e.take (i+1)=e.take i++[e[i]]:=Yg O
  conv=>whnf
  refine λp dp w P b6=>⟨p,dp,t,_,_,v,rfl,aB,(by rw[aH (aP et w),aH (aP et P)];exact et),λok H5 o hP a8 hk=>⟨rfl,g++[p],Or2 op o,by rw[Yr];rfl,by rw[Yd,a2];rfl,?_,?_⟩,λno H5 hk=>?_⟩
  ·rw[tk,Yr]
   exact mk.post w P hP a8 hk
  ·rw [tk]
   intro m a9
   rcases YL.mp a9 with z | z
   ·exact D m z
   ·rw[Yk]at z
    rw[z];exact ok
  ·refine q2 (λz=>no (z.2 _ (YN O))) H5 λx u hx h=>?_
   have h':=mk.kp x u hx h
   exact hk x u (aP h' w) (by rw[aH (aP h' w),aH (aP h' P)];exact h')
 rintro s H1 ⟨g,op,rfl,a2,mk,D⟩ j b0
 rw[Ya,tl,Yi (Yc _)]at mk D
 have R:=Mk0.ins (L1:=[(a,.ins Zo l [])]) (L2:=[]) (v:= .lst (g.map V.ref)) (by simpa using mk) b0
 refine⟨l,_,R.cs.at_ 0 _ rfl,by decide,?_⟩
 have nI:∀{C d:Addr}{fs:List (Str×V)},¬ isT (.ins C d fs):=λ⟨_,z⟩=>by cases z
 have S:=R.put (v':= .ins Zo l (fJ "posts" (.ref j) [])) nI
 generalize upd (upd H1 j _) a _=H2 at S
 intro k b1
 have T:=Mk0.ins (L1:=(a,.ins Zo l [("posts",.ref j)])::(j,.lst (g.map V.ref))::[]) (L2:=[]) (v:= .dK []) S b1
 refine⟨l,_,T.cs.at_ 0 _ rfl,(show 1<1000 by decide),?_⟩
 have U:=T.put (v':= .ins Zo l (fJ "owners" (.ref k) [("posts",.ref j)])) nI
 generalize upd (upd H2 k _) a _=H3 at U
 refine⟨aL rfl,λq b2=>?_⟩
 have W:=Mk0.ins (L1:=(a,.ins Zo l [("posts",.ref j),("owners",.ref k)])::(j,.lst (g.map V.ref))::(k,.dK [])::[]) (L2:=[]) (v:= .lst []) U b2
 refine⟨l,_,W.cs.at_ 0 _ rfl,(show 2<1000 by decide),?_⟩
 have X:=W.put (v':= .ins Zo l (fJ "borne" (.ref q) [("posts",.ref j),("owners",.ref k)])) nI
 generalize upd (upd H3 q _) a _=H4 at X
 obtain⟨o3,a3⟩:∃o3:HO,o3= .ins Zo l [("posts",.ref j),("owners",.ref k),("borne",.ref q)]:=⟨_,rfl⟩
 have B:Mk0 CA H a H4 ((a,o3)::(j,.lst (g.map V.ref))::(k,.dK [])::(q,.lst [])::[]) g (e.map λm=>S0 m.1.toNat m.2.toNat v.toNat) op:=by rw[a3];exact X
 clear mk R S T U W X
 refine⟨⟨_,Vb (B.kp _ _ r n)⟩,dO (xs:=ts.map V.ref) (λi s y=>∃b:List Addr,s=b.map V.ref/\b.length=i/\Mk0 CA H a y ((a,o3)::(j,.lst (g.map V.ref))::(k,.dK [])::(q,.lst [])::lsC b (List.replicate i [])) g (e.map λm=>S0 m.1.toNat m.2.toNat v.toNat) op) ?_ ?_ ?_ ?_ ?_⟩
 ·rintro i s y E ⟨b,rfl,w,_⟩
  rw[Ya]at E ⊢
  exact cD (by lia)
 ·exact⟨[],rfl,rfl,B⟩
 ·rintro i s y E ⟨b,rfl,w,mk⟩
  exact Vb (mk.kp _ _ r n)
 ·rintro i x s y hx ⟨b,rfl,w,mk⟩
  conv=>whnf
  refine⟨aL rfl,λs1 Y=>⟨b++[s1],by rw[Yr];rfl,by rw[Yd,w];rfl,?_⟩⟩
  rw[wM i w]
  exact Mk0.ins (L1:=(a,o3)::(j,.lst (g.map V.ref))::(k,.dK [])::(q,.lst [])::lsC b (List.replicate i [])) (L2:=[]) (by rw[YH];exact mk) Y
 rintro s H5 ⟨b,rfl,a4,Z⟩ A b3
 rw[Ya,tl]at a4 Z
 have a0:=Mk0.ins (L1:=(a,o3)::(j,.lst (g.map V.ref))::(k,.dK [])::(q,.lst [])::[]) (L2:=lsC b (List.replicate e.length [])) (v:= .lst (b.map V.ref)) Z b3
 subst a3
 refine⟨l,_,a0.cs.at_ 0 _ rfl,(show 3<1000 by decide),?_⟩
 have a1:=a0.put (v':= .ins Zo l (fJ "sayings" (.ref A) [("posts",.ref j),("owners",.ref k),("borne",.ref q)])) nI
 generalize upd (upd H5 A _) a _=H6 at a1
 obtain⟨o4,a5⟩:∃o4:HO,o4= .ins Zo l [("posts",.ref j),("owners",.ref k),("borne",.ref q),("sayings",.ref A)]:=⟨_,rfl⟩
 have F:Mk0 CA H a H6 ((a,o4)::(j,.lst (g.map V.ref))::(k,.dK [])::(q,.lst [])::(A,.lst (b.map V.ref))::lsC b (List.replicate e.length [])) g (e.map λm=>S0 m.1.toNat m.2.toNat v.toNat) op:=by rw[a5];exact a1
 clear B Z a0 a1
 refine⟨⟨_,Vb (F.kp _ _ r n)⟩,dO (xs:=ts.map V.ref) (λi s y=>∃f:List Addr,s=f.map V.ref/\f.length=i/\Mk0 CA H a y ((a,o4)::(j,.lst (g.map V.ref))::(k,.dK [])::(q,.lst [])::(A,.lst (b.map V.ref))::(lsC b (List.replicate e.length [])++lsC f (List.replicate i []))) g (e.map λm=>S0 m.1.toNat m.2.toNat v.toNat) op) ?_ ?_ ?_ ?_ ?_⟩
 ·rintro i s y E ⟨f,rfl,w,_⟩
  rw[Ya]at E ⊢
  exact cD (by lia)
 ·exact⟨[],rfl,rfl,by rw[show lsC [] (List.replicate 0 [])= [] from rfl,YH];exact F⟩
 ·rintro i s y E ⟨f,rfl,w,mk⟩
  exact Vb (mk.kp _ _ r n)
 ·rintro i x s y hx ⟨f,rfl,w,mk⟩
  conv=>whnf
  refine⟨aL rfl,λs1 Y=>⟨f++[s1],by rw[Yr];rfl,by rw[Yd,w];rfl,?_⟩⟩
  rw[wM i w,<-YC]
  exact Mk0.ins (L1:=(a,o4)::(j,.lst (g.map V.ref))::(k,.dK [])::(q,.lst [])::(A,.lst (b.map V.ref))::(lsC b (List.replicate e.length [])++lsC f (List.replicate i []))) (L2:=[]) (by rw[YH];exact mk) Y
 rintro s H7 ⟨f,rfl,a6,G⟩ HE b4
 rw[Ya,tl]at a6 G
 have I:=Mk0.ins (L1:=(a,o4)::(j,.lst (g.map V.ref))::(k,.dK [])::(q,.lst [])::(A,.lst (b.map V.ref))::[]) (L2:=lsC b (List.replicate e.length [])++lsC f (List.replicate e.length [])) (v:= .lst (f.map V.ref)) G b4
 subst a5
 refine⟨l,_,I.cs.at_ 0 _ rfl,(show 4<1000 by decide),?_⟩
 have J:=I.put (v':= .ins Zo l (fJ "hearings" (.ref HE) [("posts",.ref j),("owners",.ref k),("borne",.ref q),("sayings",.ref A)])) nI
 generalize upd (upd H7 HE _) a _=H8 at J
 refine⟨aL rfl,λEV b5=>?_⟩
 have L:=Mk0.ins (L1:=(a,.ins Zo l [("posts",.ref j),("owners",.ref k),("borne",.ref q),("sayings",.ref A),("hearings",.ref HE)])::(j,.lst (g.map V.ref))::(k,.dK [])::(q,.lst [])::(A,.lst (b.map V.ref))::(HE,.lst (f.map V.ref))::[]) (L2:=lsC b (List.replicate e.length [])++lsC f (List.replicate e.length [])) (v:= .lst []) J b5
 refine⟨l,_,L.cs.at_ 0 _ rfl,(show 5<1000 by decide),?_⟩
 have M:=L.put (v':= .ins Zo l (fJ "happened" (.ref EV) [("posts",.ref j),("owners",.ref k),("borne",.ref q),("sayings",.ref A),("hearings",.ref HE)])) nI
 generalize upd (upd H8 EV _) a _=H9 at M
 have N:Mk0 CA H a H9 (kJ Zo a ⟨l,j,k,q,A,HE,EV,g,b,f, [],op⟩ (R0 e v)) g (R0 e v).ps op:=M
 obtain⟨o,hR,hn⟩:=N.fin a4 a6 l5
 exact q1 ⟨⟨by lia,l5⟩,D⟩ H9 o hR hn N.kp
variable (Zdh:MB P w K mg base (CX0) 9 ZeV Zih ["self","post","name","data"] (a5F K Zo CA ZbW Zdw Zlw))
include Zz ZP Zag Zft Za Zb Zj Zcm Zah ZB Zdd Zp in
theorem ZlH (Y:Fun K "hand" "Rail.hand" ZiB ZeV Zih):type_of% Zdh:=by
 refine mbK ["self","post","name","data","taker"] Y λH Q Z m h=>?_
 obtain⟨r,R,o,w,k,n,a,N,rfl,A,O,P,a0,B,q1,q2,q3⟩:=h
 refine⟨_,(aD (aX (i:=4) Z rfl (Or.inl rfl) (bN Zb Zj Zp.1 m.mo Zp.2 .nil aK (dv 0) (aA (dv 1) aC))) (aD (bD (aQ ZB.1 m.mo rfl ZB.2.2.2 ZB.2.2.1 ZB.2.1 .nil aK (aA (dv 2) (aA (dv 3) aC)))) (aD (bH (aW tQ (a6O (b2Q m) (aO Zb Zah (dv 0)) (dv 2) (dv 1) ⟨rfl,rfl,rfl,rfl⟩) (dv 1) (aU _)) (aF fB) aR) (aD (b0D (b2Q m) (aO Zb Zah (dv 0)) (dv 2) (dv 1) rfl) (aF (bD (bN Za Zcm Zdd.1 m.mo Zdd.2 .nil aK (dv 4) (aA (dv 2) (aA (dv 3) aC))))))))),?_⟩
 refine⟨⟨w.dx,_,A.er,rfl⟩,r,R,o,w,k,rfl,A,λi p e T=>?_,λq s g=>q1 q s g⟩
 subst e
 obtain⟨S,oi,eS,hP,le,U⟩:=A.step T
 have a1:i<R.ps.length:=(Ye.mp eS).1
 refine⟨n,a,N,rfl,O,P,λok s g=>?_,λq s g=>q2 ⟨by lia,by lia⟩ q s g⟩
 obtain⟨j,ej,q4,q5⟩:=q3 i S rfl eS ok
 have f:=A.same g
 refine⟨w.dx,_,.ref w.OW,f.er,rfl,w.OW,rfl,.inl ⟨_,.inl f.eOW⟩,_,.inl ⟨_,.inl n,.inl f.eOW,rfl,rfl⟩,?_⟩
 rw[ej]
 conv=>whnf
 refine bL (λc=>?_) (λc=>?_)
 ·have C:¬ j=((i:Nat):Int):=λz=>by
   have V:(!decide (j=((i:Nat):Int)))=true:=c
   rw[Yj z]at V
   cases V
  exact(q4 C _ g)
 have C:j=((i:Nat):Int):=YB λz=>c (by
  show (!decide (j=((i:Nat):Int)))=true
  rw[Yl z];rfl)
 refine⟨w.dx,_,.ref w.OW,f.er,rfl,w.OW,_,rfl,.inl ⟨_,.inl n,f.eOW,rfl,cD (by lia),rfl⟩,?_⟩
 obtain⟨t,W⟩:=f.put (k:=2) (R':={ R with ow:=putK R.ow (.inl n) (.int ((i:Nat):Int)) }) (w':=w) rfl b7P rfl rfl rfl rfl rfl rfl rfl rfl f.ev
 have u:=a9B (v:= .dK (putK R.ow (.inl n) (.int ((i:Nat):Int)))) (g.seq O) f.eOW
 generalize upd s w.OW _=H2 at t W u
 obtain⟨X,a2,D,x,a3,l⟩:=t.step T
 have ee:X=S:=Yp (D.symm.trans eS)
 subst ee
 obtain⟨dq,ch,a4,a5,ul,cc,nw,ep⟩:=x.cell
 obtain⟨E,F,G,y⟩:=x.hand
 refine⟨⟨dq,_,ep,rfl⟩,p,E,X,F,n,a,N,rfl,G,u,P,B _ (Yu eS),λ_ I d hd b k=>?_,λq=>absurd ok q⟩
 obtain⟨o3,J,L⟩:=y ok I d hd b k
 obtain⟨o',a6,M,m3⟩:=l I o3 _ L J
 exact q5 C I o' ⟨_,M⟩ ((Mv.of g).trans (W.trans m3))
variable (Zbm:MB P w K mg base (CX0) 12 Zc5 Zfq ["self","hearing"] (a5D K Zo CA b6Y))
include ZaB ZQ Zz Zag Z6 ZF Zle Ze4 Za Zb Zco Zcn ZJ Zae Zav Zan ZT Zdg Zde in
theorem Zh5 (F0:Fun K "make_turn" "Rail.make_turn" Zfx Zc5 Zfq):type_of% Zbm:=by
 refine mbK ["self","hearing","said","bit","heard","post","own","word"] F0 λH Q nd hr h=>?_
 obtain⟨r,R,o,w,f,B,rfl,v,ne,sz,q⟩:=h
 refine⟨_,(aD (iU (j:=2) nd rfl rfl rfl (ix:=[]) (cW (aO Zb ZJ (dv 0))) (λC fp s0 H0 at0=>fX) (λC fp s0 H0 at0=>(bT Za Zco Zdg.1 hr.mo Zdg.2 .nil aK (dv 0))) rfl rfl (by rfl) (show ([".0","post"]:List Str).Nodup by decide +kernel)) (aD (aX (i:=3) nd rfl (Or.inr rfl) (bI (b2Y rfl) rfl Zle b5X (aA (dv 2) aC))) (aD (iU (j:=4) nd rfl rfl rfl (ix:=[1,0,3]) (fU rfl Z6 (aA (bI fD rfl ZF cU (aA (aO Zb ZJ (dv 0)) aC)) aC)) (λC fp s0 H0 at0=>fX) (λC fp s0 H0 at0=>(a6Q (K:=K) a5T hr.mo (pv 1) (aA (dv 0) (aA (bI (a3V (K:=K)) rfl ZF cU (aA (aO Zb Zae (dv 2)) aC)) (aA (dv 3) aC))))) rfl rfl (by rfl) (show ([".0","post","hearing","self","bit"]:List Str).Nodup by decide +kernel)) (aD (fQ YW rfl (b0V rfl Ze4 (aA (aO Zb ZJ (dv 0)) aC)) (mg2 (b4C rfl (vZ (dN (i:=5) nd rfl (Or.inl rfl)) (vZ (dN (i:=6) nd rfl (Or.inl rfl)) b0I)))) (aD (bD (dC (cC jE (aO Zb Zav (dv 0)) (dv 5) (λ_ _=>rfl)) (aA (cC jE (dv 2) (dv 5) (λ_ _=>rfl)) aC))) (aD (bD (dC (cC jE (aO Zb Zan (dv 0)) (dv 5) (λ_ _=>rfl)) (aA (cC jE (dv 4) (dv 5) (λ_ _=>rfl)) aC))) (aD (aX (i:=7) nd rfl (Or.inl rfl) (bN Za Zcn Zde.1 hr.mo Zde.2 .nil aK (dv 6) (aA (cC jE (dv 4) (dv 5) (λ_ _=>rfl)) aC))) (aF (bH (aW tQ (dv 7) bA (aU _)) (aF (bD (dC (aO Zb ZT (dv 0)) (aA (bO (aA (bI fD rfl ZF cU (aA (aO Zb Zae (dv 0)) aC)) (aA (dv 5) (aA (dv 7) aC)))) aC)))) aR)))))) (aD (bD (dC (aO Zb Zae (dv 0)) (aA (dv 3) aC))) (aF (aM (dv 3)))))))),?_⟩
 refine⟨w.dx,_,.ref w.PL,v.er,rfl,⟨_,Vb v.ePL⟩,dO (xs:=w.ps.map V.ref) (λi N l=>Same H l/\N=((R.ps.take i).map bB).map V.int) ?_ ?_ ?_ ?_ ?_⟩
 ·rintro i N l P ⟨g,rfl⟩
  rw[Ya,Ya,Yq]
  have:=v.lp
  exact cD (by lia)
 ·exact⟨Vd _,rfl⟩
 ·rintro i N l P ⟨g,rfl⟩
  exact Vb (g _ _ v.ePL)
 ·rintro i x N l hx ⟨g,rfl⟩
  rw[Yo]at hx
  obtain⟨p,hp,rfl⟩:=YG.mp hx
  obtain⟨S,oi,eS,hP,_⟩:=(v.same g).step hp
  obtain⟨dq,ch,c4,c5,ul,cc,nw,ep⟩:=hP.cell
  obtain⟨D,T⟩:=Ye.mp eS
  have tk:R.ps.take (i+1)=R.ps.take i++[S]:=by rw[Yg D,T]
  conv=>whnf
  refine⟨⟨dq,_,ep,rfl⟩,p,S,oi,rfl,hP,g,?_⟩
  rw[tk,Yr,Yr]
  rfl
 rintro N H1 ⟨g1,rfl⟩ U W
 rw[Ya,v.pl,Yi (Yc _)]
 generalize eU:upd H1 U _=H2
 have g2:=nS W eU
 have a2:=nE eU
 clear eU
 refine⟨_,Vb a2,λz=>ne (by simpa using z),λb bm bl=>?_⟩
 obtain⟨hh,c6,q⟩:=q b ⟨bm,bl⟩
 have I:=v.same (g1.trans g2)
 have lp:=v.lp
 refine⟨w.dx,_,.ref w.PL,I.er,rfl,_,.inl (Vb I.ePL),?_⟩
 rw[Ya,I.pl]
 refine⟨⟨by lia,by lia⟩,?_⟩
 rw[YJ]
 refine jZ (lo:=0) (n:=R.ps.length) (λi N l=>Same H2 l/\N=((List.range i).map (B b)).map V.int) ?_ ?_ ?_ ?_
 ·rintro i N l P ⟨g,rfl⟩
  rw[Ya,Ya,Y2]
  exact cD (by lia)
 ·exact⟨Vd _,rfl⟩
 ·rintro i N l P ⟨g,rfl⟩
  have s:=I.same g
  obtain⟨f1,f2⟩:=hh i P l ((g1.trans g2).trans g)
  conv=>whnf
  rw[XG]
  refine⟨f,rfl,f1,w.dx,_,.ref w.BO,s.er,rfl,_,.inl (Vb s.eBO),f1,?_⟩
  rw[Ya]
  refine f2 _ λH4 g4=>⟨g.trans g4,?_⟩
  rw[List.range_succ,Yr,Yr]
  rfl
 rintro N H3 ⟨g3,rfl⟩ hd J
 have a3:=g3 _ _ a2
 have s:=(I.same g3).same (aJ J (.lst (((List.range R.ps.length).map (B b)).map V.int)))
 have L:=aJ J (.lst (((List.range R.ps.length).map (B b)).map V.int)) _ _ a3
 have O:=aB (H:=H3) (a:=hd) (o:= .lst (((List.range R.ps.length).map (B b)).map V.int))
 have gs:Same H (upd H3 hd (.lst (((List.range R.ps.length).map (B b)).map V.int))):=((g1.trans g2).trans g3).trans (aJ J _)
 have a4:¬ o U:=λz=>by
  have:=v.al U z
  cases e:H U with
  |none=>exact this e
  |some u=>rw[g1 _ _ e]at W;cases W
 have a5:¬ o hd:=λz=>by
  have:=v.al hd z
  cases e:H hd with
  |none=>exact this e
  |some u=>rw[g3 _ _ ((g1.trans g2) _ _ e)]at J;cases J
 generalize upd H3 hd _=H4 at s L O gs
 obtain⟨d,a6⟩:∃d,d=(List.range R.ps.length).map (B b):=⟨_,rfl⟩
 rw[<-a6]at O q
 have a7:∀i,i<R.ps.length->d[i]? =some (B b i):=λi P=>by rw[a6,Yo,X3 P];rfl
 refine⟨w.dx,_,.ref w.PL,s.er,rfl,⟨_,Vb s.ePL⟩,a7V (xs:=w.ps.map V.ref) (a:=w.PL) (λi σ l=>∃(o' op:Own)(evs:List V)(x5 x6 x7:Option V),σ= [some (.ref r),some (.ref f),some (.ref U),some (.int b),some (.ref hd),x5,x6,x7]/\cG Zo CA l r (aY R d i) o' { w with op:=op,evs:=evs }/\Mv o H4 o' l) ⟨o,w.op,w.evs,_,_,_,rfl,s,Mv.refl⟩ ?_ ?_ ?_⟩
 ·rintro i σ l P ⟨o',op,evs,x5,x6,x7,rfl,Z,m⟩
  exact Vb Z.ePL
 ·rintro i x σ l pr hx ⟨o',op,evs,x5,x6,x7,rfl,Z,m⟩ a8
  rw[Yo]at hx
  obtain⟨p,hp,rfl⟩:=YG.mp hx
  have D:i<R.ps.length:=by rw[<-v.pl];exact(Ye.mp hp).1
  obtain⟨h1,h2,h3,h4,h5,h6,h7⟩:=jN R d i
  obtain⟨c7,a9,b0⟩:=h6 i (Yc _)
  have d6:=v.l2
  have d7:=v.l4
  have eS:R.ps[i]? =some R.ps[i]:=Yb D
  have eX:R.sa[i]? =some (R.sa[i]'(by lia)):=Yb (by lia)
  have eY:R.he[i]? =some (R.he[i]'(by lia)):=Yb (by lia)
  have zX:=sz.sa _ (YN (show i<R.sa.length by lia))
  have zY:=sz.he _ (YN (show i<R.he.length by lia))
  have zU:=sz.up _ (YN D)
  have zE:=sz.ev
  have zB:=sz.bo
  have A:=gM eS (a7 i D) eX eY
  generalize R.ps[i]=S at eS A zU
  generalize R.sa[i]'(by lia)=X at eX A zX
  generalize R.he[i]'(by lia)=Y at eY A zY
  have E:=Z.same (aJ a8 (.tup [.int ((i:Nat):Int),.ref p]))
  have mp:=m.trans (Mv.of (aJ a8 (.tup [.int ((i:Nat):Int),.ref p])))
  refine⟨_,_,Vc aB,?_⟩
  generalize upd l pr _=H5 at E mp
  obtain⟨a1,b2,c8⟩:=E.sa_at (a9.trans eX)
  have b3:=E.cs.at_ _ _ c8
  have ks:∀{o1:Own}{H1:Hp},Mv o H4 o1 H1->¬ o1 U/\¬ o1 hd/\H1 U=some (.lst ((R.ps.map bB).map V.int))/\H1 hd=some (.lst (d.map V.int)):=λmm=>⟨λz=>(mm.2 _ z).elim a4 λy=>(by rw[L]at y;cases y),λz=>(mm.2 _ z).elim a5 λy=>(by rw[O]at y;cases y),mm.1 _ _ L (.inl a4),mm.1 _ _ O (.inl a5)⟩
  have c9:atI ((R.ps.map bB).map V.int) ((i:Nat):Int)=some (.int (bB S)):=gZ (by rw[Yo,Yo,eS];rfl)
  have b4:atI (d.map V.int) ((i:Nat):Int)=some (.int (B b i)):=gZ (by rw[Yo,a7 i D];rfl)
  refine⟨w.dx,_,.ref w.SA,E.er,rfl,_,.ref a1,Vb E.eSA,gZ (by rw[Yo,b2];rfl),⟨_,Vb b3⟩,_,_,Vb (ks mp).2.2.1,c9,_,b3,cD (by rw[Ya];lia),?_⟩
  obtain⟨k,m6⟩:=E.say (b:=bB S) (a9.trans eX) b2
  have mq:=mp.trans m6
  generalize upd H5 a1 _=H6 at k m6 mq
  obtain⟨b1,b5,d0⟩:=k.he_at (i:=i) (xs:=Y) (b0.trans eY)
  have b6:=k.cs.at_ _ _ d0
  refine⟨w.dx,_,.ref w.HE,k.er,rfl,_,.ref b1,Vb k.eHE,gZ (by rw[Yo,b5];rfl),⟨_,Vb b6⟩,_,_,Vb (ks mq).2.2.2,b4,_,b6,cD (by rw[Ya];lia),?_⟩
  obtain⟨b7,m7⟩:=k.hrd (i:=i) (xs:=Y) (b:=B b i) (b0.trans eY) b5
  have mr:=mq.trans m7
  generalize upd H6 b1 _=H7 at b7 m7 mr
  obtain⟨S',oi,T,hP,_,b9⟩:=b7.step hp
  have es:S'=S:=Yp (T.symm.trans (c7.trans eS))
  subst es
  obtain⟨dq,ch,c4,c5,ul,cc,nw,ep⟩:=hP.cell
  refine⟨⟨dq,_,ep,rfl⟩,_,_,Vb (ks mr).2.2.2,b4,p,S',oi,_,rfl,hP,c6 i,zU,λH8 d1 d2 m8=>?_⟩
  obtain⟨o8,c0,F,d3⟩:=b9 H8 d1 _ m8 d2
  have ms:=mr.trans d3
  have eR:aY R d (i+1)={ ({ aY R d i with ps:=(aY R d i).ps.set i (aZ S' (B b i)).2,sa:=(aY R d i).sa.set i (X++[bB S']),he:=(aY R d i).he.set i (Y++[B b i]) }:RS) with ev:=(aY R d i).ev++evt R.bo.length i (aZ S' (B b i)).1 }:=A
  obtain⟨G,d4⟩:∃G,G=(aZ S' (B b i)).1:=⟨_,rfl⟩
  rw[<-d4]at eR ⊢
  conv=>whnf
  refine bL (λc=>?_) (λc=>?_)
  ·have c1:G≠"":=λz=>by
    have c2:(!decide (G=""))=true:=c
    rw[Yj z]at c2
    cases c2
   refine⟨w.dx,_,.ref w.EV,F.er,rfl,⟨_,Vb F.eEV⟩,w.dx,_,.ref w.BO,F.er,rfl,_,.inl (Vb F.eBO),?_⟩
   refine⟨aL rfl,λt ht=>?_⟩
   have a0:=F.same (aJ ht (.tup [.int ((((aY R d i).bo.map V.int).length:Nat):Int),.int ((i:Nat):Int),.str G]))
   have mt:=ms.trans (Mv.of (aJ ht (.tup [.int ((((aY R d i).bo.map V.int).length:Nat):Int),.int ((i:Nat):Int),.str G])))
   have et:=aB (H:=H8) (a:=t) (o:= .tup [.int ((((aY R d i).bo.map V.int).length:Nat):Int),.int ((i:Nat):Int),.str G])
   refine⟨_,a0.eEV,b9S (by have:=a0.ev.len;have d8:evs.length=(aY R d i).ev.length:=this;show evs.length<=9000;lia),?_⟩
   rw[Ya,h1]at et
   obtain⟨c3,d5⟩:=a0.happen (e:=(R.bo.length,i,G)) (by rw[Ya,h1];exact et)
   refine⟨o8,c0,evs++[.ref t],_,_,_,rfl,?_,mt.trans d5⟩
   rw[eR,show evt R.bo.length i G= [(R.bo.length,i,G)] from if_neg c1]
   exact c3
  ·have c1:G="":=YB λz=>c (by
    show (!decide (G=""))=true
    rw[Yl z];rfl)
   refine⟨o8,c0,evs,_,_,_,rfl,?_,ms⟩
   rw[eR,show evt R.bo.length i G= [] from if_pos c1,YH]
   exact F
 rintro σ H5 ⟨o5,op,evs,x5,x6,x7,rfl,M,m5⟩
 rw[Ya,v.pl]at M
 have zB:=sz.bo
 obtain⟨h1,_⟩:=jN R d R.ps.length
 refine⟨w.dx,_,.ref w.BO,M.er,rfl,⟨_,Vb M.eBO⟩,_,M.eBO,cD (by rw[Ya,h1];lia),?_⟩
 obtain⟨k,m6⟩:=M.bear (b:=b)
 refine q _ o5 ⟨{ w with op:=op,evs:=evs },?_⟩ ((Mv.of gs).trans (m5.trans m6))
 have eT:kY R d b={ aY R d R.ps.length with bo:=(aY R d R.ps.length).bo++[b] }:=by unfold kY;rw[h1]
 rw[eT]
 exact k
variable (Zdj:MB P w K mg base (CX0) 13 ZeX ZfX ["self","wrong_posts"] (a5B Zo CA ZbW 965))
include ZP Zag ZaQ Zb Zj Zbb Zek Zel hc_Rail_turn Zp Zbm in
theorem ZlJ (F0:Fun K "turn" "Rail.turn" Zdn ZeX ZfX):type_of% Zdj:=by
 refine mbM ["self","wrong_posts","wrong","post"] F0 λD=>F0.okL hc_Rail_turn D (λvs H Q E h=>?_) λA Z s H vs Q E hr h=>?_
 ·obtain⟨r,R,o,w,wl,j,ox,rfl,_⟩:=h
  rfl
 obtain⟨r,R,o,w,wl,j,ox,rfl,a0,a7,hR,ne,sz,hT,a1,q1,q2⟩:=h
 have nd:=D.nd
 refine⟨_,(a0M (aX (i:=2) nd rfl (Or.inr rfl) (bZ (dF (aW b6I (dv 1) uB (aU _)) (cY aC) (gJ iR rfl ZaQ kE (aA (dv 1) aC))))) (a0M (fQ PassesOwn.leaving rfl (cW (dv 2)) (dN (i:=3) nd rfl (Or.inl rfl)) (aF (bD (bN Zb Zj Zp.1 hr.mo Zp.2 .nil aK (dv 0) (aA (dv 3) aC))))) (b4D (P:=965) (bm:=4) (iq:=iqT) (y:="wrong") (iy:=2) (Q:=Q) (dv 0) Zb Zbb Zbm.1 hr.mo Zbm.2 rfl Zel Zek (λc hc=>clT hc) rfl rfl rfl rfl rfl))),?_⟩
 refine⟨λv n=>∃l,v= .ref l/\H l=none/\n=upd H l (.lst (j.map V.int)),?_,?_⟩
 ·conv=>whnf
  exact⟨_,.inl (Vb a0),λl hl=>⟨l,rfl,hl,rfl⟩⟩
 rintro v H1 ⟨l,rfl,hl,eH⟩
 have F:Same H H1:=by rw[eH];exact aJ hl _
 have G:H1 l=some (.lst (j.map V.int)):=by rw[eH];exact aB
 clear eH
 have g:=hR.same F
 have I:=hT.same F
 have nl:∀i:Nat,i<R.ps.length->∃p,w.ps[i]? =some p:=λi hi=>⟨_,Yb (by rw[hR.pl];exact hi)⟩
 refine⟨⟨_,Vb G⟩,iD (xs:=j.map V.int) (λi S n=>(∃x,S= [some (.ref r),some (.ref wl),some (.ref l),x])/\n=H1/\∀x∈j.take i,0<=x/\x<((R.ps.length:Nat):Int)) ⟨⟨_,rfl⟩,rfl,λx hx=>by simp at hx⟩ ?_ ?_ ?_⟩
 ·rintro i S n hi ⟨_,rfl,_⟩
  exact Vb G
 ·rintro i v S n hv ⟨⟨x,rfl⟩,rfl,a⟩
  rw[Yo]at hv
  obtain⟨k,hk,rfl⟩:=YG.mp hv
  obtain⟨J,ek⟩:=Ye.mp hk
  refine⟨⟨w.dx,_,g.er,rfl⟩,r,R,o,w,k,rfl,g,λi' p e hp=>⟨⟨_,rfl⟩,rfl,?_⟩,λno T g2=>q2 (λz=>no (z k (ek▸YN J))) T (F.trans g2)⟩
  have a8:i'<R.ps.length:=by rw[<-hR.pl];exact(Ye.mp hp).1
  rw[Yg J]
  intro z hz
  rcases YL.mp hz with hz | hz
  ·exact a z hz
  ·rw[Yk,ek,e]at hz
   rw[hz]
   exact⟨by lia,by lia⟩
 rintro S T ⟨⟨x,rfl⟩,rfl,a⟩
 rw[Ya,Yi (Yc _)]at a
 refine⟨r,w.dx,_,.ref l,rfl,g.er,rfl,rfl,I.tabP,λf c C U hf hc t a2 a3 L B m=>?_⟩
 obtain⟨M,qs,W,t2,t3⟩:=I
 have nP:¬ o 965:=λz=>M (.inl z)
 have a4:∀x v,T x=some v->(o x\/isT v)->x≠965:=λx v e z y=>by
  rcases z with z | z
  ·exact nP (y▸z)
  ·rw[y,W]at e;cases e;exact b2L z
 have N:cG Zo CA U r R o w:=g.move λx v e z=>t x v (a4 x v e z) e
 have lP:l≠965:=λy=>by rw[y,W]at G;cases G
 have hL:xO U f j:=⟨c,C,l,m,L,B,t l _ lP G⟩
 have nc:¬ Or2 o ox C:=by
  rcases a3 with z | ⟨O,X,_,Y⟩
  ·rintro (y | y)
   ·exact g.al C y z
   ·cases e:H C with
    |none=>exact a1 C y e
    |some u=>rw[F _ _ e]at z;cases z
  ·rw[W]at X
   cases X
   rcases t3 with t3 | ⟨d,d1,d2,d3⟩
   ·cases t3.symm.trans Y
   ·cases (show codeAmong a6H _=_ from Y).symm.trans d1;exact d3
 have a5:kI 965 (Or2 o ox) U:=by
  obtain⟨O,X,u2,Y⟩:=a2
  exact⟨M,O,X,u2,.inr ⟨C,Y,L,nc⟩⟩
 have m3:MvP 965 o T o U:=⟨λx v e z=>t x v (λy=>z.elim (λz=>z (.inr y)) λz=>(by rw[y,W]at e;cases e;exact b2L z)) e,λx hx=> .inl hx⟩
 refine⟨r,R,o,w,f,λb i=>wrB j ((i:Nat):Int) b,rfl,N,ne,sz,λb hb=>⟨λi hi H4 g4=>⟨FnE.lam (g4 _ _ m),λQ1 k=>⟨j,_,_,_,rfl,hL.same g4,k⟩⟩,λi=>b6M (N.says hb.1),λn o' a6 m'=>q1 a b n o' hb a6 (a5.mv2 m') ?_⟩⟩
 refine(Mv.of F).trans (m3.trans ⟨λx v e z=>m'.1 x v e (z.imp_left λy q=>y (.inl q)),λx hx=>?_⟩)
 rcases hx with hx | hx
 ·exact(m'.2 x hx).imp .inl id
 ·exact .inl (.inr hx)
variable (Zcv:MB P w K mg base (CX0) 1 Zd3 ZgJ ["self"] (xY Zo CA))
include Zag ZaQ Zb ZT in
theorem Zj2 (b:Fun K "events" "Rail.events" Zg5 Zd3 ZgJ):type_of% Zcv:=by
 refine mbK ["self"] b λH Q c d h=>?_
 obtain⟨r,R,o,w,rfl,a,q⟩:=h
 refine⟨_,(aF (aM (gJ iR rfl ZaQ kE (aA (aO Zb ZT (dv 0)) aC)))),?_⟩
 exact⟨w.dx,_,.ref w.EV,a.er,rfl,_,.inl (Vb a.eEV),q⟩
variable (Zcw:MB P w K mg base (CX0) 9 Zd5 ZgL ["self","post"] (tY Zo CA ZbW b1H))
include ZP Zag Za Zb Zj ZbP Zcu Zp in
theorem Zj4 (d:Fun K "stance" "Rail.stance" Zg7 Zd5 ZgL):type_of% Zcw:=by
 refine mbK ["self","post"] d λH Q z c h=>?_
 obtain⟨r,R,o,w,k,rfl,a,f,g⟩:=h
 refine⟨_,(aF (aM (bT Za ZbP Zcu.1 c.mo Zcu.2 .nil aK (bN Zb Zj Zp.1 c.mo Zp.2 .nil aK (dv 0) (aA (dv 1) aC))))),?_⟩
 refine⟨⟨w.dx,_,a.er,rfl⟩,r,R,o,w,k,rfl,a,λi p e j=>?_,λl m n=>g l m n⟩
 obtain⟨S,s,eS,b,_⟩:=a.step j
 have q:=f i S e eS
 obtain⟨t,A,u,v,B,cc,C,x⟩:=b.cell
 obtain⟨y,D,bd⟩:=b.bd
 exact⟨⟨t,_,x,rfl⟩,p,S,s,rfl,b,q⟩
variable (ZaR:MB P w K mg base (CX0) 9 Zer Zhw ["self","post"] (tY Zo CA ZbW b5K))
include ZP Zag Za Zb Zj Zb3 ZcS Zp in
theorem ZkU (f:Fun K "waits" "Rail.waits" ZhO Zer Zhw):type_of% ZaR:=by
 refine mbK ["self","post"] f λH Q z c h=>?_
 obtain⟨r,R,o,w,k,rfl,a,g,j⟩:=h
 refine⟨_,(aF (aM (bT Za Zb3 ZcS.1 c.mo ZcS.2 .nil aK (bN Zb Zj Zp.1 c.mo Zp.2 .nil aK (dv 0) (aA (dv 1) aC))))),?_⟩
 refine⟨⟨w.dx,_,a.er,rfl⟩,r,R,o,w,k,rfl,a,λi p e l=>?_,λm n s=>j m n s⟩
 obtain⟨S,A,eS,d,_⟩:=a.step l
 have q:=g i S e eS
 obtain⟨t,B,u,v,C,cc,D,x⟩:=d.cell
 obtain⟨b,y,bd⟩:=d.bd
 exact⟨⟨t,_,x,rfl⟩,p,b,S,y,rfl,bd,q⟩
variable (ZdD:MB P w K mg base (CX0) 9 Zfg Zje ["self","post"] (tY Zo CA ZbW c0M))
include ZP Zag Za Zb Zj ZcK ZdC Zp in
theorem Zmp (f:Fun K "got" "Rail.got" ZjB Zfg Zje):type_of% ZdD:=by
 refine mbK ["self","post"] f λH Q z c h=>?_
 obtain⟨r,R,o,w,k,rfl,a,g,j⟩:=h
 refine⟨_,(aF (aM (bT Za ZcK ZdC.1 c.mo ZdC.2 .nil aK (bN Zb Zj Zp.1 c.mo Zp.2 .nil aK (dv 0) (aA (dv 1) aC))))),?_⟩
 refine⟨⟨w.dx,_,a.er,rfl⟩,r,R,o,w,k,rfl,a,λi p e l=>?_,λm n s=>j m n s⟩
 obtain⟨S,A,eS,d,_⟩:=a.step l
 have q:=g i S e eS
 obtain⟨t,B,u,v,C,cc,D,x⟩:=d.cell
 obtain⟨b,y,bd⟩:=d.bd
 exact⟨⟨t,_,x,rfl⟩,p,b,S,y,rfl,bd,q⟩
variable (Zaj:MB P w K mg base (CX0) 9 Zd4 ZgK ["self","post"] (tY Zo CA ZbW (gB 18)))
include ZP Zag Za Zb Zam Zj ZaE Zp in
theorem Zj3 (f:Fun K "is_off" "Rail.is_off" Zg6 Zd4 ZgK):type_of% Zaj:=by
 refine mbK ["self","post"] f λH Q z c h=>?_
 obtain⟨r,R,o,w,k,rfl,a,g,j⟩:=h
 refine⟨_,(aF (aM (bT Za Zam ZaE.1 c.mo ZaE.2 .nil aK (bN Zb Zj Zp.1 c.mo Zp.2 .nil aK (dv 0) (aA (dv 1) aC))))),?_⟩
 refine⟨⟨w.dx,_,a.er,rfl⟩,r,R,o,w,k,rfl,a,λi p e l=>?_,λm n s=>j m n s⟩
 obtain⟨S,A,eS,d,_⟩:=a.step l
 have q:=g i S e eS
 obtain⟨t,B,u,v,C,cc,D,x⟩:=d.cell
 obtain⟨b,y,bd⟩:=d.bd
 exact⟨⟨t,_,x,rfl⟩,p,b,S,y,rfl,bd,q⟩
variable (Ze:FB P w K mg base (CX0) 1 "_law_draw" ZfQ Zim ["_law_script","_law_k","_law_many"] (b3U K))
include ZF in
theorem ZlN (n:GFm K mg "_law_draw" ZiG ZfQ Zim):type_of% Ze:=by
 refine fbK ["_law_script","_law_k","_law_many","_law_cell","_law_seed"] n λH Q e s h=>?_
 obtain⟨a,ns,k,m,rfl,d,o,f,p,g,q⟩:=h
 refine⟨_,(aD (aX (i:=3) e rfl (Or.inl rfl) (bZ (dF (aW vC (bI fD rfl ZF cU (aA (dv 0) aC)) aG (aU _)) (cC jE (dv 0) (aV rK (dv 1) (bI fD rfl ZF cU (aA (dv 0) aC))) (λ_ _=>rfl)) aG))) (aD (aX (i:=4) e rfl (Or.inl rfl) (aV cM (aV cM (aV rK (dv 3) aG) (aV jD (aV jD aG (dv 1)) (dv 1))) aG)) (aF (aM (aV rK (aV rK (aV jD (aV rK (aV jD (dv 4) aG) aG) aG) aG) (dv 2)))))),?_⟩
 refine⟨λx j=>(∃v,x= .int v)/\j=H,?_,?_⟩
 ·have b:(ns.map V.int).length=ns.length:=Ya _
  refine⟨_,.inl d,?_⟩
  conv=>whnf
  refine bL (λc=>?_) (λc=>⟨⟨_,rfl⟩,rfl⟩)
  have l:(0:Int)<(((ns.map V.int).length:Nat):Int):=dec_true c
  obtain⟨v,r⟩:=b6C (ns:=ns) (k:=k) (by rw[b]at l;lia)
  exact⟨_,.inl d,l,_,_,d,r,⟨v,rfl⟩,rfl⟩
 rintro x j ⟨⟨v,rfl⟩,rfl⟩
 have t:31*k*k<=31*100000*100000:=Int.mul_le_mul (by lia) p f (by decide)
 have u:0<=31*k*k:=Int.mul_nonneg (by lia) f
 refine⟨(by show (0:Int)<_;decide),⟨jA (by decide) (by decide),jA (by lia) (by lia)⟩,⟨jA (by lia) (by lia),jA (by lia) (by lia)⟩,?_⟩
 have w:0<=v % 1000003:=Int.emod_nonneg _ (by decide)
 have y:v % 1000003<1000003:=X7 _ (by decide)
 refine⟨⟨jA (by lia) (by lia),jA (by decide) (by decide)⟩,(by show (0:Int)<_;decide),?_⟩
 have z:0<=(v % 1000003+31*k*k+1)*48271 % 999983:=Int.emod_nonneg _ (by decide)
 have A:(v % 1000003+31*k*k+1)*48271 % 999983<999983:=X7 _ (by decide)
 refine⟨⟨jA (by lia) (by lia),jA (by decide) (by decide)⟩,(by show (0:Int)<_;decide),g,?_⟩
 exact q _ (Int.emod_nonneg _ (by lia)) (X7 _ g)
variable (Zb9:FB P w K mg base (CX0) 2 "_law_size" ZfS Zio ["_law_name","_law_data"] (a5A K))
include Z6 ZF ZgB in
theorem ZlP (F0:GFm K mg "_law_size" ZiI ZfS Zio):type_of% Zb9:=by
 refine fbK ["_law_name","_law_data","_law_number","_law_byte","_law_rest","_law_k","_law_whole","_law_wire"] F0 λH Q v hr h=>?_
 obtain⟨d,n,ds,rfl,Z,hn,J,L,q⟩:=h
 refine⟨_,(aD (aX (i:=2) v rfl (Or.inl rfl) (aV cM (aV jD (dv 0) aG) (bI fD rfl ZF cU (aA (dv 1) aC)))) (aD (fQ YW rfl (cW (dv 1)) (dN (i:=3) v rfl (Or.inl rfl)) (aF (aX (i:=2) v rfl (Or.inl rfl) (aV cM (aV jD (dv 2) aG) (dv 3))))) (aD (aX (i:=4) v rfl (Or.inl rfl) (aV jD (dv 2) aG)) (aD (fQ YW rfl (sH rfl Z6 (aA aG (aA aG (aA (a0N zV aG) aC)))) (dN (i:=5) v rfl (Or.inl rfl)) (aF (iV (bH (aW dU (aV zZ (aV zT (dv 4) (dv 5)) aG) aG (aU _)) (aF (aX (i:=4) v rfl (Or.inl rfl) (aV b6F (dv 4) (aV b6G aG (aV jL (dv 5) aG))))) aR)))) (aD (aX (i:=6) v rfl (Or.inl rfl) (aV cM (aV jD (dv 2) aG) (dv 4))) (aD (aX (i:=7) v rfl (Or.inl rfl) (cY aC)) (aD (fQ YW rfl (sH rfl Z6 (aA (aV cM aG (aV jD aG (bI fD rfl ZF cU (aA (dv 1) aC)))) (aA (a0N zV aG) (aA (a0N zV aG) aC)))) (dN (i:=5) v rfl (Or.inl rfl)) (aD (bD (dC (dv 7) (aA (aV zZ (aV zT (dv 6) (dv 5)) aG) aC))) (aF (iV (bH (PW.pt (jV (aW vC (bI fD rfl ZF cU (aA (dv 7) aC)) aG (aU _)) (jH (aW dU (aV rK (bI (b1W rfl) rfl ZgB a8K (aA (mV zR (dv 7) (jY (aV jL (bI fD rfl ZF cU (aA (dv 7) aC)) aG)) b0G) aC)) aG) aG (aU _))))) (aF (bD (dC (dv 7) (aA (aV jL aG (cC jE (dv 7) (aV jL (bI fD rfl ZF cU (aA (dv 7) aC)) aG) (λ_ _=>rfl))) aC)))) aR))))) (aF (aM (bI fD rfl ZF cU (aA (dv 7) aC))))))))))),?_⟩
 refine⟨⟨jA (by lia) (by lia),by decide⟩,_,.inl Z,?_⟩
 rw[Ya]
 refine⟨⟨_,Z⟩,iD (xs:=ds.map V.int) (λi r m=>(∃x,r= [some (.int ((n:Nat):Int)),some (.ref d),some (.int ((nm (hdD ((n:Nat):Int) ds.length (ds.take i)):Nat):Int)),x,none,none,none,none])/\m=H) ⟨⟨none,?_⟩,rfl⟩ (λi r m _ z=>z.2▸Z) ?_ ?_⟩
 ·rw[X8,b4U hn (by lia)]
  rfl
 ·rintro i x r m hx ⟨⟨y,rfl⟩,rfl⟩
  obtain⟨O,rfl⟩:=nM hx
  have hb:=XW.mp L _ (YN O)
  have a0:=gY.mp hb
  have a1:=mF (nJ ((n:Nat):Int) ds.length (ds.take i))
  rw[pK,Yq]at a1
  have h2:2 ^ (12+8*min i ds.length)<=2 ^ 68:=Yv (by decide) (by lia)
  refine⟨⟨rC (n:=68) (by rw[Int.natAbs_natCast];lia),by decide⟩,⟨some (.int ds[i]),?_⟩,rfl⟩
  rw[Yg O,b4T hb]
  have e:((nm (hdD ((n:Nat):Int) ds.length (ds.take i))*256+(ds[i]).toNat:Nat):Int)=((nm (hdD ((n:Nat):Int) ds.length (ds.take i)):Nat):Int)*256+ds[i]:=by
   rw[Int.natCast_add,Int.natCast_mul,Int.toNat_of_nonneg a0.1]
   rfl
  rw[e]
  rfl
 rintro r H1 ⟨⟨x,rfl⟩,rfl⟩
 rw[Ya,Yi (Yc _)]
 have eh:nm (hdD ((n:Nat):Int) ds.length ds)=nm (hd ((n:Nat):Int) ds):=rfl
 rw[eh]
 have hN:=b2R (n:=((n:Nat):Int)) J
 have de:=b5P (n:=((n:Nat):Int)) J
 have fe:=b7Q (n:=((n:Nat):Int)) (ds:=ds)
 have D:∀{i:Nat},i<27+8*ds.length->(fb ((n:Nat):Int) ds)[i]? =some (fL (nm (fb ((n:Nat):Int) ds)) (26+8*ds.length-i)):=λh=>b5M h
 have P:=mJ ((n:Nat):Int) ds
 have A:=pL ((n:Nat):Int) ds
 have E:=mF A
 rw[P]at E
 have a2:2 ^ (27+8*ds.length)<=2 ^ 83:=Yv (by decide) (by lia)
 generalize nm (hd ((n:Nat):Int) ds)=N at hN de fe
 generalize fb ((n:Nat):Int) ds=bs at fe D P A E q
 generalize nm bs=M at fe D E
 refine⟨⟨rC (n:=91) (by rw[Int.natAbs_natCast];lia),by decide⟩,by decide,by decide,76,by decide,by decide,?_⟩
 refine qQ (λi r m=>(∃y,r= [some (.int ((n:Nat):Int)),some (.ref d),some (.int ((N:Nat):Int)),x,some (.int ((dvN (N*32768) i:Nat):Int)),y,none,none])/\m=H1) ⟨⟨none,rfl⟩,rfl⟩ ?_ ?_
 ·rintro i r m O ⟨⟨y,rfl⟩,rfl⟩
  obtain⟨d1,d2⟩:=zH hN i (by lia)
  have ek:(90:Int)+(i:Int)*(-1)=((90-i:Nat):Int):=by lia
  rw[ek]
  have nx:dvN (N*32768) (i+1)=dvS (dvN (N*32768) i) (90-i):=rfl
  generalize dvN (N*32768) i=z at d1 nx
  refine⟨λs C=>s= [some (.int ((n:Nat):Int)),some (.ref d),some (.int ((N:Nat):Int)),x,some (.int ((dvS z (90-i):Nat):Int)),some (.int ((90-i:Nat):Int)),none,none]/\C=m,?_,?_⟩
  ·refine⟨by lia,bL (λc=>?_) (λc=>?_)⟩
   ·have B:=dec_true c
    rw[rB]at B
    have R:z.testBit (90-i)=true:=by
     unfold fL at B
     split at B
     ·assumption
     ·exact absurd B (by decide)
    have es:(((90-i:Nat):Int)-15).toNat=90-i-15:=by lia
    have ex:Builtin.bitXor ((z:Nat):Int) (64647*2 ^ (((90-i:Nat):Int)-15).toNat)=((dvS z (90-i):Nat):Int):=by
     rw[es,show (64647:Int)*2 ^ (90-i-15)=((64647*2 ^ (90-i-15):Nat):Int) from by rw[Int.natCast_mul,Int.natCast_pow];rfl,bxor]
     unfold dvS
     rw[if_pos R,Xh]
    refine⟨⟨by lia,by lia,by decide⟩,?_,rfl⟩
    rw[<-ex]
    rfl
   ·have B:=dec_false c
    rw[rB]at B
    have R:¬ z.testBit (90-i)=true:=λt=>B (by unfold fL;rw[if_pos t])
    refine⟨?_,rfl⟩
    unfold dvS
    rw[if_neg R]
    rfl
  rintro s C ⟨rfl,rfl⟩
  exact⟨⟨_,by rw[nx]⟩,rfl⟩
 rintro r C ⟨⟨y,rfl⟩,rfl⟩
 rw[de]
 generalize ckn (hd ((n:Nat):Int) ds)=cc at fe
 have hM:((N:Nat):Int)*32768+((cc:Nat):Int)=((M:Nat):Int):=by lia
 refine⟨⟨rC (n:=91) (by rw[Int.natAbs_natCast];lia),by decide⟩,aL rfl,λp hp=>?_⟩
 have g0:=aJ hp (.lst [])
 have e0:=aB (H:=C) (a:=p) (o:= .lst [])
 generalize upd C p (.lst [])=H3 at g0 e0
 refine⟨_,.inl (g0.seq Z),?_⟩
 rw[Ya]
 refine⟨⟨by decide,jA (by lia) (by lia)⟩,by decide,a9Q J,27+8*ds.length,yH J,a2J J,?_⟩
 refine qQ (λi r m=>(∃y,r= [some (.int ((n:Nat):Int)),some (.ref d),some (.int ((N:Nat):Int)),x,some (.int ((cc:Nat):Int)),y,some (.int ((M:Nat):Int)),some (.ref p)])/\m p=some (.lst ((put (bs.take i)).map V.int))/\Same C m) ⟨⟨y,by rw[<-hM];rfl⟩,e0,g0⟩ ?_ ?_
 ·rintro i r m O ⟨⟨y,rfl⟩,I,h3⟩
  have pl:=mR (bs.take i)
  rw[Yq]at pl
  have h4:=mQ (bs.take i)
  have pb:=vX (l:=bs.take i) λb h=>A b (Xi h)
  have F:i<bs.length:=by lia
  have S:=A _ (YN F)
  have T:bs[i]=fL M (26+8*ds.length-i):=by
   have:=D O
   rw[Yb F]at this
   exact Yp this
  generalize vW F=ept
  generalize bs[i]=b at ept S T
  generalize put (bs.take i)=w at I pl h4 pb ept
  have ek:(26:Int)+8*((ds.length:Nat):Int)+(i:Int)*(-1)=((26+8*ds.length-i:Nat):Int):=by lia
  rw[ek]
  have eb:Builtin.bitAnd (((M:Nat):Int) / 2 ^ ((26+8*ds.length-i:Nat):Int).toNat) 1=b:=(rB _ _).trans T.symm
  generalize 26+8*ds.length-i=kk at eb
  refine⟨⟨_,Vb I⟩,by lia,_,I,cD (by rw[Ya];lia),?_⟩
  have g:upd m p (.lst (w.map V.int++[.int b])) p=some (.lst ((w++[b]).map V.int)):=by rw[aB,Yr];rfl
  have G:Same C (upd m p (.lst (w.map V.int++[.int b]))):=h3.put hp
  rw[show (λi j:Int=>V.int (Builtin.bitAnd i j)) (((M:Nat):Int) / 2 ^ ((kk:Nat):Int).toNat) 1= .int b from YO V.int eb]
  generalize upd m p (.lst (w.map V.int++[.int b]))=H3 at g G
  have wb:bK (w++[b]):=λz hz=>by
   rcases YL.mp hz with h | h
   ·exact pb z h
   ·rw[Yk.mp h];exact S
  have wl:(w++[b]).length=w.length+1:=by rw[Yd,Yt]
  have r5:run (w++[b])<=5:=YY pZ (by lia)
  have rl:=a5U (w++[b])
  refine⟨λs U=>s= [some (.int ((n:Nat):Int)),some (.ref d),some (.int ((N:Nat):Int)),x,some (.int ((cc:Nat):Int)),some (.int ((kk:Nat):Int)),some (.int ((M:Nat):Int)),some (.ref p)]/\U p=some (.lst ((pst w b).map V.int))/\Same C U,?_,?_⟩
  ·have tk:(w++[b]).take (w++[b]).length=w++[b]:=Yi (Yc _)
   refine⟨_,.inl (Vb g),?_⟩
   rw[Ya]
   conv=>whnf
   refine bL (λc=>?_) (λc=>yU ?_)
   ·have B:(4:Int)<(((w++[b]).length:Nat):Int):=dec_true c
    refine⟨_,.inl (Vb g),_,Vb g,λp5 W=>?_⟩
    rw[Ya]
    have ec:(((w++[b]).length:Nat):Int)-5=(((w++[b]).length-5:Nat):Int):=by lia
    have X:lY ((w++[b]).map V.int) (some ((((w++[b]).length:Nat):Int)-5)) none=((w++[b]).drop ((w++[b]).length-5)).map V.int:=by
     rw[ec];exact a8F (by lia)
    refine⟨(w++[b]).drop ((w++[b]).length-5),Vb (by rw[<-X];exact aB),(by show (0:Int)<5;decide),?_⟩
    have sr:=a9A wb (n:=5) (k:=(w++[b]).length) (by decide) (by lia) (Yc _)
    rw[tk,Yi (l:=(w++[b]).drop ((w++[b]).length-5)) (by rw[Xu];lia)]at sr
    have f:upd H3 p5 (.lst (lY ((w++[b]).map V.int) (some ((((w++[b]).length:Nat):Int)-5)) none)) p=some (.lst ((w++[b]).map V.int)):=by rw[aH (aP g W)];exact g
    have u:=G.trans (aJ W (.lst (lY ((w++[b]).map V.int) (some ((((w++[b]).length:Nat):Int)-5)) none)))
    generalize upd H3 p5 _=H5 at f u
    conv=>whnf
    refine bL (λc=>?_) (λc=>?_)
    ·have R:5<=run (w++[b]):=sr.mp (dec_true c)
     have Y:pst w b=w++[b]++[1-b]:=by unfold pst;rw[if_pos (by lia)]
     have la:atI ((w++[b]).map V.int) ((((w++[b]).map V.int).length:Nat)-(1:Int))=some (.int b):=by
      rw[Ya,wl,show ((w.length+1:Nat):Int)-1=((w.length:Nat):Int) by lia]
      exact gZ (by rw[Yo,YF (Yc _),Nat.sub_self];rfl)
     refine⟨⟨_,Vb f⟩,_,.inl (Vb f),_,_,Vb f,la,_,f,cD (by rw[Ya];lia),rfl,?_,u.put hp⟩
     rw[aB,Y,Yr (l₁:=w++[b])];rfl
    ·have R:¬ 5<=run (w++[b]):=λz=>dec_false c (sr.mpr z)
     have Y:pst w b=w++[b]:=by unfold pst;rw[if_neg (by lia)]
     rw[Y]
     exact⟨rfl,f,u⟩
   ·have B:¬ (4:Int)<(((w++[b]).length:Nat):Int):=dec_false c
    have Y:pst w b=w++[b]:=by unfold pst;rw[if_neg (by lia)]
    rw[Y]
    exact⟨rfl,g,G⟩
  rintro s U ⟨rfl,k1,k2⟩
  exact⟨⟨_,rfl⟩,by rw[ept];exact k1,k2⟩
 rintro r U ⟨⟨y,rfl⟩,I,h3⟩
 rw[Yi (by lia)]at I
 refine⟨_,.inl (Vb I),?_⟩
 rw[Ya]
 exact q U h3
variable (Zbc:FB P w K mg base (CX0) 2 "_law_frames" Ze7 ZgU ["_law_script","_law_posts"] (a9H K))
include Z6 Ze in
theorem Zkd (F0:GFm K mg "_law_frames" Zhg Ze7 ZgU):type_of% Zbc:=by
 refine fbK ["_law_script","_law_posts","_law_frames_here","_law_many","_law_k","_law_post","_law_name","_law_other","_law_data"] F0 λH Q E U h=>?_
 obtain⟨a,W,m,rfl,hS,s,m1,m5,Qq⟩:=h
 refine⟨_,(aD (aX (i:=2) E rfl (Or.inl rfl) (cY aC)) (aD (aX (i:=3) E rfl (Or.inl rfl) (aV cM aG (aQ Ze.1 U.mo rfl Ze.2.2.2 Ze.2.2.1 Ze.2.1 .nil aK (aA (dv 0) (aA aG (aA aG aC)))))) (aD (iV (bH (aW dU (aQ Ze.1 U.mo rfl Ze.2.2.2 Ze.2.2.1 Ze.2.1 .nil aK (aA (dv 0) (aA aG (aA aG aC)))) aG (aU _)) (aF (aX (i:=3) E rfl (Or.inl rfl) (aV cM (dv 3) aG))) aR)) (aD (fQ YW rfl (fU rfl Z6 (aA (dv 3) aC)) (dN (i:=4) E rfl (Or.inl rfl)) (aD (aX (i:=5) E rfl (Or.inl rfl) (aQ Ze.1 U.mo rfl Ze.2.2.2 Ze.2.2.1 Ze.2.1 .nil aK (aA (dv 0) (aA (aV cM aG (dv 4)) (aA (dv 1) aC))))) (aD (aX (i:=6) E rfl (Or.inl rfl) (aQ Ze.1 U.mo rfl Ze.2.2.2 Ze.2.2.1 Ze.2.1 .nil aK (aA (dv 0) (aA (aV cM aG (dv 4)) (aA aG aC))))) (aD (fQ YW rfl (cW (dv 2)) (dN (i:=7) E rfl (Or.inl rfl)) (aF (bH (aW dU (cC iB (dv 7) aG (λ_ _=>rfl)) (dv 6) (aU _)) (aF (aX (i:=5) E rfl (Or.inl rfl) (cC iB (dv 7) aG (λ_ _=>rfl)))) aR))) (aD (aX (i:=8) E rfl (Or.inl rfl) (aV a3S (cY (aA (aQ Ze.1 U.mo rfl Ze.2.2.2 Ze.2.2.1 Ze.2.1 .nil aK (aA (dv 0) (aA (aV cM aG (dv 4)) (aA aG aC)))) aC)) (bZ (aV a3X (aQ Ze.1 U.mo rfl Ze.2.2.2 Ze.2.2.1 Ze.2.1 .nil aK (aA (dv 0) (aA (aV cM aG (dv 4)) (aA aG aC)))) aG)))) (aF (bD (dC (dv 2) (aA (bO (aA (dv 5) (aA (dv 6) (aA (dv 8) aC)))) aC))))))))) (aF (aM (dv 2))))))),?_⟩
 refine⟨aL rfl,λl hl=>?_⟩
 generalize eU:upd H l _=H1
 have g1:=nS hl eU
 have el:=nE eU
 clear eU
 have Z:=g1.seq hS
 refine⟨a,W,3,3,rfl,Z,s,by decide,by decide,by decide,λz z0 z1=>?_⟩
 obtain⟨z,rfl⟩:=YQ z0
 refine⟨λA C=>(∃M:Nat,A= [some (.ref a),some (.int ((m:Nat):Int)),some (.ref l),some (.int ((M:Nat):Int)),none,none,none,none,none]/\1<=M/\M<=5)/\C=H1,?_,?_⟩
 ·refine⟨a,W,4,8,rfl,Z,s,by decide,by decide,by decide,λw w0 w1=>bL (λc=>?_) (λc=>?_)⟩
  ·exact⟨⟨1+z+2,rfl,by lia,by lia⟩,rfl⟩
  ·exact⟨⟨1+z,rfl,by lia,by lia⟩,rfl⟩
 rintro A C ⟨⟨M,rfl,a8,a9⟩,rfl⟩
 refine⟨⟨by lia,by lia⟩,?_⟩
 rw[YJ]
 refine lU (lo:=0) (n:=M) (λi A F=>(∃x3 x4 x5 x6 x7,A= [some (.ref a),some (.int ((m:Nat):Int)),some (.ref l),some (.int ((M:Nat):Int)),x3,x4,x5,x6,x7])/\Same H F/\(∀x,F x=none->C x=none)/\∃(G:List Addr)(fs:List (Nat×Nat×List Int)),F l=some (.lst (G.map V.ref))/\G.length=fs.length/\fs.length=i/\(∀(j:Nat)(t:Addr)(f:Nat×Nat×List Int),G[j]? =some t->fs[j]? =some f->∃d,C d=none/\F t=some (frT f d)/\F d=some (.lst (f.2.2.map V.int)))/\F92 m fs/\∀f∈fs,f.2.2.length<=1) ⟨⟨_,_,_,_,_,rfl⟩,g1,λx z=>z, [], [],el,rfl,rfl,λj t f h=>by simp at h,⟨λf r=>(by cases r),λf r=>(by cases r)⟩,λf r=>(by cases r)⟩ ?_ ?_
 ·rintro i A F hi ⟨⟨x3,x4,x5,x6,x7,rfl⟩,g2,nn,G,fs,N,lt,lf,I,v,O⟩
  rw[XG]
  have J:=g2.seq hS
  refine⟨a,W,_,_,rfl,J,s,(by show 0<=20+((i:Nat):Int);lia),(by show 20+((i:Nat):Int)<=100000;lia),by lia,λp p0 p1=>?_⟩
  obtain⟨p,rfl⟩:=YQ p0
  refine⟨a,W,_,256,rfl,J,s,(by show 0<=30+((i:Nat):Int);lia),(by show 30+((i:Nat):Int)<=100000;lia),by decide,λn n0 n1=>?_⟩
  obtain⟨n,rfl⟩:=YQ n0
  refine⟨⟨_,Vb N⟩,iD (xs:=G.map V.ref) (λj A H3=>(∃(q:Nat)(y:Option V),A= [some (.ref a),some (.int ((m:Nat):Int)),some (.ref l),some (.int ((M:Nat):Int)),some (.int ((i:Nat):Int)),some (.int (q:Int)),some (.int ((n:Nat):Int)),y,x7]/\q<m/\((∀f∈fs.take j,f.2.1≠n)\/∃f∈fs,f.2.1=n/\q=f.1))/\H3=F) ⟨⟨p,_,rfl,by lia,.inl λf r=>(by rw[X8]at r;cases r)⟩,rfl⟩ (λj A C _ z=>z.2▸Vb N) ?_ ?_⟩
  ·rintro j x A H3 hx ⟨⟨q,y,rfl,hq,L⟩,rfl⟩
   rw[Yo]at hx
   obtain⟨t,ht,rfl⟩:=YG.mp hx
   have hj:j<fs.length:=by rw[<-lt];exact(Ye.mp ht).1
   obtain⟨f,ef⟩:∃f,fs[j]? =some f:=⟨_,Yb hj⟩
   obtain⟨d,_,X,_⟩:=I j t f ht ef
   have fm:=Yu ef
   have tk:fs.take (j+1)=fs.take j++[f]:=by rw[Yg hj,Yp ((Yb hj).symm.trans ef)]
   refine⟨_,_,Vc X,rfl,bL (λc=>?_) (λc=>?_)⟩
   ·have c1:f.2.1=n:=by have z:((f.2.1:Nat):Int)=((n:Nat):Int):=dec_true c;lia
    exact⟨_,_,Vc X,rfl,⟨f.1,_,rfl,(v.ok f fm).1,.inr ⟨f,fm,c1,rfl⟩⟩,rfl⟩
   ·have c1:¬ f.2.1=n:=λw=>dec_false c (by rw[w])
    refine⟨⟨q,_,rfl,hq,L.imp (λw g Y=>?_) id⟩,rfl⟩
    rw[tk]at Y
    rcases YL.mp Y with z | z
    ·exact w g z
    ·rw[Yk.mp z];exact c1
  rintro A H3 ⟨⟨q,y,rfl,hq,L⟩,rfl⟩
  rw[Ya,Yi (by lia)]at L
  refine⟨a,W,_,256,rfl,J,s,(by show 0<=70+((i:Nat):Int);lia),(by show 70+((i:Nat):Int)<=100000;lia),by decide,λb b0 b1=>⟨aL rfl,λs1 a6=>?_⟩⟩
  generalize eU:upd H3 s1 _=H4
  have g3:=nS a6 eU
  have a7:=nE eU
  clear eU
  refine⟨λx C=>∃u:Nat,x= .int ((u:Nat):Int)/\u<=1/\C=H4,?_,?_⟩
  ·refine⟨a,W,_,4,rfl,g3.seq J,s,(by show 0<=50+((i:Nat):Int);lia),(by show 50+((i:Nat):Int)<=100000;lia),by decide,λw w0 w1=>?_⟩
   obtain⟨w,rfl⟩:=YQ w0
   refine⟨⟨(show (0:Int)<3 by decide),(show (3:Int)<1073741824 by decide)⟩,w / 3,YO V.int (by show ((w:Nat):Int) / 3=((w / 3:Nat):Int);lia),by lia,rfl⟩
  rintro x H5 ⟨u,rfl,u1,rfl⟩
  refine⟨_,a7,⟨by lia,by lia⟩,by rw[YJ];exact Xx (cD (by show 1*u<=1000;lia)),λP a0=>?_⟩
  rw[YJ,a9V]
  have g4:=aJ a0 (.lst ((List.replicate u b).map V.int))
  have R:=aB (H:=H5) (a:=P) (o:= .lst ((List.replicate u b).map V.int))
  have d1:=nn _ (g3.none a0)
  have S:∀y,upd H5 P (.lst ((List.replicate u b).map V.int)) y=none->C y=none:=λy z=>nn y (g3.none (g4.none z))
  have hb:(List.replicate u b).all byt=true:=XW.mpr λz hz=>by rw[Xa hz];exact gY.mpr ⟨b0,by lia⟩
  have hd:(List.replicate u b).length<=1:=by rw[YD];exact u1
  generalize List.replicate u b=ds at g4 R S hb hd
  generalize upd H5 P _=H6 at g4 R S
  refine⟨⟨_,Vb ((g3.trans g4) _ _ N)⟩,aL rfl,λt ht=>?_⟩
  have g5:=aJ ht (.tup [.int (q:Int),.int ((n:Nat):Int),.ref P])
  have X:=aB (H:=H6) (a:=t) (o:= .tup [.int (q:Int),.int ((n:Nat):Int),.ref P])
  have a4:∀x,upd H6 t (.tup [.int (q:Int),.int ((n:Nat):Int),.ref P]) x=none->C x=none:=λx z=>S x (g5.none z)
  generalize upd H6 t _=H7 at g5 X a4
  have B:=(g3.trans g4).trans g5
  have e5:=B _ _ N
  have kl:∀x u,x≠l->H7 x=some u->upd H7 l (.lst (G.map V.ref++[.ref t])) x=some u:=λx u n e=>by rw[aH n];exact e
  have tl:∀{x xs},H7 x=some (.tup xs)->x≠l:=λ{x xs} e z=>by rw[z,e5]at e;cases e
  have dl:∀{x},C x=none->x≠l:=λ{x} e z=>by rw[z,el]at e;cases e
  refine⟨_,e5,cD (by rw[Ya];lia),⟨_,_,_,_,_,rfl⟩,(g2.trans B).put hl,λx z=>?_,G++[t],fs++[(q,n,ds)],by rw[aB,Yr];rfl,by rw[Yd,Yd,lt];rfl,by rw[Yd,lf];rfl,λj t' f D T=>?_,⟨λf r=>?_,λf r g Y e=>?_⟩,λf r=>?_⟩
  ·by_cases c:x=l
   ·rw[c,aB]at z;cases z
   ·rw[aH c]at z;exact a4 x z
  ·by_cases c:j<fs.length
   ·rw[YS (by lia)]at D T
    obtain⟨d,a1,a2,a3⟩:=I j t' f D T
    exact⟨d,a1,kl _ _ (tl (B _ _ a2)) (B _ _ a2),kl _ _ (dl a1) (B _ _ a3)⟩
   ·rw [YF (by lia)]at D T
    rw[lt]at D
    cases ej:j-fs.length with
    | zero=>
     rw[ej]at D T
     cases D
     cases T
     exact⟨P,d1,kl _ _ (tl X) X,kl _ _ (dl d1) (g5 _ _ R)⟩
    |succ k=>rw[ej]at D;cases D
  ·rcases YL.mp r with z | z
   ·exact v.ok f z
   ·rw[Yk.mp z]
    exact⟨hq,by show n<256;lia,by show ds.length<=7;lia,hb⟩
  ·have a5:∀f∈fs,f.2.1=n->f.1=q:=λf r e=>by
    rcases L with z | ⟨g,Y,N,e3⟩
    ·exact absurd e (z f r)
    ·rw[e3];exact v.un f r g Y (e.trans N.symm)
   rcases YL.mp r with z1 | z1 <;> rcases YL.mp Y with z2 | z2
   ·exact v.un f z1 g z2 e
   ·rw[Yk.mp z2]at e ⊢
    exact a5 f z1 e
   ·rw[Yk.mp z1]at e ⊢
    exact(a5 g z2 e.symm).symm
   ·rw[Yk.mp z1,Yk.mp z2]
  ·rcases YL.mp r with z | z
   ·exact O f z
   ·rw[Yk.mp z];exact hd
 rintro A F ⟨⟨x3,x4,x5,x6,x7,rfl⟩,g2,nn,G,fs,N,lt,lf,I,v,O⟩
 exact Qq l G fs F hl g2 ⟨N,lt,λi t f D T=>let ⟨d,_,a2,a3⟩:=I i t f D T;⟨d,a2,a3⟩⟩ v O (by lia) (by lia)
variable (ZcD:FB P w K mg base (CX0) 2 "_law_aim" Zgv Zjf ["_law_script","_law_turn","_law_sizes"] (a9O K))
include ZF Ze in
theorem Zmq (F0:GFm K mg "_law_aim" ZjC Zgv Zjf):type_of% ZcD:=by
 refine fbK ["_law_script","_law_turn","_law_sizes","_law_speak"] F0 λH Q u v h=>?_
 obtain⟨a,F,x,t,zs,rfl,y,b,P,d,G,q⟩:=h
 refine⟨_,(aD (aX (i:=3) u rfl (Or.inl rfl) aG) (aD (iV (bH (aW vC (bI fD rfl ZF cU (aA (dv 2) aC)) aG (aU _)) (aF (aX (i:=3) u rfl (Or.inl rfl) (aV cM aG (aQ Ze.1 v.mo rfl Ze.2.2.2 Ze.2.2.1 Ze.2.1 .nil aK (aA (dv 0) (aA (aV cM (dv 1) aG) (aA (aV jL (cC jE (dv 2) aG (λ_ _=>rfl)) aG) aC))))))) aR)) (aF (aM (cY (aA (bO (aA bA (aA (dv 3) aC))) (aA (bO (aA bA (aA (aV cM aG (aQ Ze.1 v.mo rfl Ze.2.2.2 Ze.2.2.1 Ze.2.1 .nil aK (aA (dv 0) (aA (aV cM (dv 1) aG) (aA aG aC))))) aC))) aC))))))),?_⟩
 refine⟨λA I=>I=H/\∃s:Nat,A= [some (.ref a),some (.int ((t:Nat):Int)),some (.ref F),some (.int ((s:Nat):Int))]/\11<=s/\∀z r,zs=z::r->s<z,?_,?_⟩
 ·refine⟨_,.inl (Vb d),?_⟩
  rw[Ya]
  refine bL (λc=>?_) (λc=>?_)
  ·cases zs with
   |nil=>exact absurd (dec_true c) (by decide)
   | cons z r=>
    have J:=G z Yy
    refine⟨_,.int ((z:Nat):Int),Vb d,gZ (j:=0) rfl,a,x,_,_,rfl,y,b,(by show 0<=((t:Nat):Int)+7;lia),(by show ((t:Nat):Int)+7<=100000;lia),(by show 0<((z:Nat):Int)-11;lia),λw m L=>?_⟩
    obtain⟨w,rfl⟩:=YQ m
    refine⟨rfl,11+w,rfl,by lia,λR S e=>?_⟩
    cases e
    lia
  ·refine⟨rfl,11,rfl,Yc _,λz r e=>?_⟩
   subst e
   exact absurd (show (0:Int)<(((z::r).length:Nat):Int) by rw[YM];lia) (dec_false c)
 rintro A M ⟨rfl,s,rfl,n,sz⟩
 refine⟨aL rfl,λB f=>?_⟩
 generalize eU:upd M B _=H2
 have k:=nS f eU
 have N:=nE eU
 clear eU
 refine⟨a,x,_,6,rfl,k.seq y,b,(by show 0<=((t:Nat):Int)+8;lia),(by show ((t:Nat):Int)+8<=100000;lia),by decide,λw m L=>⟨aL rfl,λC g=>?_⟩⟩
 obtain⟨w,rfl⟩:=YQ m
 generalize eU:upd H2 C _=H3
 have o:=nS g eU
 have O:=nE eU
 clear eU
 refine⟨aL rfl,λl D=>?_⟩
 generalize eU:upd H3 l _=H4
 have p:=nS D eU
 have E:=nE eU
 clear eU
 refine q l (s,2+w) H4 (k.none (o.none D)) (k.trans (o.trans p)) (λT U e=>?_) ⟨B,C,E,p _ _ (o _ _ N),p _ _ O⟩ n (by show 2<=2+w;lia) (by show 2+w<=7;lia) sz
 rw[E]at e
 cases e
 exact⟨f,k.none g⟩
variable (Zb8:FB P w K mg base (CX0) 14 "_law_made" ZfR Zin ["_law_script","_law_rail","_law_bad","_law_sizes","_law_posts","_law_most"] (a5K K Zo CA 965))
include ZcC ZP Zag Z6 ZF ZgB Zb ZbR Zcq Zat Zaa Zek Zel Zdj Zcw ZaR Zaj ZcD in
theorem ZlO (F0:GFm K mg "_law_made" ZiH ZfR Zin):type_of% Zb8:=by
 refine fbK ["_law_script","_law_rail","_law_bad","_law_sizes","_law_posts","_law_most","_law_tries","_law_aim_here","_law_turn","_law_stance","_law_wrong","_law_many"] F0 λH Q B hr h=>?_
 obtain⟨a,ss,r,F,c8,o0,m,v,p,fs,zl,zs,n0,g,rfl,c9,d0,j0,M,d5,d6,d7,q⟩:=h
 refine⟨_,(aD (aX (i:=6) B rfl (Or.inl rfl) aG) (aD (aX (i:=7) B rfl (Or.inl rfl) (cY aC)) (aD (fQ YW rfl (fU rfl Z6 (aA (dv 5) aC)) (dN (i:=8) B rfl (Or.inl rfl)) (aD (aX (i:=9) B rfl (Or.inl rfl) (bN Zb ZbR Zcw.1 hr.mo Zcw.2 .nil aK (dv 1) (aA (dv 2) aC))) (aD (iV (bH (aW dU (cC iB (dv 9) aG (λ_ _=>rfl)) bA (aU _)) (aF (aX (i:=7) B rfl (Or.inl rfl) (aQ ZcD.1 hr.mo rfl ZcD.2.2.2 ZcD.2.2.1 ZcD.2.1 .nil aK (aA (dv 0) (aA (dv 8) (aA (dv 3) aC)))))) aR)) (aD (aX (i:=10) B rfl (Or.inl rfl) (cY aC)) (aD (iV (bH (aW (b6J hr.units1) (dv 9) (dv 7) rfl) (aD (aX (i:=10) B rfl (Or.inl rfl) (cY (aA (dv 2) aC))) (aD (aX (i:=6) B rfl (Or.inl rfl) (aV cM (dv 6) aG)) (aF (aX (i:=7) B rfl (Or.inl rfl) (cY aC))))) aR)) (aD (bD (bN Zb Zcq Zdj.1 hr.mo Zdj.2 .nil aK (dv 1) (aA (dv 10) aC))) (aD (aX (i:=11) B rfl (Or.inl rfl) (bI (b1W rfl) rfl ZgB a8K (aA (gU rfl (ix:=[1,2]) (fU rfl Z6 (aA (dv 4) aC)) (λC fp s0 H0 at0=>(pG (aW tQ (dv 0) (dv 2) (aU _)))) (λC fp s0 H0 at0=>(bI (a3V (K:=K)) rfl ZF cU (aA (bN Zb Zat ZaR.1 hr.mo ZaR.2 .nil aK (dv 1) (aA (dv 0) aC)) aC))) rfl rfl (by rfl) (show ([".0","_law_post","_law_rail","_law_bad"]:List Str).Nodup by decide +kernel)) aC))) (aF (bH (PW.pt (jV (cJ (bN Zb Zaa Zaj.1 hr.mo Zaj.2 .nil aK (dv 1) (aA (dv 2) aC))) (jH (aW dU (dv 11) aG (aU _))))) (aF a6G) aR))))))))) (aF (aM (dv 6)))))),?_⟩
 have m5:=M.m5
 have m3:=M.cx.m3
 have pm:=M.cx.pm
 have n7:=M.n7
 have nm:=M.nl
 have mo:=M.mo
 refine⟨aL rfl,λZ X=>?_⟩
 generalize eU:upd H Z _=H1
 have g0:=nS X eU
 have e0:=nE eU
 clear eU
 obtain⟨F1,j1,s1,d8,_⟩:=j0.grow g0
 have A1:lK F1 Z none:=d8 _ _ X e0
 refine⟨⟨by lia,by lia⟩,?_⟩
 rw[YJ]
 refine lU (lo:=0) (n:=g) (λk σ O=>∃(s:Hp)(R:RS)(o:Own)(y n:Nat)(al:Addr)(T:Option (Nat×Nat)),(∃x8 x9 E t,σ= [some (.ref a),some (.ref r),some (.int ((p:Nat):Int)),some (.ref zl),some (.int ((m:Nat):Int)),some (.int ((g:Nat):Int)),some (.int (y:Int)),some (.ref al),x8,x9,E,t])/\J95 Zo CA 965 s O r R o/\Same F s/\lK s al T/\Rv4 m v p fs T y n k R/\n+k=n0/\¬ Dn4 p R.ps) ⟨F1,c8,o0,0,n0,Z,none,⟨_,_,_,_,rfl⟩,j1,s1,A1,d6,rfl,d7⟩ ?_ ?_
 rotate_left
 ·rintro σ O ⟨s,R,o,y,n,al,T,_,_,_,_,rv,en,B⟩
  exfalso
  have:=(rv.iv.step (ab:=(11,2)) M.cx B (by decide) (by decide) (by decide) (λf hf=>by
   have h1:=(M.cx.F.ok _ (iZ (List.mem_of_mem_head? hf))).2
   have:=(kO (n:=f.1) (ds:=f.2) h1).1
   show 11<(wr f.1 f.2).length
   lia)).1
  lia
 rintro k σ O hk ⟨s,R,o,y,n,al,T,⟨x8,x9,E,t,rfl⟩,j,sF,hA,rv,en,B⟩
 rw[XG]
 obtain⟨w,hR⟩:=j.rl
 have hl:=rv.ln.ps
 obtain⟨S,eS⟩:∃S,R.ps[p]? =some S:=⟨_,Yb (by lia)⟩
 refine⟨⟨w.dx,_,hR.er,rfl⟩,r,R,o,w,_,rfl,hR,λi' S' ei G=>?_,λno=>absurd ⟨by lia,by lia⟩ no⟩
 rw[show i'=p by lia,eS]at G
 cases G
 intro st H2 d9 g2 a6
 obtain⟨F2,j2,s2,e1,_⟩:=j.grow g2
 have a7:=e1 _ _ d9 a6
 have a0:=sF.trans s2
 have e2:∀f,(dJ fs p).head? =some f->27<=LW f:=λf hf=>by
  have h1:=(M.cx.F.ok _ (iZ (List.mem_of_mem_head? hf))).2
  exact(kO (n:=f.1) (ds:=f.2) h1).1
 refine⟨λI O=>∃(s:Hp)(al:Addr)(ab:Nat×Nat),I= [some (.ref a),some (.ref r),some (.int ((p:Nat):Int)),some (.ref zl),some (.int ((m:Nat):Int)),some (.int ((g:Nat):Int)),some (.int (y:Int)),some (.ref al),some (.int ((k:Nat):Int)),some (.ref st),E,t]/\J95 Zo CA 965 s O r R o/\Same F2 s/\lK s al (uY ab T S.now)/\11<=ab.1/\2<=ab.2/\ab.2<=7/\∀f,(dJ fs p).head? =some f->ab.1<LW f,?_,?_⟩
 ·refine ⟨_,_,Vc a6,rfl,bL (λc=>?_) (λc=>?_)⟩
  ·have c1:S.now.shown.1=("free":Str):=dec_true c
   rcases pY S.now with ⟨k0,e3,_⟩ | ⟨z,_⟩
   ·refine⟨a,zl,ss,k,zs,rfl,c9 _ (a0.trans j2.sm),d0,by lia,j2.sm _ _ (a0 _ _ d5),M.zb,λl x H3 hl g3 nl P x1 x2 x7 xz=>?_⟩
    obtain⟨F3,j3,s3,a1,_⟩:=j2.grow g3
    refine⟨F3,l,x,rfl,j3,s3,?_,x1,x2,x7,λf hf=>?_⟩
    ·rw[e3]
     obtain⟨t1,t2,b1,b2,b3⟩:=P
     obtain⟨n1,n2⟩:=nl t1 t2 b1
     exact⟨t1,t2,a1 _ _ hl b1,a1 _ _ n1 b2,a1 _ _ n2 b3⟩
    ·obtain⟨r',er⟩:=M.zh f hf
     exact xz _ r' er
   ·exact absurd c1 z
  ·have c1:¬ S.now.shown.1=("free":Str):=dec_false c
   rcases pY S.now with ⟨k0,_,z⟩ | ⟨_,z⟩
   ·exact absurd z c1
   ·exact⟨F2,al,(11,2),rfl,j2,Vd _,by rw[z];exact hA.same s2,Yc _,Yc _,by decide,λf hf=>by have:=e2 f hf;show 11<LW f;lia⟩
 rintro I H3 ⟨F3,e4,ab,rfl,j3,s3,a2,e5,e6,e8,e9⟩
 obtain⟨n1,S',G,gh,gn⟩:=rv.iv.step (ab:=ab) M.cx B e5 e6 e8 e9
 rw[eS]at G
 cases G
 generalize uY ab T S.now=oo3 at a2 gh gn
 refine⟨aL rfl,λwl a8=>?_⟩
 have g3:=aJ a8 (.lst [])
 have a9:=aB (H:=H3) (a:=wl) (o:= .lst [])
 have f0:=j3.same g3
 obtain⟨F4,j4,s4,b0,_⟩:=j3.grow g3
 have Y:=b0 _ _ a8 a9
 generalize upd H3 wl _=H4 at g3 a9 f0 j4 b0
 have a3:=a2.same s4
 have b4:=s4 _ _ (s3 _ _ a7)
 refine⟨λI O=>∃(s:Hp)(al wl:Addr)(oo':Option (Nat×Nat))(y':Nat)(hit:Bool)(t:Option V),I= [some (.ref a),some (.ref r),some (.int ((p:Nat):Int)),some (.ref zl),some (.int ((m:Nat):Int)),some (.int ((g:Nat):Int)),some (.int ((y':Nat):Int)),some (.ref al),some (.int ((k:Nat):Int)),some (.ref st),some (.ref wl),t]/\J95 Zo CA 965 s O r R o/\Same F4 s/\lK s al oo'/\s wl=some (.lst ((wpL p hit).map V.int))/\Iv m v p fs oo' y' (n-1) (cT (wpO p hit) R.ps),?_,?_⟩
 ·obtain⟨ds,xs,d1,d2,d3,d4⟩:=(a3.same j4.sm).dv (K:=K)
  refine⟨_,ds,xs,uL (j4.sm _ _ b4),d1,d2,lA (a5R S.now) _,d3,?_⟩
  rw[d4]
  cases eh:yW oo3 S.now with
  | true=>
   conv=>whnf
   refine⟨aL rfl,λw2 b5=>?_⟩
   have k1:=aJ b5 (.lst [.int ((p:Nat):Int)])
   have b6:=aB (H:=H4) (a:=w2) (o:= .lst [.int ((p:Nat):Int)])
   obtain⟨F5,j5,s5,b7,_⟩:=j4.grow k1
   have f1:=b7 _ _ b5 b6
   generalize upd H4 w2 _=H5 at k1 b6 j5 b7
   refine⟨aL rfl,λl2 u=>?_⟩
   have k2:=aJ u (.lst [])
   have f2:=aB (H:=H5) (a:=l2) (o:= .lst [])
   obtain⟨F6,j6,s6,f3,_⟩:=j5.grow k2
   exact⟨F6,l2,w2,none,y+1,true,_,rfl,j6,s5.trans s6,f3 _ _ u f2,s6 _ _ f1,gh eh⟩
  | false=>
   conv=>whnf
   exact⟨F4,e4,wl,oo3,y,false,_,rfl,j4,Vd _,a3,Y,gn eh⟩
 clear Y a3 a2 gh gn
 rintro I H5 ⟨F5,b9,c0,c3,y5,hit,g5,rfl,j5,s5,f4,c4,f5⟩
 obtain⟨w5,a4⟩:=j5.rl
 have g6:(wpL p hit).length<=1:=by cases hit with | false=>exact YX 1 | true=>exact Yc 1
 have f6:∀x∈wpL p hit,0<=x/\x<((R.ps.length:Nat):Int):=λx P=>by
  cases hit with
  |false=>cases P
  |true=>rw[Yk.mp P,hl];lia
 have f7:R.ps≠ []:=λz=>by rw[z]at hl;have:0=m:=hl;lia
 refine⟨⟨w5.dx,_,a4.er,rfl⟩,r,R,o,w5,c0,wpL p hit,λ_=>False,rfl,j5.sm _ _ c4,by lia,a4,f7,rv.sz m5 (by lia),j5.tb.own (λx P=>P.elim id False.elim),λx P=>P.elim,λ_ b H6 o6 hb c5 c6 m6=>?_,λno=>absurd f6 no⟩
 have J:=rv.turn (hit:=hit) hb (λz hz=>a4.says hz) f5
 have j6:=j5.turn c5 (c6.own λx P=> .inl P) m6
 clear hb c5 c6 m6
 generalize kY R (wrL (wpL p hit) R.ps.length b) b=R6 at J j6
 have f9:=J.ln.ps
 refine⟨⟨by lia,by lia⟩,?_⟩
 rw[YJ]
 refine jZ (lo:=0) (n:=m) (λi ys O=>Same H6 O/\∃D:List Nat,ys=nV D/\D.length<=i/\((D.sum=0->∀(j:Nat)(S:PS),j<i->j≠p->R6.ps[j]? =some S->S.wt= [])/\((∀(j:Nat)(S:PS),j<i->j≠p->R6.ps[j]? =some S->S.wt= [])->D.sum=0))) ?_ ?_ ?_ ?_
 ·rintro i ys O hi ⟨_,D,rfl,U,_⟩
  rw[Ya]
  exact cD (by lia)
 ·exact⟨Vd _, [],rfl,Yc _,λ_ j S hj=>absurd hj (Xz _),λ_=>rfl⟩
 ·rintro i ys H7 hi ⟨g7,D,rfl,U,W,u⟩
  rw[XG]
  conv=>whnf
  refine bL (λc=>?_) (λc=>?_)
  ·have ip:i≠p:=λz=>by
    have c2:(!decide (((i:Nat):Int)=((p:Nat):Int)))=true:=c
    rw[z,Yj rfl]at c2
    cases c2
   obtain⟨w7,L⟩:=(j6.same g7).rl
   refine⟨⟨w7.dx,_,L.er,rfl⟩,r,R6,o6,w7,_,rfl,L,λi2 S2 ei A=>?_,λno=>absurd ⟨by lia,by lia⟩ no⟩
   rw[show i2=i by lia]at A
   have w9:=J.wt S2 (Yu A)
   refine⟨by lia,λl xs H8 g8 k8 el f8=>⟨_,.inl (Vb el),g7.trans k8,D++[S2.wt.length],?_,by rw[Yd];exact Nat.succ_le_succ U,?_,?_⟩⟩
   ·rw[f8.len]
    unfold nV
    rw[Yr]
    rfl
   ·intro z j S hj N e
    rw[List.sum_append,XB,List.sum_nil]at z
    by_cases d:j=i
    ·subst d
     rw[A]at e
     cases e
     exact List.length_eq_zero_iff.mp (by lia)
    ·exact W (by lia) j S (by lia) N e
   ·intro z
    rw[List.sum_append,XB,List.sum_nil,u λj S hj N e=>z j S (by lia) N e,z i S2 (Xo _) ip A]
    rfl
  ·have ip:i=p:=by
    have c2:¬ (!decide (((i:Nat):Int)=((p:Nat):Int)))=true:=c
    by_cases z:i=p
    ·exact z
    ·exact absurd (by rw[Yl (λy=>z (by lia))];rfl) c2
   refine⟨g7,D,rfl,Nat.le_succ_of_le U,λz j S hj N e=>W z j S (by lia) N e,λz=>u λj S hj N e=>z j S (by lia) N e⟩
 rintro ys H7 ⟨g7,D,rfl,U,W,u⟩ l7 g1
 rw[b4V]
 generalize eU:upd H7 l7 _=H8
 have k7:=nS g1 eU
 have e7:=nE eU
 have j7:=(j6.same g7).same k7
 clear eU
 refine⟨_,Vb e7,?_⟩
 rw[vK]
 obtain⟨w7,L⟩:=j7.rl
 obtain⟨S6,a5⟩:∃S,R6.ps[p]? =some S:=⟨_,Yb (by lia)⟩
 refine⟨⟨w7.dx,_,L.er,rfl⟩,r,R6,o6,w7,_,rfl,L,λi2 S2 ei A=>?_,λno=>absurd ⟨by lia,by lia⟩ no⟩
 rw[show i2=p by lia,a5]at A
 cases A
 have c7:=a0.trans (s3.trans (s4.trans s5))
 have all:(∀(j:Nat)(S:PS),j<m->j≠p->R6.ps[j]? =some S->S.wt= [])↔∀(j:Nat)(S:PS),R6.ps[j]? =some S->j≠p->S.wt= []:=⟨λh j S e N=>h j S (by rw[<-f9];exact(Ye.mp e).1) N e,λh j S _ N e=>h j S e N⟩
 have go:¬ Dn4 p R6.ps->∃(s:Hp)(R:RS)(o:Own)(y n:Nat)(al:Addr)(T:Option (Nat×Nat)),(∃x8 x9 E t,([some (.ref a),some (.ref r),some (.int ((p:Nat):Int)),some (.ref zl),some (.int ((m:Nat):Int)),some (.int ((g:Nat):Int)),some (.int ((y5:Nat):Int)),some (.ref b9),some (.int ((k:Nat):Int)),some (.ref st),some (.ref c0),some (.int ((D.sum:Nat):Int))]:St)= [some (.ref a),some (.ref r),some (.int ((p:Nat):Int)),some (.ref zl),some (.int ((m:Nat):Int)),some (.int ((g:Nat):Int)),some (.int (y:Int)),some (.ref al),x8,x9,E,t])/\J95 Zo CA 965 s H8 r R o/\Same F s/\lK s al T/\Rv4 m v p fs T y n (k+1) R/\n+(k+1)=n0/\¬ Dn4 p R.ps:=λg4=>⟨F5,R6,o6,y5,n-1,b9,c3,⟨_,_,_,_,rfl⟩,j7,c7,f4,J,by lia,g4⟩
 refine bL (λc=>?_) (λc=>?_)
 ·have c1:18<=S6.tot:=dec_true c
  refine bL (λd=>?_) (λd=>?_)
  ·have d1:((D.sum:Nat):Int)=0:=dec_true d
   exact q y5 (n-1) (k+1) c3 F5 H8 R6 o6 j7 c7 J (by lia) ⟨S6,a5,c1,all.mp (W (by lia))⟩
  ·have d1:¬ ((D.sum:Nat):Int)=0:=dec_false d
   exact go λ⟨_,_,_,z⟩=>d1 (by have:=u (all.mpr z);lia)
 ·have c1:¬ 18<=S6.tot:=dec_false c
  exact go λ⟨S,e,z,_⟩=>c1 (by rw[a5]at e;cases e;exact z)
variable (ZcE:FB P w K mg base (CX0) 10 "_law_got" Zgw Zjg ["_law_rail","_law_frames_here","_law_post","_law_bad"] (a9G K Zo CA))
include ZP Zag Z6 Zb ZcL ZdD in
theorem Zmr (F0:GFm K mg "_law_got" ZjD Zgw Zjg):type_of% ZcE:=by
 refine fbK ["_law_rail","_law_frames_here","_law_post","_law_bad","_law_found","_law_source","_law_due","_law_names"] F0 λH Q J hr h=>?_
 obtain⟨r,fl,R,o,w,i,p,S,ts,fs,rfl,hR,eS,b0,hF,f5,hu,q⟩:=h
 refine⟨_,(aD (aX (i:=4) J rfl (Or.inl rfl) (bN Zb ZcL ZdD.1 hr.mo ZdD.2 .nil aK (dv 0) (aA (dv 2) aC))) (aD (fQ YW rfl (fU rfl Z6 (aA aG aC)) (dN (i:=5) J rfl (Or.inr rfl)) (aD (iU (j:=6) J rfl rfl rfl (ix:=[5]) (cW (dv 1)) (λC L M N at0=>(pG (aW dU (cC (jJ (K:=K)) (dv 0) aG (λ_ _=>rfl)) (dv 1) (aU _)))) (λC L M N at0=>(bO (aA (cC (jJ (K:=K)) (dv 0) aG (λ_ _=>rfl)) (aA (cC (jJ (K:=K)) (dv 0) aG (λ_ _=>rfl)) aC)))) rfl rfl (by rfl) (show ([".0","_law_one","_law_source"]:List Str).Nodup by decide +kernel)) (aD (aX (i:=7) J rfl (Or.inr rfl) (gU rfl (ix:=[]) (cW (dv 6)) (λC L M N at0=>fX) (λC L M N at0=>(cC (jJ (K:=K)) (dv 0) aG (λ_ _=>rfl))) rfl rfl (by rfl) (show ([".0","_law_one"]:List Str).Nodup by decide +kernel))) (aD (iV (bH (aW dU (dv 5) (dv 2) (aU _)) (aF (aX (i:=6) J rfl (Or.inl rfl) (cY aC))) aR)) (aF (bH (PW.pt (jV (aW tQ (dv 5) (dv 3) (aU _)) (jH (aW (b1X hr.units) (gU rfl (ix:=[7]) (cW (dv 4)) (λC L M N at0=>(pG (aW (b3A (K:=K)) (cC (jJ (K:=K)) (dv 0) aG (λ_ _=>rfl)) (dv 1) rfl))) (λC L M N at0=>(dv 0)) rfl rfl (by rfl) (show ([".0","_law_one","_law_names"]:List Str).Nodup by decide +kernel)) (dv 6) (aU _))))) (aF (aM iW)) aR)))))) (aF (aM iW)))),?_⟩
 have il:i<R.ps.length:=(Ye.mp eS).1
 have lt:=hF.ln
 refine⟨⟨w.dx,_,hR.er,rfl⟩,r,R,o,w,_,rfl,hR,λi' S' ei O=>?_,λno=>absurd ⟨by lia,by lia⟩ no⟩
 rw[show i'=i by lia,eS]at O
 cases O
 refine⟨by lia,λl xs H1 hl g1 e1 f1=>?_⟩
 have P:cQ H1 (λ_=>True) xs S.up:=f1.at_
 have lx:xs.length=S.up.length:=P.len
 refine⟨⟨by decide,by decide⟩,lU (lo:=0) (n:=5) (λk σ b=>(∃x5 x6 x7,σ= [some (.ref r),some (.ref fl),some (.int ((i:Nat):Int)),some (.int ((p:Nat):Int)),some (.ref l),x5,x6,x7])/\Same H1 b) ⟨⟨_,_,_,rfl⟩,Vd _⟩ ?_ ?_⟩
 ·rintro k σ H2 hk ⟨⟨x5,x6,x7,rfl⟩,Y⟩
  rw[XG]
  have a0:=g1.trans Y
  have F:=hF.same a0
  refine⟨⟨_,Vb F.at_⟩,dO (xs:=ts.map V.ref) (λj s b=>Same H2 b/\cQ b (λ_=>True) s (dJ (fs.take j) k)) ?_ ?_ ?_ ?_ ?_⟩
  ·rintro j s b m ⟨_,h⟩
   rw[h.len]
   have:=Xq (λf:Nat×Nat×List Int=>decide (f.1=k)) (fs.take j)
   unfold dJ
   rw[Yq]at this
   rw[Ya]
   exact cD (by lia)
  ·exact⟨Vd _,.nil⟩
  ·rintro j s b m ⟨g,_⟩
   exact Vb (g _ _ F.at_)
  ·rintro j x s b I ⟨g,u⟩
   rw[Yo]at I
   obtain⟨t,ht,rfl⟩:=YG.mp I
   have m:j<fs.length:=by rw[<-lt];exact(Ye.mp ht).1
   obtain⟨f,E⟩:∃f,fs[j]? =some f:=⟨_,Yb m⟩
   obtain⟨d,G,ed⟩:=F.tp j t f ht E
   rw[sY E]
   conv=>whnf
   refine⟨_,_,Vc (g _ _ G),rfl,bL (λc=>?_) (λc=>?_)⟩
   ·have y:f.1=k:=by have z:((f.1:Nat):Int)=((k:Nat):Int):=dec_true c;lia
    refine⟨_,_,Vc (g _ _ G),rfl,_,_,Vc (g _ _ G),rfl,aL rfl,λt2 a1=>?_⟩
    generalize eU:upd b t2 _=Z
    have T:=nS a1 eU
    have ep:=nE eU
    clear eU
    refine⟨g.trans T,?_⟩
    rw[if_pos y]
    exact(u.imp (λx v e _=>T x v e) λ_ z=>z).snoc ⟨d,ep,(g.trans T) _ _ ed,trivial⟩
   ·have y:¬ f.1=k:=λz=>dec_false c (by rw[z])
    refine⟨g,?_⟩
    rw[if_neg y,YH]
    exact u
  rintro s Z ⟨T,u⟩ l3 a2
  rw[Ya,lt,Yi (Yc _)]at u
  have k3:=aJ a2 (.lst s)
  have e3:=aB (H:=Z) (a:=l3) (o:= .lst s)
  have B:cQ (upd Z l3 (.lst s)) (λ_=>True) s (dJ fs k):=u.imp (λx v e _=>k3 x v e) λ_ z=>z
  generalize upd Z l3 _=H4 at k3 e3 B
  have lg:(dJ fs k).length<=5:=by
   unfold dJ
   rw[Ya]
   exact YY (Xq _ _) f5
  have a3:=T.trans k3
  refine⟨⟨_,Vb e3⟩,dO (xs:=s) (λj zs b=>b=H4/\zs=(((dJ fs k).take j).map λf=>((f.1:Nat):Int)).map V.int) ?_ ?_ ?_ ?_ ?_⟩
  ·rintro j zs b m ⟨_,rfl⟩
   rw[Ya,Ya,Yq]
   exact cD (by lia)
  ·exact⟨rfl,rfl⟩
  ·rintro j zs b m ⟨rfl,_⟩
   exact Vb e3
  ·rintro j x zs b I ⟨rfl,rfl⟩
   obtain⟨t,f,rfl,E,hf⟩:=B.get I
   obtain⟨d,G,ed,_⟩:=id hf
   have m:j<(dJ fs k).length:=(Ye.mp E).1
   have tk:(dJ fs k).take (j+1)=(dJ fs k).take j++[f]:=by rw[Yg m,Yp ((Yb m).symm.trans E)]
   rw[tk,Yr,Yr]
   conv=>whnf
   exact⟨_,_,Vc G,rfl,rfl,rfl⟩
  rintro zs H5 ⟨rfl,rfl⟩ l5 a4
  rw[B.len,Yi (Yc _),show (dJ fs k).map (λf=>((f.1:Nat):Int))=(mH fs k).map (λn=>((n:Nat):Int)) from (List.map_map ..).symm]
  generalize eU:upd H5 l5 _=H6
  have k5:=nS a4 eU
  have e5:=nE eU
  clear eU
  have a5:=a3.trans k5
  refine⟨λU b=>∃(dl:Addr)(ds:List V),U= [some (.ref r),some (.ref fl),some (.int ((i:Nat):Int)),some (.int ((p:Nat):Int)),some (.ref l),some (.int ((k:Nat):Int)),some (.ref dl),some (.ref l5)]/\Same H6 b/\b dl=some (.lst ds)/\cQ b (λ_=>True) ds (if k=i then [] else dJ fs k),?_,?_⟩
  ·refine bL (λc=>?_) (λc=>?_)
   ·have y:k=i:=by have z:((k:Nat):Int)=((i:Nat):Int):=dec_true c;lia
    refine⟨aL rfl,λl6 a6=>⟨l6, [],rfl,aJ a6 _,aB,?_⟩⟩
    rw[if_pos y]
    exact .nil
   ·have y:¬ k=i:=λz=>dec_false c (by rw[z])
    refine⟨l3,s,rfl,Vd _,k5 _ _ e3,?_⟩
    rw[if_neg y]
    exact B.imp (λx v e _=>k5 x v e) λ_ z=>z
  rintro U H7 ⟨dl,ds,rfl,g7,a7,a8⟩
  have D:=Y.trans (a5.trans g7)
  refine bL (λc=>?_) (λc=>?_)
  rotate_left
  ·exact⟨⟨_,_,_,rfl⟩,D⟩
  have kp:k≠p:=λz=>by
   have c2:(!decide (((k:Nat):Int)=((p:Nat):Int)))=true:=c
   rw[z,Yj rfl]at c2
   cases c2
  have W:cQ H7 (λ_=>True) xs S.up:=P.imp (λx v e _=>D x v e) λ_ z=>z
  have X:=D _ _ e1
  refine⟨⟨_,Vb X⟩,dO (xs:=xs) (λj zs b=>b=H7/\cQ H7 (λ_=>True) zs (flN fs k (S.up.take j))) ?_ ?_ ?_ ?_ ?_⟩
  ·rintro j zs b m ⟨_,h⟩
   rw[h.len]
   have z:(flN fs k (S.up.take j)).length<=(S.up.take j).length:=Xq _ _
   rw[Yq]at z
   exact cD (by lia)
  ·exact⟨rfl,.nil⟩
  ·rintro j zs b m ⟨rfl,_⟩
   exact Vb X
  ·rintro j x zs b I ⟨rfl,A⟩
   obtain⟨t,f,rfl,E,hf⟩:=W.get I
   obtain⟨d,G,ed,_⟩:=id hf
   have m:j<S.up.length:=(Ye.mp E).1
   have tk:S.up.take (j+1)=S.up.take j++[f]:=by rw[Yg m,Yp ((Yb m).symm.trans E)]
   rw[tk,qR]
   conv=>whnf
   refine⟨_,_,Vc G,rfl,_,.inl (Vb (g7 _ _ e5)),bL (λc=>?_) (λc=>?_)⟩
   ·have y:f.1∈mH fs k:=YK (wI.symm.trans c)
    exact⟨rfl,by rw[if_pos y];exact A.snoc hf⟩
   ·have y:¬ f.1∈mH fs k:=λz=>c (wI.trans (Yj z))
    exact⟨rfl,by rw[if_neg y,YH];exact A⟩
  rintro zs H8 ⟨rfl,A⟩ l8 a9
  rw[lx,Yi (Yc _),hu k kp]at A
  generalize eU:upd H8 l8 _=H9
  have k8:=nS a9 eU
  have e8:=nE eU
  clear eU
  refine⟨_,.lst (Vb e8) ((A.imp (λx v e _=>k8 x v e) λ_ z=>z).dvs),.lst (Vb (k8 _ _ a7)) ((a8.imp (λx v e _=>k8 x v e) λ_ z=>z).dvs),qP _,?_⟩
  conv=>whnf
  exact⟨⟨_,_,_,rfl⟩,D.trans k8⟩
 rintro σ H2 ⟨⟨x5,x6,x7,rfl⟩,Y⟩
 exact q _ (g1.trans Y)
variable (Zm9:FB P w K mg base (CX0) 15 "law" ZmK Zm4 ["_law_script"] (pD K))
include Zz ZcC ZP Zag Zft Z6 ZaQ ZF Zb ZeC Zat Zaa Zcp ZbQ Zek Zel Zdi Zdh Zcv ZaR Zaj Ze Zb9 Zbc Zb8 ZcE in
theorem Zm7 (F0:GFm K mg "law" Zm5 ZmK Zm4):type_of% Zm9:=by
 refine fbK ["_law_script","_law_posts","_law_bad","_law_frames_here","_law_sizes","_law_rail","_law_one","_law_tries","_law_event","_law_post"] F0 λH Q T s h=>?_
 obtain⟨a,ns,rfl,L,I,hT,q⟩:=h
 refine⟨_,(aD (aX (i:=1) T rfl (Or.inl rfl) aG) (aD (iV (bH (aW dU (aQ Ze.1 s.mo rfl Ze.2.2.2 Ze.2.2.1 Ze.2.1 .nil aK (aA (dv 0) (aA aG (aA aG aC)))) aG (aU _)) (aF (aX (i:=1) T rfl (Or.inl rfl) (aV cM aG (aQ Ze.1 s.mo rfl Ze.2.2.2 Ze.2.2.1 Ze.2.1 .nil aK (aA (dv 0) (aA aG (aA aG aC))))))) aR)) (aD (aX (i:=2) T rfl (Or.inr rfl) (aQ Ze.1 s.mo rfl Ze.2.2.2 Ze.2.2.1 Ze.2.1 .nil aK (aA (dv 0) (aA aG (aA (dv 1) aC))))) (aD (aX (i:=3) T rfl (Or.inl rfl) (aQ Zbc.1 s.mo rfl Zbc.2.2.2 Zbc.2.2.1 Zbc.2.1 .nil aK (aA (dv 0) (aA (dv 1) aC)))) (aD (iU (j:=4) T rfl rfl rfl (ix:=[2]) (cW (dv 3)) (λC fp s0 H0 at0=>(pG (aW dU (cC (jJ (K:=K)) (dv 0) aG (λ_ _=>rfl)) (dv 1) (aU _)))) (λC fp s0 H0 at0=>(aQ Zb9.1 s.mo rfl Zb9.2.2.2 Zb9.2.2.1 Zb9.2.1 .nil aK (aA (cC (jJ (K:=K)) (dv 0) aG (λ_ _=>rfl)) (aA (cC (jJ (K:=K)) (dv 0) aG (λ_ _=>rfl)) aC)))) rfl rfl (by rfl) (show ([".0","_law_one","_law_bad"]:List Str).Nodup by decide +kernel)) (aD (aX (i:=5) T rfl (Or.inl rfl) (cF ZeC Zdi.1 s.mo rfl Zag Zdi.2 .nil aK (aA (aV a3S (cY (aA (bO (aA aG (aA aG aC))) aC)) (dv 1)) (aA (bZ (aV cM aG (aV jD aG (aQ Ze.1 s.mo rfl Ze.2.2.2 Ze.2.2.1 Ze.2.1 .nil aK (aA (dv 0) (aA aG (aA aG aC))))))) aC)))) (aD (fQ YW rfl (cW (dv 3)) (dN (i:=6) T rfl (Or.inl rfl)) (aF (bD (bN Zb Zcp Zdh.1 s.mo Zdh.2 .nil aK (dv 5) (aA (cC iB (dv 6) aG (λ_ _=>rfl)) (aA (cC iB (dv 6) aG (λ_ _=>rfl)) (aA (gJ iR rfl ZaQ kE (aA (cC iB (dv 6) aG (λ_ _=>rfl)) aC)) aC))))))) (aD (aX (i:=7) T rfl (Or.inl rfl) (aQ Zb8.1 s.mo rfl Zb8.2.2.2 Zb8.2.2.1 Zb8.2.1 .nil aK (aA (dv 0) (aA (dv 5) (aA (dv 2) (aA (dv 4) (aA (dv 1) (aA (aV cM aG (aV jD aG (bI fD rfl ZF cU (aA (dv 3) aC)))) aC)))))))) (aD (bH (PW.pt (vV (aW vC (dv 7) aG (aU _)) (uA (gH (cJ (bN Zb Zaa Zaj.1 s.mo Zaj.2 .nil aK (dv 5) (aA (dv 2) aC))))))) (aF (aM iW)) aR) (aD (fQ YW rfl (cW (bT Zb ZbQ Zcv.1 s.mo Zcv.2 .nil aK (dv 5))) (dN (i:=8) T rfl (Or.inl rfl)) (aF (bH (PW.pt (jV (aW dU (cC iB (dv 8) aG (λ_ _=>rfl)) bA (aU _)) (jH (aW tQ (cC iB (dv 8) aG (λ_ _=>rfl)) (dv 2) (aU _))))) (aF (aM iW)) aR))) (aD (fQ YW rfl (fU rfl Z6 (aA (dv 1) aC)) (dN (i:=9) T rfl (Or.inl rfl)) (aD (bH (aW dU (dv 9) (dv 2) (aU _)) (aF vY) aR) (aF (bH (PW.pt (vV (cJ (bN Zb Zaa Zaj.1 s.mo Zaj.2 .nil aK (dv 5) (aA (dv 9) aC))) (vV (aW (b1X s.units) (bN Zb Zat ZaR.1 s.mo ZaR.2 .nil aK (dv 5) (aA (dv 9) aC)) (cY aC) (aU _)) (uA (gH (cJ (aQ ZcE.1 s.mo rfl ZcE.2.2.2 ZcE.2.2.1 ZcE.2.1 .nil aK (aA (dv 5) (aA (dv 3) (aA (dv 9) (aA (dv 2) aC))))))))))) (aF (aM iW)) aR)))) (aF (aM iW))))))))))))),?_⟩
 refine⟨λa8 b=>(∃m:Nat,a8= [some (.ref a),some (.int ((m:Nat):Int)),none,none,none,none,none,none,none,none]/\3<=m/\m<=5)/\H=b,?_,?_⟩
 ·refine⟨a,ns,0,8,rfl,L,I,by decide,by decide,by decide,λu u0 u1=>?_⟩
  conv=>whnf
  refine bL (λc=>?_) (λc=>?_)
  ·refine⟨a,ns,1,2,rfl,L,I,by decide,by decide,by decide,λw w0 w1=>?_⟩
   obtain⟨w,rfl⟩:=YQ w0
   exact⟨⟨4+w,rfl,by lia,by lia⟩,rfl⟩
  ·exact⟨⟨3,rfl,by decide,by decide⟩,rfl⟩
 rintro a8 H0 ⟨⟨m,rfl,m3,m5⟩,rfl⟩
 refine⟨a,ns,2,_,rfl,L,I,by decide,by decide,by lia,λp p0 p1=>?_⟩
 obtain⟨p,rfl⟩:=YQ p0
 have pm:p<m:=by lia
 refine⟨a,ns,m,rfl,L,I,m3,m5,λfl ts fs H1 f8 g1 A hF d1 n1 n5=>?_⟩
 have lt:=A.ln
 refine⟨⟨_,Vb A.at_⟩,dO (xs:=ts.map V.ref) (λj ys b=>Same H1 b/\ys=nV (zsP p (fs.take j))) ?_ ?_ ?_ ?_ ?_⟩
 ·rintro j ys b hj ⟨_,rfl⟩
  have:=Xq (λf:Nat×Nat×List Int=>decide (f.1=p)) (fs.take j)
  unfold nV zsP dJ
  rw[Yq]at this
  rw[Ya,Ya,Ya]
  exact cD (by lia)
 ·exact⟨Vd _,rfl⟩
 ·rintro j ys b hj ⟨g,_⟩
  exact Vb (g _ _ A.at_)
 ·rintro j x ys b U ⟨g,rfl⟩
  rw[Yo]at U
  obtain⟨t,ht,rfl⟩:=YG.mp U
  have hj:j<fs.length:=by rw[<-lt];exact(Ye.mp ht).1
  obtain⟨f,ef⟩:∃f,fs[j]? =some f:=⟨_,Yb hj⟩
  obtain⟨d,et,ed⟩:=A.tp j t f ht ef
  obtain⟨_,f1,f2,f3⟩:=hF.ok f (Yu ef)
  unfold zsP
  rw[sY ef,Yr]
  conv=>whnf
  refine⟨_,_,Vc (g _ _ et),rfl,bL (λc=>?_) (λc=>?_)⟩
  ·have c1:f.1=p:=by have z:((f.1:Nat):Int)=((p:Nat):Int):=dec_true c;lia
   refine⟨_,_,Vc (g _ _ et),rfl,_,_,Vc (g _ _ et),rfl,d,f.2.1,f.2.2,rfl,Vb (g _ _ ed),f1,f2,f3,λH3 g3=>⟨g.trans g3,?_⟩⟩
   rw[if_pos c1]
   unfold nV
   rw[Yr]
   rfl
  ·have c1:¬ f.1=p:=λz=>dec_false c (by rw[z])
   refine⟨g,?_⟩
   rw[if_neg c1]
   show _=nV (_++[])
   rw[YH]
 rintro ys H2 ⟨g2,rfl⟩ zl c9
 rw[Ya,lt,Yi (Yc _)]
 generalize eU:upd H2 zl _=H3
 have k2:=nS c9 eU
 have a9:=nE eU
 clear eU
 have b0:=g2.trans k2
 refine⟨aL rfl,λt0 b1=>?_⟩
 generalize eU:upd H3 t0 _=H7
 have g7:=nS b1 eU
 have b2:=nE eU
 clear eU
 refine⟨aL rfl,λs1 b3=>?_⟩
 generalize eU:upd H7 s1 _=H8
 have g8:=nS b3 eU
 have b4:=nE eU
 clear eU
 refine⟨_,b4,⟨by lia,by lia⟩,by rw[YJ];exact Xx (cD (by show 1*m<=1000;lia)),λcl b5=>?_⟩
 rw[YJ,b7G]
 generalize eU:upd H8 cl _=H9
 have g9:=nS b5 eU
 have b6:=nE eU
 clear eU
 have a3:=g7.trans (g8.trans g9)
 have N:=b0.trans a3
 have F:=g1.trans N
 refine⟨λx b=>∃v:Nat,x= .int ((v:Nat):Int)/\(v=1\/v=3\/v=5)/\b=H9,?_,?_⟩
 ·refine⟨a,ns,5,3,rfl,F.seq L,I,by decide,by decide,by decide,λu u0 u1=>⟨⟨by decide,jA (by lia) (by lia)⟩,?_⟩⟩
  obtain⟨u,rfl⟩:=YQ u0
  exact⟨1+2*u,YO V.int (by show (1:Int)+2*((u:Nat):Int)=((1+2*u:Nat):Int);lia),by lia,rfl⟩
 rintro x B ⟨v,rfl,hv,rfl⟩
 have v1:1<=v:=by lia
 have v5:v<=5:=by lia
 have C4:Cx4 m v p fs:=⟨m3,pm,v1,v5,hF,λf hf=>b6L (d1 f hf)⟩
 have hC:xP B cl (chI (List.replicate m (0,0))):=⟨List.replicate m t0,by rw[b6,List.map_replicate],by rw[Ya,YD,YD],λi t c h1 h2=>by
  rw[Yo]at h2
  obtain⟨c',ec,rfl⟩:=YG.mp h2
  rw[Xa (Yu h1),Xa (Yu ec)]
  exact(g8.trans g9) _ _ b2⟩
 have b7:∀c∈chI (List.replicate m (0,0)),a3P c.1 c.2 ((v:Nat):Int):=λc hc=>by
  obtain⟨d,hd,rfl⟩:=YR.mp hc
  rw[Xa hd]
  exact⟨by decide,by decide,by lia⟩
 have lR:(chI (List.replicate m (0,0))).length=m:=by rw[Ya,YD]
 refine λr dr s a4 d0=>⟨r,dr,cl,_,_,rfl,aB,hC.keep (λx u _ e=>by rw[aH (aP e s),aH (aP e a4)];exact e),by lia,λ_ d3 o hR b9 hk=>⟨rfl,?_⟩,λD=>absurd ⟨⟨by lia,by lia⟩,b7⟩ D⟩
 obtain⟨D,a5⟩:=a7G s a4 b9 hk
 have O:=F.trans a5
 have j0:J95 Zo CA 965 (λx=>if x=965 then none else B x) d3 r (R0 (chI (List.replicate m (0,0))) ((v:Nat):Int)) o:=by
  refine⟨hR,?_,λx u e=>?_⟩
  ·obtain⟨W,h1,h2,h3⟩:=hT
   have nx:∀x u,H x=some u->¬ o x:=λx u e z=>by have y:=F _ _ e;rw[D x z]at y;cases y
   exact⟨nx _ _ h1,W,O _ _ h1,h2,h3.imp id λ⟨c',a',b'⟩=>⟨c',a',O _ _ b',nx _ _ b'⟩⟩
  ·by_cases z:x=965
   ·rw[if_pos z]at e;cases e
   ·rw[if_neg z]at e
    exact⟨a5 _ _ e,λy=>(by rw[D x y]at e;cases e),z⟩
 have tP:∀{x u},B x=some u->(∀W,u≠HO.tbl W)->x≠965:=λ{x u} e n z=>by
  obtain⟨W,h1,_⟩:=hT
  rw[z,F _ _ h1]at e
  cases e
  exact n _ rfl
 have f9:∀{x u},B x=some u->(∀W,u≠HO.tbl W)->(λx=>if x=965 then none else B x) x=some u:=λ{x u} e n=>by dsimp only;rw[if_neg (tP e n)];exact e
 have gS:∀x u,H x=some u->x≠965->(λx=>if x=965 then none else B x) x=some u:=λx u e n=>by dsimp only;rw[if_neg n];exact F _ _ e
 have E:a3R (λx=>if x=965 then none else B x) fl ts fs:=⟨f9 (N _ _ A.at_) (λW=>by simp),A.ln,λi t f h1 h2=>by
  obtain⟨d,a1,a2⟩:=A.tp i t f h1 h2
  exact⟨d,f9 (N _ _ a1) (λW=>by simp[frT]),f9 (N _ _ a2) (λW=>by simp)⟩⟩
 have a0:=f9 (a3 _ _ a9) (λW=>by simp)
 generalize (λx=>if x=965 then none else B x)=F0 at j0 gS E a0
 have X:=uZ.start v (List.replicate m (0,0)) fs
 rw[YD]at X
 have c0:∀i,(λi=>(List.replicate m ((0,0):Nat×Nat)).getD i (0,0)) i=(0,0):=λi=>by
  show (List.replicate m ((0,0):Nat×Nat)).getD i (0,0)=(0,0)
  rw[Yf,List.getElem?_replicate]
  split <;> rfl
 rw[show (λi=>(List.replicate m ((0,0):Nat×Nat)).getD i (0,0))=λ_=>(0,0) from funext c0]at X
 generalize R0 (chI (List.replicate m (0,0))) ((v:Nat):Int)=R5 at j0 X
 clear f9 tP b7 hC b9 hk D d0 s a4 hR b6 b4 b2 A a9 g7 g8 g9 b5 b3 b1 a5 lR b0 a3 N O c0
 have sq:∀{b:Hp},Same F0 b->SqL K b a (ns.map V.int):=λj=>SqL.keepT L hT λx u e n=>j _ _ (gS x u e n)
 refine⟨⟨_,Vb (j0.sm _ _ E.at_)⟩,iD (xs:=ts.map V.ref) (λi J b=>(∃x,J= [some (.ref a),some (.int ((m:Nat):Int)),some (.int ((p:Nat):Int)),some (.ref fl),some (.ref zl),some (.ref r),x,none,none,none])/\∃(R:RS)(o:Own),J95 Zo CA 965 F0 b r R o/\uZ m v (λ_=>(0,0)) fs i R) ⟨⟨_,rfl⟩,R5,o,j0,X⟩ ?_ ?_ ?_⟩
 ·rintro i J b hi ⟨_,R1,o1,Y,_⟩
  exact Vb (Y.sm _ _ E.at_)
 ·rintro i y J b U ⟨⟨y',rfl⟩,R1,o1,Y,M⟩
  rw[Yo]at U
  obtain⟨tt,c3,rfl⟩:=YG.mp U
  have d4:i<fs.length:=by rw[<-E.ln];exact(Ye.mp c3).1
  obtain⟨f1,a6⟩:∃f,fs[i]? =some f:=⟨_,Yb d4⟩
  obtain⟨d,k1,k2⟩:=E.tp i tt f1 c3 a6
  have a7:=Y.sm _ _ k1
  have d5:=Y.sm _ _ k2
  obtain⟨fp,fo⟩:=hF.ok f1 (Yu a6)
  obtain⟨w,hR⟩:=Y.rl
  refine⟨⟨w.dx,_,hR.er,rfl⟩,_,_,Vc a7,rfl,_,_,Vc a7,rfl,_,.ref d,Vc a7,rfl,_,.inl (Vb d5),λl hl=>?_⟩
  generalize eU:upd b l _=H2
  have g1:=nS hl eU
  have el:=nE eU
  have j2:=Y.same g1
  clear eU
  obtain⟨w2,G⟩:=j2.rl
  obtain⟨n0,d6,d7⟩:=M.hand hF a6
  have ol:=M.ol
  have f7:=fo.2.1
  refine⟨r,R1,o1,w2,_,_,l,f1.2.2,rfl,G,Vb el,by lia,by lia,λS L=>?_,λD=>absurd ⟨by lia,by rw[M.ln];lia⟩ D,λ_ D=>absurd fo.ok D,λi' S ei eS _=>?_⟩
  ·obtain⟨j,hj,e⟩:=XI L
   have:=M.ps j (by rw[<-M.ln];exact hj)
   rw[Yb hj,e]at this
   cases this
   have z:=Xq (λf:Nat×Nat×List Int=>decide (f.1=j)) (fs.take i)
   show (dJ (fs.take i) j).length<900
   unfold dJ
   rw[Ya]
   rw[Yq]at z
   lia
  ·have d8:i'=f1.1:=by lia
   subst d8
   rw[d6]at eS
   cases eS
   refine⟨((f1.1:Nat):Int),by rw[n0],λD=>absurd rfl D,λ_ H3 o3 d9 m3=>⟨⟨_,rfl⟩,_,o3,j2.mv d9 m3,?_⟩⟩
   rw[YJ]
   exact d7
 rintro J g0 ⟨⟨y,rfl⟩,R1,o1,Y,M⟩
 rw[Ya,E.ln]at M
 have c4:=M.ps
 rw[Yi (Yc _)]at c4
 have at0:∀(i:Nat)(S:PS),R1.ps[i]? =some S->S=B91 (λ_=>(0,0)) v fs i:=λi S e=>by
  have:=c4 i (by rw[<-M.ln];exact(Ye.mp e).1)
  rw[e]at this
  exact Yp this
 have e0:Rv4 m v p fs none 0 (270+90*fs.length) 0 R1:=by
  refine⟨M.ln0,Iv.start C4 n1 M.ln at0,λx U=>(by rw[M.ev]at U;cases U),λS L=>?_,λS L=>?_⟩
  ·obtain⟨i,hi⟩:=Xg.mp L
   rw[at0 i S hi]
   exact Yc 0
  ·obtain⟨i,hi⟩:=Xg.mp L
   rw[at0 i S hi]
   have z:=Xq (λf:Nat×Nat×List Int=>decide (f.1=i)) fs
   show (dJ fs i).length<=9
   unfold dJ
   rw[Ya]
   lia
 have e1:¬ Dn4 p R1.ps:=λ⟨S,e,t,_⟩=>by
  rw[at0 p S e]at t
  exact absurd t (by decide:¬ (18:Int)<=0)
 refine⟨_,.inl (Vb (Y.sm _ _ E.at_)),?_⟩
 rw[Ya,lt]
 refine⟨⟨by decide,jA (by lia) (by lia)⟩,a,ns,r,F0,R1,o1,m,v,p,fs,zl,zsP p fs,270+90*fs.length,450+140*fs.length,YO (λz=>[V.ref a,V.ref r,V.int ((p:Nat):Int),V.ref zl,V.int ((m:Nat):Int),V.int z]) (by show (450:Int)+140*((fs.length:Nat):Int)=((450+140*fs.length:Nat):Int);lia),λb g=>sq g,I,Y,⟨C4,m5,by lia,by lia,by lia,λz hz=>?_,λf hf=>?_⟩,a0,e0,e1,λy2 n2 t2 oo F1 e2 R2 o2 j2 sF rv t8 dn=>?_⟩
 ·obtain⟨f,hf,rfl⟩:=YR.mp hz
  have:=kO (n:=f.1) (ds:=f.2) (hF.ok _ (iZ hf)).2
  show 27<=(wr f.1 f.2).length/\(wr f.1 f.2).length<=200
  lia
 ·unfold zsP
  cases c:dJ fs p with
  |nil=>rw[c]at hf;cases hf
  |cons a r=>rw[c]at hf;cases hf;exact⟨_,rfl⟩
 have g4:=rv.ln.ps
 obtain⟨Sp,e3,c5,g5⟩:=id dn
 have y3:=rv.iv.fc.y3
 obtain⟨w2,G⟩:=j2.rl
 refine bL (λc=>absurd (dec_true c) (show ¬ ((3:Int)<((y2:Nat):Int)) by lia)) (λ_=>?_)
 refine⟨⟨w2.dx,_,G.er,rfl⟩,r,R2,o2,w2,_,rfl,G,λi' S' ei P=>?_,λD=>absurd ⟨by lia,by lia⟩ D⟩
 rw[show i'=p by lia,e3]at P
 cases P
 unfold gB
 rw[Yj c5]
 conv=>whnf
 refine⟨⟨w2.dx,_,G.er,rfl⟩,r,R2,o2,w2,rfl,G,λle e6=>?_⟩
 generalize eU:upd e2 le _=H14
 have c6:=nS e6 eU
 have c7:=nE eU
 have E2:=G.ev.imp λx xs z=>c6 x _ z
 have j3:=j2.same c6
 clear eU
 refine⟨⟨_,Vb c7⟩,iD (xs:=w2.evs) (λi J b=>(∃x,J= [some (.ref a),some (.int ((m:Nat):Int)),some (.int ((p:Nat):Int)),some (.ref fl),some (.ref zl),some (.ref r),y,some (.int ((y2:Nat):Int)),x,none])/\b=H14) ⟨⟨_,rfl⟩,rfl⟩ (λi J b _ z=>z.2▸Vb c7) ?_ ?_⟩
 ·rintro i x J b U ⟨⟨x',rfl⟩,rfl⟩
  obtain⟨t,e,rfl,ee,et⟩:=E2.get U
  refine⟨_,_,Vc et,rfl,bL (λc=>?_) (λc=>⟨⟨_,rfl⟩,rfl⟩)⟩
  have c1:e.2.2=("off":Str):=dec_true c
  have c2:=rv.ev e (Yu ee) c1
  refine⟨_,_,Vc et,rfl,?_⟩
  rw[c2]
  refine bL (λd=>?_) (λd=>⟨⟨_,rfl⟩,rfl⟩)
  have d2:(!decide (((p:Nat):Int)=((p:Nat):Int)))=true:=d
  rw[Yj rfl]at d2
  cases d2
 rintro J g6 ⟨⟨x',rfl⟩,rfl⟩
 refine⟨⟨by lia,by lia⟩,?_⟩
 rw[YJ]
 refine lU (lo:=0) (n:=m) (λk J b=>(∃x,J= [some (.ref a),some (.int ((m:Nat):Int)),some (.int ((p:Nat):Int)),some (.ref fl),some (.ref zl),some (.ref r),y,some (.int ((y2:Nat):Int)),x',x])/\J95 Zo CA 965 F1 b r R2 o2) ⟨⟨_,rfl⟩,j3⟩ ?_ ?_
 ·rintro k J e7 hk ⟨⟨x,rfl⟩,j4⟩
  rw[XG]
  refine bL (λc=>⟨⟨_,rfl⟩,j4⟩) (λc=>?_)
  have kp:k≠p:=λz=>dec_false c (by rw[z])
  have eS:=Yb (l:=R2.ps) (i:=k) (by lia)
  obtain⟨e8,sw,su⟩:=rv.fin C4 dn eS kp
  have e9:=rv.up _ (Yu eS)
  generalize R2.ps[k]'(by lia)=S at eS e8 sw su e9
  obtain⟨w4,Z⟩:=j4.rl
  refine⟨⟨w4.dx,_,Z.er,rfl⟩,r,R2,o2,w4,_,rfl,Z,λi' S' ei P=>?_,λD=>absurd ⟨by lia,by lia⟩ D⟩
  rw[show i'=k by lia,eS]at P
  cases P
  rw[Yl (show ¬ 18<=S.tot by lia)]
  conv=>whnf
  refine⟨⟨w4.dx,_,Z.er,rfl⟩,r,R2,o2,w4,_,rfl,Z,λi2 S2 h0 c8=>?_,λD=>absurd ⟨by lia,by lia⟩ D⟩
  rw[show i2=k by lia,eS]at c8
  cases c8
  refine⟨by rw[sw];exact YX _,λl4 h4 f0 h5 k4 e4 f4=>⟨aL rfl,λl5 f5=>?_⟩⟩
  rw[sw]at f4
  generalize eU:upd f0 l5 _=H18
  have k5:=nS f5 eU
  have e5:=nE eU
  have j5:=(j4.same k4).same k5
  clear eU
  refine⟨_,.lst (Vb (k5 _ _ e4)) (f4.same k5).at_.dvs,.lst (Vb e5) .nil,qP _,?_⟩
  conv=>whnf
  obtain⟨w5,f6⟩:=j5.rl
  refine⟨r,fl,R2,o2,w5,k,p,S,ts,fs,rfl,f6,eS,by lia,E.same (sF.trans j5.sm),n5,su,λh6 F=>?_⟩
  conv=>whnf
  exact⟨⟨_,rfl⟩,j5.same F⟩
 rintro J e7 ⟨⟨x,rfl⟩,j4⟩
 exact q _
set_option maxHeartbeats 0 in
include Zcj ZaB ZdQ ZQ Zla ZbC ZdR Zej ZeE Zz Ze1 Ze2 ZaX Zdy ZbD ZcM Zda Zdz ZeG Zfh ZbX Zeg ZgA Zlb Zc9 Ze0 Zcb ZcC ZP Zh0 ZdV Zef ZcY ZbE Zei Zdm Zeh Zfi ZeZ Ze3 Zag ZeF Zjk Zft Z6 Zlc ZaQ ZF Zld Zle Ze4 ZgB ZdP Zf Zc Zi Zbq Zg Zak Zd ZdO Zw Zh Zu Zk Zn ZD Zy Za ZaZ Zas Zee ZaT Zaw Zbp ZaH Zbo Zc8 ZcO ZaS Zb ZeB ZeC ZV ZE ZaN Zbh Za4 ZaY ZaO ZaA Zaf ZX ZS Za8 Zam ZeD Zal ZbM ZaU ZaP Zba Zbg Za3 ZaW Zay ZaM Zbt Zbu Zb1 ZaL Zbs Za2 ZaV Zb2 Zbx ZbS Zbr Za9 Zbi ZbT Zcl ZbU Zb4 ZbN Zbe Zbv Zb6 ZcI Zck ZbV Zb5 ZbO Zbf Zbw Zb7 ZcJ Zj Zcm Zco Zcn Zbb ZbP Zb3 ZcK ZbR Zcq Zat Zaa ZcL Zcp ZbQ Zek Zai Zx ZC Zt ZK Zr ZI ZL ZU Zv Z2 Z5 Zs Zau ZH ZR Z3 ZY Zm Zl Zaz ZM Z4 ZO ZJ Zah Zae Zav Zan ZT Zel in
theorem all_mk {l:W.OpenLaw}{fa:Addr}(B:mg "law"=some (.ref fa))
 :GF K mg "bits_of" Zko Zhm->GF K mg "number_of" ZiL ZfV->GF K mg "are_bytes" ZiJ ZfT->GF K mg "divided" Zkp Zhn->GF K mg "rest_of" Zkr Zhp->GF K mg "check_of" ZjF Zgy->GF K mg "is_name" Zkq Zho->GF K mg "put_in" ZlV ZiU->GF K mg "check_frame" Zhh Ze8->GF K mg "frame_bits" ZhW Zfj->GF K mg "wire_of" Zks Zhq->GF K mg "told_size" ZiM ZfW->GF K mg "is_complete" Zhj Zfa->GF K mg "read_frame" ZhX Zfk->GF K mg "begun_reader" Zgq ZeL->GF K mg "is_wanted" ZiK ZfU->GF K mg "copies" ZlU ZiT->GF K mg "unless_off" ZhZ Zfm->GF K mg "fault_of" ZjG Zgz->GF K mg "refusal_of" ZhY Zfl->GF K mg "blame_of" ZjE Zgx->GF K mg "check_votes" Zhi Ze9->GF K mg "check_choice" Zgr ZeM->GF K mg "_law_draw" ZiG ZfQ->GF K mg "_law_size" ZiI ZfS->GF K mg "_law_frames" Zhg Ze7->GF K mg "_law_aim" ZjC Zgv->GF K mg "_law_made" ZiH ZfR->GF K mg "_law_got" ZjD Zgw->GF K mg "law" Zm5 ZmK->MF K CA.streak "__init__" "Streak.__init__" Zhf Zed->MF K CA.streak "lengthen" "Streak.lengthen" Zfc ZcN->MF K CA.streak "is_full" "Streak.is_full" Zfz Zc7->MF K CA.streak "is_too_long" "Streak.is_too_long" ZeJ Zb0->MF K CA.reader "__init__" "Reader.__init__" Zg9 Zd7->MF K CA.reader "judged" "Reader.judged" ZfN Zdt->MF K CA.reader "hear" "Reader.hear" Zg8 Zd6->MF K CA.reader "plain" "Reader.plain" Zgl ZdJ->MF K CA.reader "frame" "Reader.frame" Zgk ZdI->MF K ZdS "__init__" "Tail.__init__" ZiE ZeY->MF K ZdS "says" "Tail.says" ZiF ZdU->MF K ZdS "place" "Tail.place" ZhV Zdx->MF K ZdS "is_fault" "Tail.is_fault" ZfP ZcH->MF K ZdS "judged_vote" "Tail.judged_vote" Ze6 ZbB->MF K ZdS "hear" "Tail.hear" ZiD ZdT->MF K CA.rtail "__init__" "ReadTail.__init__" ZfM Zds->MF K CA.stail "__init__" "SpeakTail.__init__" Zfy Zc6->MF K CA.count "__init__" "Count.__init__" ZhK Zen->MF K CA.count "is_quiet" "Count.is_quiet" Zfu Zc2->MF K CA.count "is_off" "Count.is_off" Zgf ZdE->MF K CA.count "number" "Count.number" Zgg ZeK->MF K CA.count "move" "Count.move" ZhL Zeo->MF K CA.count "fault" "Count.fault" ZgZ ZdX->MF K CA.count "blame" "Count.blame" ZgY ZdW->MF K CA.count "good" "Count.good" ZhJ Zem->MF K CA.free "__init__" "Free.__init__" Zit ZeN->MF K CA.speaks "__init__" "Speaks.__init__" Zhc Zea->MF K CA.reads "__init__" "Reads.__init__" ZhP Zes->MF K CA.intail "__init__" "InTail.__init__" Zg0 ZdY->MF K CA.flag "__init__" "Flagging.__init__" ZfI Zdo->MF K CA.settles "__init__" "Settles.__init__" Zgm ZdK->MF K CA.rests "__init__" "Rests.__init__" ZhS Zev->MF K CA.post "is_quiet" "Post.is_quiet" ZfL Zdr->MF K CA.post "is_off" "Post.is_off" Zg3 Zd1->MF K CA.post "has_frame" "Post.has_frame" Zfw Zc4->MF K CA.post "foremost_wire" "Post.foremost_wire" ZeI ZbZ->MF K CA.post "drop_foremost" "Post.drop_foremost" ZeH ZbY->MF K CA.post "hand_up" "Post.hand_up" Zgi ZdG->MF K CA.post "hand" "Post.hand" Zix ZeR->MF K CA.post "waits" "Post.waits" ZhN Zeq->MF K CA.post "got" "Post.got" ZjA Zff->MF K CA.post "__init__" "Post.__init__" Ziz ZeT->MF K CA.free "shown" "Free.shown" ZhM Zep->MF K CA.speaks "shown" "Speaks.shown" Zgp ZdN->MF K CA.reads "shown" "Reads.shown" Zha Zd8->MF K CA.intail "shown" "InTail.shown" Zgh ZdF->MF K CA.flag "shown" "Flagging.shown" Zfv Zc3->MF K CA.settles "shown" "Settles.shown" ZfO Zdu->MF K CA.rests "shown" "Rests.shown" Zhb Zd9->MF K CA.off "shown" "Off.shown" Ziw ZeQ->MF K CA.free "says" "Free.says" Ziu ZeO->MF K CA.speaks "says" "Speaks.says" Zhd Zeb->MF K CA.reads "says" "Reads.says" ZhQ Zet->MF K CA.intail "says" "InTail.says" Zg1 ZdZ->MF K CA.flag "says" "Flagging.says" ZfJ Zdp->MF K CA.settles "says" "Settles.says" Zgn ZdL->MF K CA.rests "says" "Rests.says" ZhT Zew->MF K CA.off "says" "Off.says" Zjy Zfd->MF K CA.off "step" "Off.step" Zjz Zfe->MF K CA.flag "step" "Flagging.step" ZfK Zdq->MF K CA.settles "step" "Settles.step" Zgo ZdM->MF K CA.rests "step" "Rests.step" ZhU Zex->MF K CA.free "step" "Free.step" Ziv ZeP->MF K CA.reads "step" "Reads.step" ZhR Zeu->MF K CA.speaks "step" "Speaks.step" Zhe Zec->MF K CA.intail "step" "InTail.step" Zg2 Zd0->MF K CA.post "stance" "Post.stance" Zg4 Zd2->MF K CA.post "says" "Post.says" ZiA ZeU->MF K CA.post "hear" "Post.hear" Ziy ZeS->MF K Zo "post_at" "Rail.post_at" Zgj ZdH->MF K Zo "__init__" "Rail.__init__" ZiC ZeW->MF K Zo "hand" "Rail.hand" ZiB ZeV->MF K Zo "make_turn" "Rail.make_turn" Zfx Zc5->MFc K Zo "turn" "Rail.turn" Zdn ZeX 969->MF K Zo "events" "Rail.events" Zg5 Zd3->MF K Zo "stance" "Rail.stance" Zg7 Zd5->MF K Zo "waits" "Rail.waits" ZhO Zer->MF K Zo "got" "Rail.got" ZjB Zfg->MF K Zo "is_off" "Rail.is_off" Zg6 Zd4->
 ∃fd:FuncData,(∀(s:Shared)(v:Value),BindsTo s fd ⟨[v], []⟩ [("_law_script",v)])/\∀base:Heap,K.In base->base.Ns mainGlobals mg->gD l.prog w K mg base CX0 15 fa fd ["_law_script"] (pD K):=by
 intro C D E G H I J L M N O P Q R S T U V X Y Z a0 a1 a2 a3 a4 a5 a6 a7 a a8 a9 b0 b1 b2 b3 b4 b5 b6 b7 b9 c0 c1 c2 c3 c4 c5 c6 c7 c8 c9 d0 d1 d2 d3 d4 d5 d6 d7 d8 d9 e0 e1 e2 e3 e4 e5 e6 e7 e8 e9 f0 f1 f2 f3 f4 f5 f6 f7 f8 f9 g0 g1 g2 g3 g4 g5 g6 g7 g8 g9 h0 h1 h2 h3 h4 h5 h6 h7 h8 h9 i0 i1 g i2 i3 i4 i5 i6
 cases B.symm.trans a.s.m
 refine⟨Exists.choose a,λs v=>?_,λbase _ _=>?_⟩
 ·obtain⟨_,_,_,_,_,_,_,_,_,e,_⟩:=a.s.F.ex
  rw[e]
  exact .of_eq rfl
 have h:=Zkc l.prog w mg base CA Zi Zai Zx a8.s
 have ZW:=ZhI l.prog w mg base CA Zi Zai Zx a9.s
 have ZN:=Zh7 l.prog w mg base CA Zcj Zi Zx b0.s
 have i7:=Zge l.prog w mg base CA Zcj Zi Zx b1.s
 have Z0:=ZmL l.prog w mg base ZaB Z6 C.s
 have ZA:=ZlS l.prog w mg base  D.s
 have i:=ZlQ l.prog w mg base ZdQ Zlc E.s
 have i8:=ZmM l.prog w mg base ZQ G.s
 have Z9:=ZmO _ w mg base ZQ Zla ZA i8 H.s
 have i9:=Zmt _ w mg base ZaB ZQ ZbC ZaQ Z0 Z9 I.s
 have j0:=ZmN l.prog w mg base ZdR J.s
 have j1:=ZmY _ w mg base CA Zej Zi Zbq ZV ZE h ZW ZN L.s
 have ZB:=Zke _ w mg base ZeE Zz ZF i j0 M.s
 have j2:=Zk2 _ w mg base ZaB ZQ Zz Ze1 Ze2 ZaX ZF Z0 i9 ZB N.s
 have j3:=ZmP _ w mg base ZaB ZQ Zz j1 j2 O.s
 have j:=ZlT _ w mg base Zdy ZbD ZA P.s
 have Z8:=Zkg _ w mg base ZbC ZaX ZbD ZF j Q.s
 have j4:=Zk3 _ w mg base ZQ Zz ZaX Zdy ZbD Z6 ZA Z9 j Z8 R.s
 have j5:=Zj6 _ w mg base CA Zej Zbq Zg ZC Zt ZK h b2.s
 have j6:=Zi0 _ w mg base CA ZQ Zi Zg ZE ZaN ZC Zt ZN i7 Z9 Z8 b3.s
 have Z7:=Zj5 _ w mg base CA ZQ Zi Zg ZV ZE Zbh ZC Zt ZK ZW ZN j6 b4.s
 have j7:=Zjr l.prog w mg base CA ZaQ Zg Zt b5.s
 have j8:=Zjq _ w mg base CA ZQ Zz Zg Zt ZK j4 b6.s
 have k:=ZlL l.prog w mg base CA Zf Zc b7.s
 have j9:=ZlM l.prog w mg base CA ZcM Zf Zc b9.s
 have k0:=Zk1 l.prog w mg base CA Zf Zc c0.s
 have k1:=Zi2 l.prog w mg base CA ZcM Zf Zc c1.s
 have k2:=Zhk l.prog w mg base CA Zda Zf Zc c2.s
 have k3:=ZlK _ w mg base CA Zda Zf Zc Za4 ZaY ZaO ZaA k1 k2 c3.s
 have k4:=ZiZ _ w mg base CA Zdz Zf Zc Zak k c4.s
 have k5:=Zh6 _ w mg base CA Zdz Zf Zc Zak k c5.s
 have k6:=ZkQ l.prog w mg base CA Zd Zr c6.s
 have k7:=Zh2 l.prog w mg base CA ZeG Zd Zr c7.s
 have n:=Zjl l.prog w mg base CA Zfh Zd Zr c8.s
 have q6:=Zjm l.prog w mg base CA Zd Zr c9.s
 have b:=ZkR _ w mg base CA Zld Zd Zaf Zr n d0.s
 have o:=ZjW _ w mg base CA ZbX Zeg Zd ZX b d1.s
 have k8:=ZjV _ w mg base CA ZbX Zd ZX b d2.s
 have k9:=ZkP _ w mg base CA Zd ZX b d3.s
 have l0:=Zjw _ w mg base CA ZQ Zz ZgA Zg ZdO ZS j5 Z7 S.s
 have c:=Zlz l.prog w mg base CA Zw ZI d4.s
 have p:=Zj9 l.prog w mg base CA Zh ZL ZU Zv d5.s
 have d:=ZkV l.prog w mg base CA Zu Z2 Z5 d6.s
 have q:=ZjX l.prog w mg base CA Zk Zs Zau d7.s
 have r:=ZiV l.prog w mg base CA Zn ZH ZR d8.s
 have ZZ:=Zjs l.prog w mg base CA ZD Z3 d9.s
 have Z1:=ZkY l.prog w mg base CA Zy ZY e0.s
 have l4:=ZiY _ w mg base CA Zd Za Za8 Zm k7 e1.s
 have t:=Zj0 _ w mg base CA Zd Za Zaf Zm n e2.s
 have l5:=Zh4 l.prog w mg base CA ZF Za Zl e3.s
 have l6:=Zgd _ w mg base CA ZaB ZQ Zz Za Zl j3 e4.s
 have l7:=Zgc l.prog w mg base CA Za Zl e5.s
 have l8:=ZlR l.prog w mg base  T.s
 have l9:=Zjo _ w mg base CA Za Zaz ZM l8 e6.s
 have m0:=ZlD _ w mg base CA Zz ZaQ Za Zl ZB e7.s
 have u:=ZmX l.prog w mg base ZaQ U.s
 have m1:=ZkT _ w mg base CA Za Zl u e8.s
 have m2:=Zmo _ w mg base CA Za ZM u e9.s
 have ZG:=Zk5 _ w mg base CA Zlb Za Zam ZeD t V.s
 have x:=Zmu _ w mg base CA Zc9 Ze0 Zd Za ZaZ Zal Zm o r ZG X.s
 have m3:=Zk4 _ w mg base CA Zcb Zd Za Zas Zal Zm o ZZ ZG Y.s
 have m4:=Zms _ w mg base CA Zcb Zd Za Zas ZbM Zm k8 ZZ ZG Z.s
 have m5:=Zkf l.prog w mg base ZcC ZP ZdP a0.s
 have m6:=Zjx _ w mg base ZP i a1.s
 have m7:=ZlF _ w mg base CA ZcC ZP Zh0 ZdV Za Zee ZaT Zm Zl Zaz ZM Z4 ZO k6 c m5 m6 f0.s
 have m8:=ZkS l.prog w mg base CA Zw ZI f1.s
 have m9:=Zjv l.prog w mg base CA Zh Zv f2.s
 have n0:=Zj7 l.prog w mg base CA Zu Z5 f3.s
 have n1:=Zjn _ w mg base CA Zf Zc Zk ZaU ZaP Zs k0 f4.s
 have n2:=Zh3 l.prog w mg base CA Zn ZH f5.s
 have n3:=Zi1 l.prog w mg base CA  f6.s
 have n4:=Zj8 l.prog w mg base CA Zy ZY f7.s
 have n5:=ZlC l.prog w mg base CA  f8.s
 have y:=ZlA _ w mg base CA Zef Zw Za Zba Zbg ZI l4 l5 f9.s
 have n6:=Zka l.prog w mg base CA Zh ZL Zv g0.s
 have n7:=ZkW l.prog w mg base CA  g1.s
 have n8:=ZjY _ w mg base CA Zf Zc Zk Za3 ZaW Zs j9 g2.s
 have n9:=ZiW l.prog w mg base CA  g3.s
 have o0:=Zjt l.prog w mg base CA  g4.s
 have o1:=ZkZ l.prog w mg base CA  g5.s
 have o2:=Zmm l.prog w mg base CA  g6.s
 have o3:=Zmn l.prog w mg base CA  g7.s
 have o4:=ZiX _ w mg base CA Zc9 Zcb Zn ZaZ Zas ZH ZR r ZZ g8.s
 have o5:=Zju _ w mg base CA ZcY ZbE ZD Zaw Z3 Z1 m4 g9.s
 have o6:=Zk0 _ w mg base CA ZdV ZcY Zy ZaT Zaw ZY c Z1 x h0.s
 have o7:=ZlB _ w mg base CA ZaB ZQ Zz ZdV Zei Zdm Zw Za ZaT Zbp ZaH Zay ZaM ZI l0 c p d l6 x y h1.s
 have o8:=ZkX _ w mg base CA ZQ Zz Zdz Zdm Zeh Zfi Zg Zu Za ZaH Zbo Zc8 ZS Zbt Z2 Z5 Z4 Z7 j8 k4 d q x h2.s
 have o9:=Zkb _ w mg base CA ZQ Zz Zdz Zei Zdm Zeh ZeZ Ze3 ZF Zg Zh Za Zbp ZaH Zbo ZcO ZS Zbu ZL ZU Zv Z4 Z7 j7 k5 p d q x h3.s
 have p0:=ZjZ _ w mg base CA ZcY ZbE Zf Zc Zd Zk Za Zaw Zb1 ZaL Zbs Za2 ZaV Zs Zau Zm k3 k9 Z1 l7 l9 x m3 h4.s
 have p1:=Zj1 _ w mg base CA Zw Zh Zu Zk Zn ZD Zy Za ZaS Zb2 Zbx ZbS Zbr Za9 Zbi ZbT Zcl ZO m8 m9 n0 n1 n2 n3 n4 n5 h5.s
 have p2:=ZlG _ w mg base CA Zw Zh Zu Zk Zn ZD Zy Za ZaS Zay ZbU Zb4 ZbN Zbe Zbv Zb6 ZcI ZO y n6 n7 n8 n9 o0 o1 o2 h6.s
 have p3:=ZlE _ w mg base CA ZaB ZQ Zz Zw Zh Zu Zk Zn ZD Zy Za ZaS Zck ZbV Zb5 ZbO Zbf Zbw Zb7 ZcJ ZO o3 o4 o5 o6 o7 o8 o9 p0 h7.s
 have f:=Zjp l.prog w mg base CA ZP Zag ZF Zb ZJ h8.s
 have p4:=ZlI _ w mg base CA ZcC ZP Zag ZeF Zjk ZF Zb ZeB ZJ Zah Zae Zav Zan ZT m7 h9.s
 have p5:=ZlH _ w mg base CA Zz ZP Zag Zft Za Zb Zj Zcm Zah ZB m0 f i0.s
 have p6:=Zh5 _ w mg base CA ZaB ZQ Zz Zag Z6 ZF Zle Ze4 Za Zb Zco Zcn ZJ Zae Zav Zan ZT p2 p3 i1.s
 have p7:=ZlJ _ w mg base CA ZP Zag ZaQ Zb Zj Zbb Zek Zel g.s.2 f p6 g.s.1
 have p8:=Zj2 l.prog w mg base CA Zag ZaQ Zb ZT i2.s
 have p9:=Zj4 _ w mg base CA ZP Zag Za Zb Zj ZbP p1 f i3.s
 have z:=ZkU _ w mg base CA ZP Zag Za Zb Zj Zb3 m1 f i4.s
 have q0:=Zmp _ w mg base CA ZP Zag Za Zb Zj ZcK m2 f i5.s
 have A:=Zj3 _ w mg base CA ZP Zag Za Zb Zam Zj t f i6.s
 have Ze:=ZlN l.prog w mg base ZF a2.s
 have q1:=ZlP l.prog w mg base Z6 ZF ZgB a3.s
 have q2:=Zkd _ w mg base Z6 Ze a4.s
 have q3:=Zmq _ w mg base ZF Ze a5.s
 have q4:=ZlO _ w mg base CA ZcC ZP Zag Z6 ZF ZgB Zb ZbR Zcq Zat Zaa Zek Zel p7 p9 z A q3 a6.s
 have q5:=Zmr _ w mg base CA ZP Zag Z6 Zb ZcL q0 a7.s
 exact(Zm7 _ w mg base CA Zz ZcC ZP Zag Zft Z6 ZaQ ZF Zb ZeC Zat Zaa Zcp ZbQ Zek Zel p4 p5 p8 z A Ze q1 q2 q4 q5 a.s).1
end
def tupI_VOTES {b c d:Tok}(h:K.lookup a=some ⟨.type "tuple",od,.seq #[.int 1 b,.int 3 c,.int 5 d] n,sl⟩):zN K a [1,3,5]:=zN.of h (aL rfl) (.cons ⟨_,rfl⟩ (.cons ⟨_,rfl⟩ (.cons ⟨_,rfl⟩ .nil)))
abbrev csI {x_post x_count x_free x_speaks x_reads x_intail x_flag x_settles x_rests x_off x_reader x_streak x_rtail x_stail:Addr}:Cs:=⟨x_post,x_count,x_free,x_speaks,x_reads,x_intail,x_flag,x_settles,x_rests,x_off,x_reader,x_streak,x_rtail,x_stail⟩
theorem walk {l:W.OpenLaw}{q:Program}{loose:List Str}{XP:(Str->Option Value)->Heap->Prop}{YP:World->Heap->Prop}{d:DefRec}{K:Params->W.Frag}{tc:List (Addr×Addr)}(b:tc= [(969,965)])(g:l.most=some 63)(c:d.params.defaults= [])
  (i:∀(w:World)(h:Heap),YP w h->(K w.params).In h/\∀q∈tc,(K w.params).lookup q.2=none/\h.get? q.2=some (W.tabObj #[])/\W.codeHdIn (K w.params) q.1 q.2=true)
  (F :∀(w:World)(mg:Str->Option Value)(e:Addr)(h:Heap),(K w.params).In h->h.Ns mainGlobals mg->mg d.name=some (.ref e)->
   ∃fd:FuncData,(∀(s:Shared)(u:Value),BindsTo s fd ⟨[u], []⟩ [("_law_script",u)])/\∀base:Heap,(K w.params).In base->base.Ns mainGlobals mg->gD l.prog w (K w.params) mg base CX0 15 e fd ["_law_script"] (pD (K w.params))) :
  W.WalkO q loose XP YP l.row.toRowW d [] (λf vs=>PySem.call f vs):=by
 subst b
 exact L2.walk_ofT (n:=63) (k:=15) (x:="_law_script") (CX:=λ_=>CX0) (sp:=λw=>pD (K w.params)) g (by decide) c ⟨rfl,by decide,by decide⟩ i F (λ_ H a j m o p=>⟨a,j,rfl,p,m,⟨#[],o.1 965 (by simp),trivial,.inl rfl⟩,λ_=>rfl⟩) λ_ _ _ _ _ z=>z
end My
open PySem PySem.W PyProof.Rows
set_option maxRecDepth 100000 in
set_option maxHeartbeats 0 in
theorem PySem.Challenge.cw_bitrail_k94_whole_a_wrong_post_holds : PySem.Challenge.rw_bitrail_k94_whole_a_wrong_post.Holds := by
 w_on;o_law
 refine holds_open (q:=Hd.qv) (loose:=Hd.loose) (XP:=XL Hd.qv []) (YP:=InK Hd.KA) (d:=Hd.dl) (kwd:=[]) Hd.left (InK.of Hd.K_as) InK.keeps (λs e=>xl_of s e) XL.keeps Hd.dl_1 Hd.dl_2 rfl (λs _=>recFacts_nil rfl) rfl
  (by assumption) (by decide +kernel) ⟨rfl,rfl,rfl,rfl,rfl,by decide +kernel⟩ ?hw ?hc
 case hw=>w_witness2
 refine My.walk (l:=PySem.Challenge.rw_bitrail_k94_whole_a_wrong_post) (K:=Hd.K) (tc:=Hd.tc) rfl rfl rfl Hd.tabs ?F
 k_fill
 case F=>
  intro w mg fa h KX G hmg
  refine' My.all_mk w mg (CA:=My.csI) ?Aa ?Ab ?Ac ?Ad ?Ae ?Af ?Ag ?Ah ?Ai ?Aj ?Ak ?Al ?Am ?An ?Ao ?Ap ?Aq ?Ar ?As ?At ?Au ?Av ?Aw ?Ax ?Ay ?Az ?AA ?AB ?AC ?AD ?AE ?AF ?AG ?AH ?AI ?AJ ?AK ?AL ?AM ?AN ?AO ?AP ?AQ ?AR ?AS ?AT ?AU ?AV ?AW ?AX ?AY ?AZ ?A0 ?A1 ?A2 ?A3 ?A4 ?A5 ?A6 ?A7 ?A8 ?A9 ?Ba ?Bb ?Bc ?Bd ?Be ?Bf ?Bg ?Bh ?Bi ?Bj ?Bk ?Bl ?Bm ?Bn ?Bo ?Bp ?Bq ?Br ?Bs ?Bt ?Bu ?Bv ?Bw ?Bx ?By ?Bz ?BA ?BB ?BC ?BD ?BE ?BF ?BG ?BH ?BI ?BJ ?BK ?BL ?BM ?BN ?BO ?BP ?BQ ?BR ?BS ?BT ?BU ?BV ?BW ?BX ?BY ?BZ ?B0 ?B1 ?B2 ?B3 ?B4 ?B5 ?B6 ?B7 ?B8 ?B9 ?Ca ?Cb ?Cc ?Cd ?Ce ?Cf ?Cg ?Ch ?Ci ?Cj ?Ck ?Cl ?Cm ?Cn ?Co ?Cp ?Cq ?Cr ?Cs ?Ct ?Cu ?Cv ?Cw ?Cx ?Cy ?Cz ?CA ?CB ?CC ?CD ?CE ?CF ?CG ?CH ?CI ?CJ ?CK ?CL ?CM ?CN ?CO ?CP ?CQ ?CR ?CS ?CT ?CU ?CV ?CW ?CX ?CY ?CZ ?C0 ?C1 ?C2 ?C3 ?C4 ?C5 ?C6 ?C7 hmg ?Le ?Lf ?Lg ?Lh ?Li ?Lj ?Lk ?Ll ?Lm ?Ln ?Lo ?Lp ?Lq ?Lr ?LN ?L0 ?L3 ?L6 ?L7 ?L8 ?L9 ?Ma ?Mb ?MO ?MP ?MQ ?MR ?MS ?MT ?MU ?La ?Lb ?Lc ?Ld ?Ls ?Lt ?Lu ?Lv ?Lw ?Lx ?Ly ?Lz ?LA ?LB ?LC ?LD ?LE ?LF ?LG ?LH ?LI ?LJ ?LK ?LL ?LM ?LO ?LP ?LQ ?LR ?LS ?LT ?LU ?LV ?LW ?LX ?LY ?LZ ?L1 ?L2 ?L4 ?L5 ?Mc ?Md ?Me ?Mf ?Mg ?Mh ?Mi ?Mj ?Mk ?Ml ?Mm ?Mn ?Mo ?Mp ?Mq ?Mr ?Ms ?Mt ?Mu ?Mv ?Mw ?Mx ?My ?Mz ?MA ?MB ?MC ?MD ?ME ?MF ?MG ?MH ?MI ?MJ ?MK ?ML ?MM ?MN
  all_goals try dsimp only[My.csI]
  case Aa | Ab | Ac | Ad | Ae | Af | Ag | Ah | Ai | Aj | Ak | Al | Am | An | Ao | Ap | Aq | Ar | As | At | Au | Av | Aw | Ax | Ay | Az | AA | AB | AC | AD | AE | AF | AG | AH | AI | AJ | AK | AL | AM | AN | AO | AP | AQ | AR=>refine' PySem.W.mg_of KX G ?_;k_is
  case AS | AT | AU | AV | AW | AX | AY | AZ=>refine' PySem.W.mg_none_of KX G ?_;k_is
  case Le | Lf | Lg | Lh | Li | Lj | Lk | Ll | Lm | Ln | Lo | Lp | Lq | Lr | LN | L0 | L3 | L6 | L7 | L8 | L9 | Ma | Mb | MO | MP | MQ | MR | MS | MT | MU=>(refine' My.gf_mk KX G ?a ?l ?c ?k;(case a=>show _=_;k_is);(case l=>show _=_;k_is);(case c=>show _=_;k_is);(case k=>show _=_;k_is))
  case MI=>(refine' My.mfc_mk ?a ?l ?c ?k;(case a=>show _=_;k_is);(case l=>show _=_;k_is);(case c=>show _=_;k_is);(case k=>show _=_;k_is))
  case La | Lb | Lc | Ld | Ls | Lt | Lu | Lv | Lw | Lx | Ly | Lz | LA | LB | LC | LD | LE | LF | LG | LH | LI | LJ | LK | LL | LM | LO | LP | LQ | LR | LS | LT | LU | LV | LW | LX | LY | LZ | L1 | L2 | L4 | L5 | Mc | Md | Me | Mf | Mg | Mh | Mi | Mj | Mk | Ml | Mm | Mn | Mo | Mp | Mq | Mr | Ms | Mt | Mu | Mv | Mw | Mx | My | Mz | MA | MB | MC | MD | ME | MF | MG | MH | MJ | MK | ML | MM | MN=>(refine' My.mf_mk ?a ?l ?c ?k;(case a=>show _=_;k_is);(case l=>show _=_;k_is);(case c=>show _=_;k_is);(case k=>show _=_;k_is))
  case A0=>(refine' My.tupI_VOTES ?a;(case a=>k_is))
  case A1 | A2=>(refine⟨?_,?_,?_,?_,?_⟩;(refine⟨?_,?_,?_,?_⟩ <;> k_is);all_goals (show PySem.W.findIn _ _ _=_;k_is))
  case A3 | A4 | A5 | A6 | A7 | A8 | A9 | Ba | Bb | Bc | Bd | Be | Bf | Bg | Bh | Bi | Bj | Bk | Bl | Bm | Bn | Bo | Bp | Bq | Br | Bs | Bt | Bu=>(refine⟨?_,?_,?_,?_⟩ <;> k_is)
  case Bv | Bw | Bx | By | Bz | BA | BB | BC | BD | BE | BF | BG | BH | BI | BJ | BK | BL | BM | BN | BO | BP | BQ | BR | BS | BT | BU | BV | BW | BX | BY | BZ | B0 | B1 | B2 | B3 | B4 | B5 | B6 | B7 | B8 | B9 | Ca | Cb | Cc | Cd | Ce | Cf | Cg | Ch | Ci | Cj | Ck | Cl | Cm | Cn | Co | Cp | Cq | Cr | Cs | Ct | Cu | Cv | Cw | Cx | Cy | Cz | CA | CB=>(refine⟨?_,?_,?_⟩ <;> k_is)
  case CC=>(refine' My.BmK.bm KX G ?_;(refine⟨?_,by decide,by decide, #[],?_⟩ <;> k_is))
  case CD | CE | CF | CG | CH | CI | CJ | CK | CL | CM | CN | CO | CP | CQ | CR | CS | CT | CU | CV | CW | CX | CY | CZ | C0 | C1 | C2 | C3 | C4 | C5 | C6=>(show PySem.W.findIn _ _ _=_;k_is)
  case C7=>kernel_rfl
#print axioms PySem.Challenge.cw_bitrail_k94_whole_a_wrong_post_holds
