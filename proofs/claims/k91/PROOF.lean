import PyProof.Rows.All
import Wide.All
import OpenK.AllK
import Wide.FinOn
import PyProof.EqAt
import PyProof.EqKinds
import PyProof.TupleCall
import Lean
import PySem.Challenge.RW_bitrail_k91_whole_one_wrong_bit
set_option Elab.async false
def Va:=@Ne.symm
def Ya:=@List.length_map
def Yb:=@List.getElem?_eq_getElem
def Yc:=@List.length_append
def Yd:=@Nat.le_refl
def Ye:=@List.getElem?_eq_some_iff
def Yf:=@List.getD_eq_getElem?_getD
def Yg:=@List.take_succ_eq_append_getElem
def Yh:=@Nat.lt_of_lt_of_le
def Yi:=@List.take_of_length_le
def Yj:=@List.length_take
def Yk:=@PySem.Heap.get?_push_of_some
def Yl:=@List.getElem?_map
def Ym:=@List.mem_singleton
def Yn:=@List.map_append
def Yo:=@List.length_cons
def Yp:=@Option.some.inj
def Yq:=@decide_eq_true
def Yr:=@Bool.false_ne_true
def Ys:=@List.append_assoc
def Yt:=@PySem.Heap.lt_size
def Yu:=@decide_eq_false
def Yv:=@List.mem_cons_of_mem
def Yw:=@List.length_singleton
def Yx:=@List.mem_of_getElem?
def Yy:=@List.getElem?_append_right
def Yz:=@Nat.pow_le_pow_right
def YA:=@List.length_replicate
def YB:=@List.size_toArray
def YC:=@List.mem_cons_self
def YD:=@List.append_nil
def YE:=@List.getElem_mem
def YF:=@List.getElem?_append_left
def YG:=@PySem.Heap.get?_push_size
def YH:=@Option.map_eq_some_iff
def YI:=@Nat.ne_of_lt
def YJ:=@Int.eq_ofNat_of_zero_le
def YK:=@List.map_cons
def YL:=@List.mem_cons
def YM:=@List.mem_append_right
def YN:=@Decidable.byContradiction
def YO:=@List.mem_append
def YQ:=@List.nodup_cons
def YR:=@Int.toNat_natCast
def YS:=@Nat.le_trans
def YT:=@Nat.lt_irrefl
def YU:=@congrArg
def YV:=@Nat.zero_le
def YW:=@List.mem_map
def YX:=@PySem.wpAny_bind
def YY:=@PySem.PassesOwn.never
def YZ:=@List.length_range
def Y0:=@List.foldl_cons
def Y1:=@List.mem_of_mem_take
def Y2:=@of_decide_eq_true
def Y3:=@List.take_append_of_le_length
def Y4:=@List.lookup_cons
def Y5:=@Nat.testBit_eq_decide_div_mod_eq
def Y6:=@PySem.wpAny_mono
def Y7:=@List.getElem?_set
def Y8:=@List.length_set
def Y9:=@List.getElem?_take_of_lt
def Xa:=@PySem.mem_of_lookup
def Xb:=@List.foldl_append
def Xc:=@PySem.wpAny_pure
def Xd:=@List.getElem?_set_ne
def Xe:=@Nat.testBit_lt_two_pow
def Xf:=@beq_eq_false_iff_ne
def Xg:=@List.replicate_succ
def Xh:=@List.head?_append
def Xi:=@Nat.lt_succ_self
def Xj:=@List.replicate_succ'
def Xk:=@Nat.xor_assoc
def Xl:=@Array.length_toList
def Xm:=@PySem.wpAny_truthy_bool
def Xn:=@List.mem_iff_getElem?
def Xo:=@List.length_filter_le
def Xp:=@List.length_drop
def Xq:=@Nat.shiftLeft_eq
def Xr:=@List.mem_append_left
def Xu:=@PySem.wpAny_Call_Name_kw
def Xv:=@List.flatten_cons
def Xw:=@Nat.pow_succ
def Xx:=@Nat.xor_zero
def Xy:=@Int.le_refl
def Xz:=@List.not_mem_nil
def XA:=@List.mem_of_mem_head?
def XB:=@Nat.min_eq_left
def XC:=@Nat.not_lt_zero
def XD:=@Nat.le_of_lt
def XE:=@Int.zero_add
def XF:=@Bool.and_eq_true
def XG:=@List.nodup_nil
def XH:=@Nat.testBit_succ
def XI:=@List.length_eq_zero_iff
def XJ:=@List.filter_cons_of_neg
def XM:=@Nat.le_succ
def XN:=@List.eq_nil_of_length_eq_zero
def XO:=@List.drop_append_of_le_length
def XQ:=@Nat.lt_of_le_of_lt
def XR:=@Nat.testBit_xor
def XS:=@List.dropLast_concat_getLast
def XT:=@List.range_succ
def XU:=@List.sum_cons
def XV:=@PyProof.Rows.callWith_type1
def XW:=@PySem.wpAny_passesOwn
def XX:=@PySem.W.methodCall_KW
def XY:=@Nat.mod_two_eq_zero_or_one
def XZ:=@List.mem_of_mem_drop
def X0:=@List.getElem?_mapIdx
def X1:=@Nat.sub_self
def X2:=@List.drop_eq_getElem_cons
def X3:=@List.getElem_of_mem
def X4:=@List.map_congr_left
def X5:=@List.getElem?_range
def X6:=@PySem.Heap.size_push
def X7:=@List.all_cons
def X8:=@Bool.eq_iff_iff
def X9:=@List.find?_cons
def Ja:=@Nat.two_pow_pos
def Jb:=@beq_iff_eq
def Jc:=@PySem.W.kia_one
def Jd:=@decide_eq_true_iff
def Je:=@List.filter_append
def Jf:=@List.filter_cons_of_pos
def Jg:=@Nat.mul_comm
def Jh:=@Nat.lt_succ_of_lt
def Ji:=@Nat.xor_comm
def Jj:=@Nat.zero_xor
def Jk:=@Nat.testBit_shiftLeft
def Jl:=@List.take_append_drop
def Jm:=@beq_self_eq_true
def Jn:=@List.all_eq_true
def Jo:=@List.any_cons
def Jp:=@PySem.wpAny_assign_Name
def Jq:=@List.of_mem_zip
def Jr:=@Option.map_some
def Js:=@Nat.div_eq_of_lt_le
def Jt:=@List.length_pos_iff
def Ju:=@List.replicate_zero
def Jv:=@List.map_map
def Jw:=@PySem.wpAny_execs_cons
def Jx:=@Nat.ne_of_gt
def Jy:=@List.mem_range
def Jz:=@Int.emod_lt_of_pos
def JA:=@List.take_zero
def JB:=@Nat.xor_lt_two_pow
def JC:=@PySem.W.callWith_K
def JD:=@PySem.Heap.FunFrames.mem
namespace Hd
open PySem PyProof.Rows
open PySem.W PySem.Calls
def c4T (t:Thread):(endAt 0 t).isSome=through t:=by
 obtain⟨b,c,pos,d⟩:=t
 cases d with
 | nil=>cases b with
  |pure f=>cases f <;> rfl
  |_=>rfl
 |cons a l=>cases b <;> rfl
theorem rM {tb:String->Option Builtin}{p:Program}{w:World}{m:Nat}{ann:Option Value}:∀{n:Nat}{s s':Shared}{t:Thread}{f:Flow}{c:Code}{x:Pos},
  segRun tb p w m ann 0 n s t=some (f,s',c,x)->topRun tb p w m ann n s t=some s'
 |0,_,_,_,_,_,_,h=>by simp[segRun]at h
 | n + 1,s,s',t,f,c,x,h=>by
  unfold segRun at h
  unfold topRun
  rw[<-c4T t]
  cases he:endAt 0 t with
  |some g=>rw[he]at h;cases h;rfl
  | none=>
   rw[he]at h
   dsimp only[Option.isSome]at h ⊢
   cases k:stepOk m ann t with
   |false=>rw[k]at h;cases h
   | true=>
    rw[k]at h
    dsimp only at h ⊢
    cases g:step (denote tb) p w s t with
    |halt o z=>rw[g]at h;cases h
    |go z t'=>rw[g]at h;exact rM h
def a4G (T:BT)(n a:Nat):Option Obj:=match Nat.blt a n with
 |true=>(match T.get a with | some o=>alive o | none=>none)
 |false=>none
def a6L {T:BT}{n a:Nat}{life:Life}{o:Obj}(h:a4G T n a=some o):(absHeap T n life).get? a=some o:=by
 unfold a4G at h
 cases c:Nat.blt a n with
 |false=>rw[c]at h;cases h
 | true=>
  rw[c]at h
  dsimp only at h
  cases g:T.get a with
  |none=>rw[g]at h;cases h
  | some x=>
   rw[g]at h
   rw[abs_get (Nat.le_of_ble_eq_true c) g]
   exact h
theorem vA {T:BT}{n:Nat}{life:Life}:∀{as:List Addr}{os:List Obj},as.map (a4G T n)=os.map some->as.map (absHeap T n life).get? =os.map some
 |[], [],_=>rfl
 |[],_::_,h=>by cases h
 |_::_, [],h=>by cases h
 | a::as,o::os,h=>by
  rw[YK,YK]at h
  injection h with h1 h2
  rw[YK,YK,vA h2]
  exact YU (·::os.map some) (a6L h1)
abbrev look (p q:Program)(loose:List Str)(Xt:Shared->Bool)(as:List Addr)(h:Heap)(s:SharedT):=
 (staticsOk (importedModules p.main.body) h s.abs.heap && namesBound p s.abs.heap && gensDone s.abs && laidKept h s.abs.heap,openSeen q loose (importedModules p.main.body) Xt true s.abs,as.map (a4G s.tree s.n))
theorem a2J {p q:Program}{loose:List Str}{i:Shared->Bool}{as:List Addr}{a:World->List Obj}{N m:Nat}{ann:Option Value}(S:World->OsState->SharedT)
  (op:∀w:World,(fencedOpening treeTable p w N).map (λs=>(s.heap,s.gens,s.drawn,s.toks))=some (boot_heap w.params,Array.mk [],boot_drawn,boot_toks))
  (g : ∀ w : World, ((boot_heap w.params).isNs mainGlobals, (boot_heap w.params).objs.size, (boot_heap w.params).nsMap mainGlobals "__annotations__") = (true, m, ann))
  (abs:∀w os,(S w os).abs=⟨boot_heap w.params,Array.mk [],boot_drawn,boot_toks,os⟩)
  (whole:∀w:World,(λos=>(segRunT treeTable p w m ann 0 N (S w os) (topStub p)).map λr=>look p q loose i as (boot_heap w.params) r.2.1)=λ_=>some (true,openGood q loose,(a w).map some)):LeftO p q loose i (λs=>as.map s.heap.get?) (λw=>(a w).map some) N:=λw=>by
 obtain⟨⟨h,j,d,k,os⟩,e,l⟩:=YH.mp (op w)
 obtain⟨rfl,rfl,rfl,rfl⟩:h=boot_heap w.params/\j=Array.mk []/\d=boot_drawn/\k=boot_toks:=by simpa using l
 obtain⟨n,o,u⟩:_/\_/\_:=by simpa only[Prod.mk.injEq] using g w
 obtain⟨⟨f,b,c,x⟩,v,y⟩:=YH.mp (congrFun (whole w) os)
 obtain⟨l1,l2,l3⟩:_/\_/\_:=by simpa only[look,Prod.mk.injEq] using y
 have z:as.map b.abs.heap.get? =(a w).map some:=vA l3
 have r:=rM (segRun_of v)
 rw[abs]at r
 have t:topFrom treeTable p w N ⟨boot_heap w.params,Array.mk [],boot_drawn,boot_toks,os⟩=some b.abs:=by
  unfold topFrom
  dsimp only
  rw[n,o,u,r]
  show (match staticsOk (importedModules p.main.body) (boot_heap w.params) b.abs.heap && namesBound p b.abs.heap && gensDone b.abs && laidKept (boot_heap w.params) b.abs.heap with | true=>_ | false=>_)=_
  rw[l1]
 unfold openEnds
 rw[e]
 refine(YU (Option.map _) t).trans ?_
 exact YU some (by show (_,as.map b.abs.heap.get?)=(_,(a w).map some);rw[l2,z])
abbrev r (a:Addr):Value:= .ref a
abbrev s (x:Str)(t:Tok):Value:= .str x t
abbrev i (x:Int)(t:Tok):Value:= .int x t
abbrev t (x:String):Value:= .type x
abbrev b (x:String):Value:= .builtin x
abbrev tp (l:List Value):Obj:=⟨.type "tuple",none,.seq l.toArray 0, #[]⟩
abbrev co (l:List Value):Obj:=⟨.type "code",none,.fields l.toArray, #[]⟩
abbrev fi (c:Value)(l:List Value):Obj:=⟨c,none,.fields l.toArray, #[]⟩
abbrev di (c:Value)(l:List DictEntry)(n:Nat):Obj:=⟨c,none,.dict l.toArray n, #[]⟩
abbrev e (P:Params)(x:Str)(t:Tok)(v:Value):DictEntry:=⟨PyData.keyHash P x,.str x t,v⟩
abbrev cl (c:ClassData)(l:List (Option Value)):Obj:=⟨.type "type",none,.cls c,l.toArray⟩
abbrev o (v:Value):Option Value:=some v
abbrev sf (p:Program)(k:Nat):Stmt:=p.main.body.getD k default
def sub (k:Nat):Stmt->Stmt
 |.ClassDef _ _ _ b _ _ _ _ _ _ _=>b.getD k default
 |x=>x
def fn (q:Str)(d kw doc md:Value)(c bl:Addr):Stmt->Obj
 |.FunctionDef n a b _ _ _ sc _ _ _=>⟨.type "function",none,.func { name:=n,qualname:=q,params:=a,body:= .stmts b,scope:=sc,globals:=3,closure:=[],defaults:=d,kwdefaults:=kw,doc:=doc,pyModule:=md,code:= .ref c,builtins:=bl }, #[]⟩
 |_=>default
def dr:Stmt->DefRec
 |.FunctionDef n a b _ _ _ sc _ _ x=>⟨n,a,b,sc,x⟩
 |_=>⟨"",⟨[], [],none, [], [],none, []⟩, [],default,default⟩
abbrev cc (nm qn:Str)(t l a fl x tb:Nat)(d v f:Value)(z n t':Nat):Obj:=co [s nm t,s qn (t+1),s "/claim/cut.py" (t+2),i l 0,i a 0,i 0 0,i 0 0,i fl 0,r x,.bool true,i 181 0,r tb,d,v,f,r z,i n 0,i l 0,s "/claim/cut.py" t']
abbrev fo (q md:Str)(t:Tok)(c:Addr)(x:Stmt):Obj:=fn q .none .none .none (s md t) c 0 x
noncomputable def tree (P:Params):BT:=(.node (boot_o_0 P) (.node (boot_o_1 P) (.node (boot_o_3 P) (.node (boot_o_7 P) .nil .nil) .nil) (.node (boot_o_5 P) (.node (boot_o_9 P) .nil .nil) .nil)) (.node (boot_o_2 P) (.node (boot_o_4 P) (.node (boot_o_8 P) .nil .nil) .nil) (.node (boot_o_6 P) (.node (boot_o_10 P) .nil .nil) .nil)))
noncomputable def S (w:World)(os:OsState):SharedT:=⟨tree w.params,11,(boot_heap w.params).life,Array.mk [],boot_drawn,boot_toks,os⟩
def c3C (w:World)(a:OsState):(S w a).abs=⟨boot_heap w.params,Array.mk [],boot_drawn,boot_toks,a⟩:=by kernel_rfl
set_option maxRecDepth 100000
noncomputable section
abbrev p:Program:=PySem.Challenge.pw_bitrail_k91_whole_one_wrong_bit
abbrev cA (nm qn:Str)(t l a x n:Nat):Obj:=cc nm qn t l a 3 x (x+1) .none (r (x+2)) (r (x+3)) (x+4) n (n+1)
abbrev cB (nm qn:Str)(t l a x n:Nat):Obj:=cc nm qn t l a 3 x (x+1) .none .none .none (x+2) n (n+1)
abbrev sG (j:Nat):Stmt:=sf p j
abbrev sB (k j:Nat):Stmt:=sub k (sf p j)
abbrev cO (n:Str)(a d q u:Nat):Obj:=cl { name:=n,bases:=[t "object"],mro:=[r a,t "object"],ns:=d,qualname:=n,hasDict:=true,subclasses:=[] } [.none,.none,o (s n q),o (s n u),o (b "object.__new__"),o (.bool true)]
abbrev cX (n:Str)(z a d g q u:Nat):Obj:=cl { name:=n,bases:=[r z],mro:=[r a,r z,t "ValueError",t "Exception",t "BaseException",t "object"],ns:=d,qualname:=n,hasDict:=true,subclasses:=[] } [o (r g),.none,o (s n q),o (s n u),o (b "ValueError.__new__"),o (.bool true)]
abbrev eL (P:Params)(q l u:Nat):DictEntry:=e P "__firstlineno__" q (i l u)
abbrev eS (P:Params)(q a:Nat):DictEntry:=e P "__static_attributes__" q (r a)
abbrev eD (P:Params)(q:Nat):DictEntry:=e P "__doc__" q .none
abbrev eM (P:Params)(q:Nat)(v:Value):DictEntry:=e P "__module__" q v
abbrev er (P:Params)(x:Str)(q a:Nat):DictEntry:=e P x q (r a)
abbrev ja (q:Str)(c:Addr)(x:Stmt):Obj:=fo q "bitrail.errors" 194 c x
abbrev ma:Value:=s "bitrail.errors" 194
abbrev jb (q:Str)(c:Addr)(x:Stmt):Obj:=fo q "bitrail.bits" 294 c x
abbrev jc (q:Str)(c:Addr)(x:Stmt):Obj:=fo q "bitrail.keys" 319 c x
abbrev jd (q:Str)(c:Addr)(x:Stmt):Obj:=fo q "bitrail.checks" 332 c x
abbrev je (q:Str)(c:Addr)(x:Stmt):Obj:=fo q "bitrail.names" 352 c x
abbrev jf (q:Str)(c:Addr)(x:Stmt):Obj:=fo q "bitrail.putting" 373 c x
abbrev mf:Value:=s "bitrail.putting" 373
abbrev jg (q:Str)(c:Addr)(x:Stmt):Obj:=fo q "bitrail.frames" 438 c x
abbrev jh (q:Str)(c:Addr)(x:Stmt):Obj:=fo q "bitrail.counts" 496 c x
abbrev mh:Value:=s "bitrail.counts" 496
abbrev ji (q:Str)(c:Addr)(x:Stmt):Obj:=fo q "bitrail.readers" 585 c x
abbrev mi:Value:=s "bitrail.readers" 585
abbrev jj (q:Str)(c:Addr)(x:Stmt):Obj:=fo q "bitrail.tails" 647 c x
abbrev mj:Value:=s "bitrail.tails" 647
abbrev jk (q:Str)(c:Addr)(x:Stmt):Obj:=fo q "bitrail.stances" 774 c x
abbrev mk:Value:=s "bitrail.stances" 774
abbrev jl (q:Str)(c:Addr)(x:Stmt):Obj:=fo q "bitrail.posts" 1253 c x
abbrev ml:Value:=s "bitrail.posts" 1253
abbrev jm (q:Str)(c:Addr)(x:Stmt):Obj:=fo q "bitrail.rails" 1410 c x
abbrev mm:Value:=s "bitrail.rails" 1410
abbrev jn (q:Str)(c:Addr)(x:Stmt):Obj:=fo q "bitrail.ears" 1581 c x
abbrev jo (q:Str)(c:Addr)(x:Stmt):Obj:=fo q "law_bitrail_k91_whole_one_wrong_bit" 1593 c x
noncomputable def K (P : Params) : Frag := (nat_lit 2,di .none [] 0)::(nat_lit 3,di (t "dict") [e P "__name__" 165 (s "law_bitrail_k91_whole_one_wrong_bit" 1593),eD P 166,e P "__package__" 167 .none,e P "__loader__" 168 (b "__main__.__loader__#opaque"),e P "__spec__" 169 .none,er P "__annotations__" 170 6,er P "__builtins__" 171 4,e P "__file__" 173 (s "/claim/cut.py" 172),e P "__cached__" 174 .none,er P "_wall" 193 21,er P "RailError" 213 31,er P "NoBits" 229 44,er P "NoName" 245 56,er P "NoKey" 261 68,er P "NoFrame" 277 80,er P "NoPost" 293 92,e P "HIGHEST_BYTE" 297 (i 255 296),er P "bits_of" 303 99,er P "number_of" 312 106,er P "are_bytes" 318 111,er P "divided" 331 118,e P "KEY" 335 (i 64647 334),e P "CHECK_BITS" 337 (i 15 336),er P "rest_of" 344 125,er P "check_of" 351 132,e P "NAME_BITS" 355 (i 8 354),e P "HIGHEST_NAME" 357 (i 255 356),er P "is_name" 364 139,er P "is_wanted" 372 146,e P "MOST_ALIKE" 376 (i 5 375),er P "Streak" 427 184,er P "put_in" 437 195,e P "SIZE_AT" 441 (i 9 440),e P "SIZE_BITS" 443 (i 3 442),e P "DATA_AT" 445 (i 12 444),e P "BYTE_BITS" 447 (i 8 446),e P "MOST_BYTES" 449 (i 7 448),er P "check_frame" 457 202,er P "frame_bits" 467 209,er P "is_complete" 474 216,er P "told_size" 481 223,er P "read_frame" 487 228,er P "wire_of" 495 235,e P "GREAT_FAULT" 499 (i 8 498),e P "SMALL_FAULT" 501 (i 1 500),e P "QUIET_FROM" 503 (i 12 502),e P "OFF_FROM" 505 (i 18 504),er P "Count" 584 301,er P "Reader" 646 350,e P "ANSWER_AT" 650 (i 1 649),e P "VOTES_AT" 652 (i 9 651),er P "Tail" 725 406,er P "ReadTail" 749 427,er P "SpeakTail" 773 446,e P "FLAG_BITS" 777 (i 6 776),e P "REST_TURNS" 779 (i 3 778),e P "QUIET_TURNS" 781 (i 8 780),e P "DUEL_BITS" 783 (i 9 782),er P "begun_reader" 790 455,er P "unless_off" 799 462,er P "fault_of" 807 469,er P "refusal_of" 815 476,er P "blame_of" 822 483,er P "Free" 876 521,er P "Speaks" 935 563,er P "Reads" 991 605,er P "InTail" 1047 647,er P "Flagging" 1102 689,er P "Settles" 1155 731,er P "Rests" 1208 773,er P "Off" 1252 808,er P "VOTES" 1258 813,er P "check_votes" 1265 820,er P "check_choice" 1272 827,er P "copies" 1278 832,er P "Post" 1409 940,e P "MOST_POSTS" 1413 (i 5 1412),er P "Rail" 1571 1067,er P "heard_well" 1580 1078,er P "ear" 1592 1085,er P "_law_draw" 1605 1092,er P "_law_size" 1619 1099,er P "_law_frames" 1625 1104,er P "_law_choice" 1636 1111,er P "_law_merged" 1642 1116,er P "_law_turn" 1656 1123,er P "_law_same" 1662 1128,er P "law" 1668 1133] 88)::(nat_lit 4,⟨.type "module",some builtinsNs,.plain,#[]⟩)::(nat_lit 30,di (t "dict") [eM P 203 ma,eL P 207 5 206,eS P 208 29,er P "__weakref__" 210 32,eD P 211] 3)::(nat_lit 31,cl {name:="RailError",bases:=[t "ValueError"],mro:=[r 31,t "ValueError",t "Exception",t "BaseException",t "object"],ns:=30,qualname:="RailError",hasDict:=true,subclasses:=[r 44,r 56,r 68,r 80,r 92]} [o (r 22),.none,o (s "RailError" 196),o (s "RailError" 204),o (b "ValueError.__new__"),o (.bool true)])::(nat_lit 43,di (t "dict") [eM P 221 ma,eL P 225 7 224,eS P 226 42,eD P 227] 2)::(nat_lit 44,cX "NoBits" 31 44 43 35 214 222)::(nat_lit 55,di (t "dict") [eM P 237 ma,eL P 241 9 240,eS P 242 54,eD P 243] 2)::(nat_lit 56,cX "NoName" 31 56 55 47 230 238)::(nat_lit 67,di (t "dict") [eM P 253 ma,eL P 257 11 256,eS P 258 66,eD P 259] 2)::(nat_lit 68,cX "NoKey" 31 68 67 59 246 254)::(nat_lit 79,di (t "dict") [eM P 269 ma,eL P 273 13 272,eS P 274 78,eD P 275] 2)::(nat_lit 80,cX "NoFrame" 31 80 79 71 262 270)::(nat_lit 91,di (t "dict") [eM P 285 ma,eL P 289 15 288,eS P 290 90,eD P 291] 2)::(nat_lit 92,cX "NoPost" 31 92 91 83 278 286)::(nat_lit 98,cB "bits_of" "bits_of" 298 19 2 95 301)::(nat_lit 99,jb "bits_of" 98 (sG 10))::(nat_lit 105,cA "number_of" "number_of" 304 23 1 100 310)::(nat_lit 106,jb "number_of" 105 (sG 11))::(nat_lit 110,cB "are_bytes" "are_bytes" 313 28 1 107 316)::(nat_lit 111,jb "are_bytes" 110 (sG 12))::(nat_lit 117,cA "divided" "divided" 321 31 2 112 329)::(nat_lit 118,jc "divided" 117 (sG 14))::(nat_lit 124,cA "rest_of" "rest_of" 338 44 1 119 342)::(nat_lit 125,jd "rest_of" 124 (sG 18))::(nat_lit 131,cA "check_of" "check_of" 345 46 1 126 349)::(nat_lit 132,jd "check_of" 131 (sG 19))::(nat_lit 138,cA "is_name" "is_name" 358 51 1 133 362)::(nat_lit 139,je "is_name" 138 (sG 23))::(nat_lit 145,cA "is_wanted" "is_wanted" 365 53 2 140 370)::(nat_lit 146,je "is_wanted" 145 (sG 24))::(nat_lit 159,cA "__init__" "Streak.__init__" 389 59 1 154 393)::(nat_lit 160,jf "Streak.__init__" 159 (sB 0 27))::(nat_lit 166,cA "lengthen" "Streak.lengthen" 396 63 2 161 401)::(nat_lit 167,jf "Streak.lengthen" 166 (sB 1 27))::(nat_lit 173,cA "is_full" "Streak.is_full" 404 67 1 168 408)::(nat_lit 174,jf "Streak.is_full" 173 (sB 2 27))::(nat_lit 180,cA "is_too_long" "Streak.is_too_long" 411 70 1 175 415)::(nat_lit 181,jf "Streak.is_too_long" 180 (sB 3 27))::(nat_lit 183,di (t "dict") [eM P 384 mf,eL P 388 57 387,er P "__init__" 395 160,er P "lengthen" 403 167,er P "is_full" 410 174,er P "is_too_long" 417 181,eS P 420 182,er P "__dict__" 422 185,er P "__weakref__" 424 186,eD P 425] 4)::(nat_lit 184,cO "Streak" 184 183 377 385)::(nat_lit 194,cA "put_in" "put_in" 428 72 1 189 435)::(nat_lit 195,jf "put_in" 194 (sG 28))::(nat_lit 201,cA "check_frame" "check_frame" 450 88 2 196 455)::(nat_lit 202,jg "check_frame" 201 (sG 35))::(nat_lit 208,cA "frame_bits" "frame_bits" 458 95 2 203 465)::(nat_lit 209,jg "frame_bits" 208 (sG 36))::(nat_lit 215,cA "is_complete" "is_complete" 468 101 1 210 472)::(nat_lit 216,jg "is_complete" 215 (sG 37))::(nat_lit 222,cA "told_size" "told_size" 475 103 1 217 479)::(nat_lit 223,jg "told_size" 222 (sG 38))::(nat_lit 227,cB "read_frame" "read_frame" 482 105 1 224 485)::(nat_lit 228,jg "read_frame" 227 (sG 39))::(nat_lit 234,cA "wire_of" "wire_of" 488 114 2 229 493)::(nat_lit 235,jg "wire_of" 234 (sG 40))::(nat_lit 248,cA "__init__" "Count.__init__" 518 123 1 243 522)::(nat_lit 249,jh "Count.__init__" 248 (sB 0 46))::(nat_lit 255,cA "fault" "Count.fault" 525 126 2 250 530)::(nat_lit 256,jh "Count.fault" 255 (sB 1 46))::(nat_lit 262,cA "blame" "Count.blame" 533 129 1 257 537)::(nat_lit 263,jh "Count.blame" 262 (sB 2 46))::(nat_lit 269,cA "good" "Count.good" 540 132 1 264 544)::(nat_lit 270,jh "Count.good" 269 (sB 3 46))::(nat_lit 276,cA "move" "Count.move" 547 135 2 271 552)::(nat_lit 277,jh "Count.move" 276 (sB 4 46))::(nat_lit 290,cA "is_quiet" "Count.is_quiet" 562 142 1 285 566)::(nat_lit 291,jh "Count.is_quiet" 290 (sB 6 46))::(nat_lit 297,cA "is_off" "Count.is_off" 569 145 1 292 573)::(nat_lit 298,jh "Count.is_off" 297 (sB 7 46))::(nat_lit 300,di (t "dict") [eM P 513 mh,eL P 517 121 516,er P "__init__" 524 249,er P "fault" 532 256,er P "blame" 539 263,er P "good" 546 270,er P "move" 554 277,er P "number" 561 284,er P "is_quiet" 568 291,er P "is_off" 575 298,eS P 577 299,er P "__dict__" 579 302,er P "__weakref__" 581 303,eD P 582] 4)::(nat_lit 301,cO "Count" 301 300 506 514)::(nat_lit 318,cA "__init__" "Reader.__init__" 599 150 1 313 603)::(nat_lit 319,ji "Reader.__init__" 318 (sB 0 48))::(nat_lit 325,cA "hear" "Reader.hear" 606 155 2 320 612)::(nat_lit 326,ji "Reader.hear" 325 (sB 1 48))::(nat_lit 332,cA "judged" "Reader.judged" 615 163 1 327 619)::(nat_lit 333,ji "Reader.judged" 332 (sB 2 48))::(nat_lit 339,cA "plain" "Reader.plain" 622 170 1 334 626)::(nat_lit 340,ji "Reader.plain" 339 (sB 3 48))::(nat_lit 346,cA "frame" "Reader.frame" 629 173 1 341 633)::(nat_lit 347,ji "Reader.frame" 346 (sB 4 48))::(nat_lit 349,di (t "dict") [eM P 594 mi,eL P 598 148 597,er P "__init__" 605 319,er P "hear" 614 326,er P "judged" 621 333,er P "plain" 628 340,er P "frame" 635 347,eS P 639 348,er P "__dict__" 641 351,er P "__weakref__" 643 352,eD P 644] 4)::(nat_lit 350,cO "Reader" 350 349 587 595)::(nat_lit 367,cA "__init__" "Tail.__init__" 665 180 3 362 671)::(nat_lit 368,jj "Tail.__init__" 367 (sB 0 52))::(nat_lit 374,cA "says" "Tail.says" 674 186 1 369 678)::(nat_lit 375,jj "Tail.says" 374 (sB 1 52))::(nat_lit 381,cA "hear" "Tail.hear" 681 189 2 376 687)::(nat_lit 382,jj "Tail.hear" 381 (sB 2 52))::(nat_lit 388,cA "is_fault" "Tail.is_fault" 690 196 3 383 696)::(nat_lit 389,jj "Tail.is_fault" 388 (sB 3 52))::(nat_lit 395,cA "judged_vote" "Tail.judged_vote" 699 201 2 390 704)::(nat_lit 396,jj "Tail.judged_vote" 395 (sB 4 52))::(nat_lit 405,di (t "dict") [eM P 660 mj,eL P 664 178 663,er P "__init__" 673 368,er P "says" 680 375,er P "hear" 689 382,er P "is_fault" 698 389,er P "judged_vote" 706 396,er P "place" 713 403,eS P 718 404,er P "__dict__" 720 407,er P "__weakref__" 722 408,eD P 723] 4)::(nat_lit 406,cl {name:="Tail",bases:=[t "object"],mro:=[r 406,t "object"],ns:=405,qualname:="Tail",hasDict:=true,subclasses:=[r 427,r 446]} [.none,.none,o (s "Tail" 653),o (s "Tail" 661),o (b "object.__new__"),o (.bool true)])::(nat_lit 423,cA "__init__" "ReadTail.__init__" 738 212 2 418 743)::(nat_lit 424,jj "ReadTail.__init__" 423 (sB 0 53))::(nat_lit 426,di (t "dict") [eM P 733 mj,eL P 737 210 736,er P "__init__" 745 424,eS P 746 425,eD P 747] 2)::(nat_lit 427,cl {name:="ReadTail",bases:=[r 406],mro:=[r 427,r 406,t "object"],ns:=426,qualname:="ReadTail",hasDict:=true,subclasses:=[]} [o (r 411),.none,o (s "ReadTail" 726),o (s "ReadTail" 734),o (b "object.__new__"),o (.bool true)])::(nat_lit 442,cA "__init__" "SpeakTail.__init__" 762 216 2 437 767)::(nat_lit 443,jj "SpeakTail.__init__" 442 (sB 0 54))::(nat_lit 445,di (t "dict") [eM P 757 mj,eL P 761 214 760,er P "__init__" 769 443,eS P 770 444,eD P 771] 2)::(nat_lit 446,cl {name:="SpeakTail",bases:=[r 406],mro:=[r 446,r 406,t "object"],ns:=445,qualname:="SpeakTail",hasDict:=true,subclasses:=[]} [o (r 430),.none,o (s "SpeakTail" 750),o (s "SpeakTail" 758),o (b "object.__new__"),o (.bool true)])::(nat_lit 454,cA "begun_reader" "begun_reader" 784 223 0 449 788)::(nat_lit 455,jk "begun_reader" 454 (sG 60))::(nat_lit 461,cA "unless_off" "unless_off" 791 227 3 456 797)::(nat_lit 462,jk "unless_off" 461 (sG 61))::(nat_lit 468,cA "fault_of" "fault_of" 800 229 2 463 805)::(nat_lit 469,jk "fault_of" 468 (sG 62))::(nat_lit 475,cA "refusal_of" "refusal_of" 808 232 2 470 813)::(nat_lit 476,jk "refusal_of" 475 (sG 63))::(nat_lit 482,cA "blame_of" "blame_of" 816 235 1 477 820)::(nat_lit 483,jk "blame_of" 482 (sG 64))::(nat_lit 496,cA "__init__" "Free.__init__" 835 240 2 491 840)::(nat_lit 497,jk "Free.__init__" 496 (sB 0 65))::(nat_lit 510,cA "says" "Free.says" 850 246 2 505 855)::(nat_lit 511,jk "Free.says" 510 (sB 2 65))::(nat_lit 517,cA "step" "Free.step" 858 251 3 512 865)::(nat_lit 518,jk "Free.step" 517 (sB 3 65))::(nat_lit 520,di (t "dict") [eM P 830 mk,eL P 834 238 833,er P "__init__" 842 497,er P "shown" 849 504,er P "says" 857 511,er P "step" 867 518,eS P 869 519,er P "__dict__" 871 522,er P "__weakref__" 873 523,eD P 874] 4)::(nat_lit 521,cO "Free" 521 520 823 831)::(nat_lit 538,cA "__init__" "Speaks.__init__" 889 262 4 533 896)::(nat_lit 539,jk "Speaks.__init__" 538 (sB 0 66))::(nat_lit 552,cA "says" "Speaks.says" 906 270 2 547 911)::(nat_lit 553,jk "Speaks.says" 552 (sB 2 66))::(nat_lit 559,cA "step" "Speaks.step" 914 273 3 554 922)::(nat_lit 560,jk "Speaks.step" 559 (sB 3 66))::(nat_lit 562,di (t "dict") [eM P 884 mk,eL P 888 260 887,er P "__init__" 898 539,er P "shown" 905 546,er P "says" 913 553,er P "step" 924 560,eS P 928 561,er P "__dict__" 930 564,er P "__weakref__" 932 565,eD P 933] 4)::(nat_lit 563,cO "Speaks" 563 562 877 885)::(nat_lit 580,cA "__init__" "Reads.__init__" 948 287 3 575 954)::(nat_lit 581,jk "Reads.__init__" 580 (sB 0 67))::(nat_lit 594,cA "says" "Reads.says" 964 294 2 589 969)::(nat_lit 595,jk "Reads.says" 594 (sB 2 67))::(nat_lit 601,cA "step" "Reads.step" 972 297 3 596 979)::(nat_lit 602,jk "Reads.step" 601 (sB 3 67))::(nat_lit 604,di (t "dict") [eM P 943 mk,eL P 947 285 946,er P "__init__" 956 581,er P "shown" 963 588,er P "says" 971 595,er P "step" 981 602,eS P 984 603,er P "__dict__" 986 606,er P "__weakref__" 988 607,eD P 989] 4)::(nat_lit 605,cO "Reads" 605 604 936 944)::(nat_lit 622,cA "__init__" "InTail.__init__" 1004 306 3 617 1010)::(nat_lit 623,jk "InTail.__init__" 622 (sB 0 68))::(nat_lit 636,cA "says" "InTail.says" 1020 313 2 631 1025)::(nat_lit 637,jk "InTail.says" 636 (sB 2 68))::(nat_lit 643,cA "step" "InTail.step" 1028 316 3 638 1035)::(nat_lit 644,jk "InTail.step" 643 (sB 3 68))::(nat_lit 646,di (t "dict") [eM P 999 mk,eL P 1003 304 1002,er P "__init__" 1012 623,er P "shown" 1019 630,er P "says" 1027 637,er P "step" 1037 644,eS P 1040 645,er P "__dict__" 1042 648,er P "__weakref__" 1044 649,eD P 1045] 4)::(nat_lit 647,cO "InTail" 647 646 992 1000)::(nat_lit 664,cA "__init__" "Flagging.__init__" 1060 332 3 659 1066)::(nat_lit 665,jk "Flagging.__init__" 664 (sB 0 69))::(nat_lit 678,cA "says" "Flagging.says" 1076 339 2 673 1081)::(nat_lit 679,jk "Flagging.says" 678 (sB 2 69))::(nat_lit 685,cA "step" "Flagging.step" 1084 342 3 680 1090)::(nat_lit 686,jk "Flagging.step" 685 (sB 3 69))::(nat_lit 688,di (t "dict") [eM P 1055 mk,eL P 1059 330 1058,er P "__init__" 1068 665,er P "shown" 1075 672,er P "says" 1083 679,er P "step" 1092 686,eS P 1095 687,er P "__dict__" 1097 690,er P "__weakref__" 1099 691,eD P 1100] 4)::(nat_lit 689,cO "Flagging" 689 688 1048 1056)::(nat_lit 706,cA "__init__" "Settles.__init__" 1115 348 2 701 1120)::(nat_lit 707,jk "Settles.__init__" 706 (sB 0 70))::(nat_lit 720,cA "says" "Settles.says" 1130 354 2 715 1135)::(nat_lit 721,jk "Settles.says" 720 (sB 2 70))::(nat_lit 727,cA "step" "Settles.step" 1138 357 3 722 1144)::(nat_lit 728,jk "Settles.step" 727 (sB 3 70))::(nat_lit 730,di (t "dict") [eM P 1110 mk,eL P 1114 346 1113,er P "__init__" 1122 707,er P "shown" 1129 714,er P "says" 1137 721,er P "step" 1146 728,eS P 1148 729,er P "__dict__" 1150 732,er P "__weakref__" 1152 733,eD P 1153] 4)::(nat_lit 731,cO "Settles" 731 730 1103 1111)::(nat_lit 748,cA "__init__" "Rests.__init__" 1168 365 2 743 1173)::(nat_lit 749,jk "Rests.__init__" 748 (sB 0 71))::(nat_lit 762,cA "says" "Rests.says" 1183 371 2 757 1188)::(nat_lit 763,jk "Rests.says" 762 (sB 2 71))::(nat_lit 769,cA "step" "Rests.step" 1191 374 3 764 1197)::(nat_lit 770,jk "Rests.step" 769 (sB 3 71))::(nat_lit 772,di (t "dict") [eM P 1163 mk,eL P 1167 363 1166,er P "__init__" 1175 749,er P "shown" 1182 756,er P "says" 1190 763,er P "step" 1199 770,eS P 1201 771,er P "__dict__" 1203 774,er P "__weakref__" 1205 775,eD P 1206] 4)::(nat_lit 773,cO "Rests" 773 772 1156 1164)::(nat_lit 797,cA "says" "Off.says" 1228 383 2 792 1233)::(nat_lit 798,jk "Off.says" 797 (sB 1 72))::(nat_lit 804,cA "step" "Off.step" 1236 386 3 799 1242)::(nat_lit 805,jk "Off.step" 804 (sB 2 72))::(nat_lit 807,di (t "dict") [eM P 1216 mk,eL P 1220 378 1219,er P "shown" 1227 791,er P "says" 1235 798,er P "step" 1244 805,eS P 1245 806,er P "__dict__" 1247 809,er P "__weakref__" 1249 810,eD P 1250] 4)::(nat_lit 808,cO "Off" 808 807 1209 1217)::(nat_lit 813,tp [i 1 1255,i 3 1256,i 5 1257])::(nat_lit 819,cA "check_votes" "check_votes" 1259 390 1 814 1263)::(nat_lit 820,jl "check_votes" 819 (sG 75))::(nat_lit 826,cA "check_choice" "check_choice" 1266 393 1 821 1270)::(nat_lit 827,jl "check_choice" 826 (sG 76))::(nat_lit 831,cB "copies" "copies" 1273 396 1 828 1276)::(nat_lit 832,jl "copies" 831 (sG 77))::(nat_lit 845,cA "__init__" "Post.__init__" 1291 400 3 840 1297)::(nat_lit 846,jl "Post.__init__" 845 (sB 0 78))::(nat_lit 852,cA "hand" "Post.hand" 1300 410 3 847 1306)::(nat_lit 853,jl "Post.hand" 852 (sB 1 78))::(nat_lit 859,cA "says" "Post.says" 1309 414 1 854 1313)::(nat_lit 860,jl "Post.says" 859 (sB 2 78))::(nat_lit 866,cA "hear" "Post.hear" 1316 417 2 861 1322)::(nat_lit 867,jl "Post.hear" 866 (sB 3 78))::(nat_lit 880,cA "waits" "Post.waits" 1332 425 1 875 1336)::(nat_lit 881,jl "Post.waits" 880 (sB 5 78))::(nat_lit 887,cA "got" "Post.got" 1339 428 1 882 1343)::(nat_lit 888,jl "Post.got" 887 (sB 6 78))::(nat_lit 901,cA "is_quiet" "Post.is_quiet" 1353 434 1 896 1357)::(nat_lit 902,jl "Post.is_quiet" 901 (sB 8 78))::(nat_lit 908,cA "is_off" "Post.is_off" 1360 437 1 903 1364)::(nat_lit 909,jl "Post.is_off" 908 (sB 9 78))::(nat_lit 915,cA "has_frame" "Post.has_frame" 1367 440 1 910 1371)::(nat_lit 916,jl "Post.has_frame" 915 (sB 10 78))::(nat_lit 922,cA "foremost_wire" "Post.foremost_wire" 1374 443 1 917 1378)::(nat_lit 923,jl "Post.foremost_wire" 922 (sB 11 78))::(nat_lit 929,cA "drop_foremost" "Post.drop_foremost" 1381 446 1 924 1385)::(nat_lit 930,jl "Post.drop_foremost" 929 (sB 12 78))::(nat_lit 936,cA "hand_up" "Post.hand_up" 1388 449 2 931 1393)::(nat_lit 937,jl "Post.hand_up" 936 (sB 13 78))::(nat_lit 939,di (t "dict") [eM P 1286 ml,eL P 1290 398 1289,er P "__init__" 1299 846,er P "hand" 1308 853,er P "says" 1315 860,er P "hear" 1324 867,er P "stance" 1331 874,er P "waits" 1338 881,er P "got" 1345 888,er P "faults" 1352 895,er P "is_quiet" 1359 902,er P "is_off" 1366 909,er P "has_frame" 1373 916,er P "foremost_wire" 1380 923,er P "drop_foremost" 1387 930,er P "hand_up" 1395 937,eS P 1402 938,er P "__dict__" 1404 941,er P "__weakref__" 1406 942,eD P 1407] 4)::(nat_lit 940,cO "Post" 940 939 1279 1287)::(nat_lit 955,cB "__init__" "Rail.__init__" 1426 456 3 952 1429)::(nat_lit 956,jm "Rail.__init__" 955 (sB 0 81))::(nat_lit 962,cA "hand" "Rail.hand" 1432 466 4 957 1440)::(nat_lit 963,jm "Rail.hand" 962 (sB 1 81))::(nat_lit 974,cB "run" "Rail.run" 1453 480 3 971 1456)::(nat_lit 975,jm "Rail.run" 974 (sB 3 81))::(nat_lit 979,cB "make_turn" "Rail.make_turn" 1459 484 2 976 1462)::(nat_lit 980,jm "Rail.make_turn" 979 (sB 4 81))::(nat_lit 986,cA "post_at" "Rail.post_at" 1465 497 2 981 1470)::(nat_lit 987,jm "Rail.post_at" 986 (sB 5 81))::(nat_lit 1035,cA "waits" "Rail.waits" 1518 522 2 1030 1523)::(nat_lit 1036,jm "Rail.waits" 1035 (sB 12 81))::(nat_lit 1042,cA "got" "Rail.got" 1526 525 2 1037 1531)::(nat_lit 1043,jm "Rail.got" 1042 (sB 13 81))::(nat_lit 1066,di (t "dict") [eM P 1421 mm,eL P 1425 454 1424,er P "__init__" 1431 956,er P "hand" 1442 963,er P "turn" 1452 970,er P "run" 1458 975,er P "make_turn" 1464 980,er P "post_at" 1472 987,er P "turns" 1479 994,er P "bits" 1486 1001,er P "said" 1494 1008,er P "heard" 1502 1015,er P "events" 1509 1022,er P "stance" 1517 1029,er P "waits" 1525 1036,er P "got" 1533 1043,er P "faults" 1541 1050,er P "is_quiet" 1549 1057,er P "is_off" 1557 1064,eS P 1564 1065,er P "__dict__" 1566 1068,er P "__weakref__" 1568 1069,eD P 1569] 4)::(nat_lit 1067,cO "Rail" 1067 1066 1414 1422)::(nat_lit 1084,cA "ear" "ear" 1583 539 1 1079 1590)::(nat_lit 1085,jn "ear" 1084 (sG 84))::(nat_lit 1091,cA "_law_draw" "_law_draw" 1595 548 3 1086 1603)::(nat_lit 1092,jo "_law_draw" 1091 (sG 86))::(nat_lit 1098,cA "_law_size" "_law_size" 1606 552 2 1093 1617)::(nat_lit 1099,jo "_law_size" 1098 (sG 87))::(nat_lit 1103,cB "_law_frames" "_law_frames" 1620 567 2 1100 1623)::(nat_lit 1104,jo "_law_frames" 1103 (sG 88))::(nat_lit 1110,cA "_law_choice" "_law_choice" 1626 586 3 1105 1634)::(nat_lit 1111,jo "_law_choice" 1110 (sG 89))::(nat_lit 1115,cB "_law_merged" "_law_merged" 1637 594 2 1112 1640)::(nat_lit 1116,jo "_law_merged" 1115 (sG 90))::(nat_lit 1122,cA "_law_turn" "_law_turn" 1643 605 5 1117 1654)::(nat_lit 1123,jo "_law_turn" 1122 (sG 91))::(nat_lit 1127,cB "_law_same" "_law_same" 1657 612 4 1124 1660)::(nat_lit 1128,jo "_law_same" 1127 (sG 92))::(nat_lit 1132,cB "law" "law" 1663 622 1 1129 1666)::(nat_lit 1133,jo "law" 1132 (sG 93))::[]
noncomputable def KA (P:Params):Frag:=(nat_lit 1080,fi .none [])::K P
noncomputable def as:List Addr:=1080::2::3::4::30::31::43::44::55::56::67::68::79::80::91::92::98::99::105::106::110::111::117::118::124::125::131::132::138::139::145::146::159::160::166::167::173::174::180::181::183::184::194::195::201::202::208::209::215::216::222::223::227::228::234::235::248::249::255::256::262::263::269::270::276::277::290::291::297::298::300::301::318::319::325::326::332::333::339::340::346::347::349::350::367::368::374::375::381::382::388::389::395::396::405::406::423::424::426::427::442::443::445::446::454::455::461::462::468::469::475::476::482::483::496::497::510::511::517::518::520::521::538::539::552::553::559::560::562::563::580::581::594::595::601::602::604::605::622::623::636::637::643::644::646::647::664::665::678::679::685::686::688::689::706::707::720::721::727::728::730::731::748::749::762::763::769::770::772::773::797::798::804::805::807::808::813::819::820::826::827::831::832::845::846::852::853::859::860::866::867::880::881::887::888::901::902::908::909::915::916::922::923::929::930::936::937::939::940::955::956::962::963::974::975::979::980::986::987::1035::1036::1042::1043::1066::1067::1084::1085::1091::1092::1098::1099::1103::1104::1110::1111::1115::1116::1122::1123::1127::1128::1132::1133::[]
noncomputable def L (P:Params):List (Nat×Obj):=KA P
def K_L (P:Params):KA P=L P:=rfl
def K_as (P:Params):as=(KA P).map (·.1):=by kernel_rfl
def qv:Program:=view p [93]
noncomputable def loose:List Str:="_wall"::"RailError"::"NoBits"::"NoName"::"NoKey"::"NoFrame"::"NoPost"::"HIGHEST_BYTE"::"bits_of"::"number_of"::"are_bytes"::"divided"::"KEY"::"CHECK_BITS"::"rest_of"::"check_of"::"NAME_BITS"::"HIGHEST_NAME"::"is_name"::"is_wanted"::"MOST_ALIKE"::"Streak"::"put_in"::"SIZE_AT"::"SIZE_BITS"::"DATA_AT"::"BYTE_BITS"::"MOST_BYTES"::"check_frame"::"frame_bits"::"is_complete"::"told_size"::"read_frame"::"wire_of"::"GREAT_FAULT"::"SMALL_FAULT"::"QUIET_FROM"::"OFF_FROM"::"Count"::"Reader"::"ANSWER_AT"::"VOTES_AT"::"Tail"::"ReadTail"::"SpeakTail"::"FLAG_BITS"::"REST_TURNS"::"QUIET_TURNS"::"DUEL_BITS"::"begun_reader"::"unless_off"::"fault_of"::"refusal_of"::"blame_of"::"Free"::"Speaks"::"Reads"::"InTail"::"Flagging"::"Settles"::"Rests"::"Off"::"VOTES"::"check_votes"::"check_choice"::"copies"::"Post"::"MOST_POSTS"::"Rail"::"heard_well"::"ear"::"_law_draw"::"_law_size"::"_law_frames"::"_law_choice"::"_law_merged"::"_law_turn"::"_law_same"::[]
abbrev N:Nat:=8508
def b8Q:∀w:World,(fencedOpening treeTable p w N).map (λs=>(s.heap,s.gens,s.drawn,s.toks))=some (boot_heap w.params,Array.mk [],boot_drawn,boot_toks):=boot_open (by kernel_rfl) (by decide) (λs=>by kernel_rfl)
def ann:Option Value:=some (.ref 6)
def whole (w:World)(a:OsState):=(segRunT treeTable p w 11 ann 0 N (S w a) (topStub p)).map λr=>look p qv loose (xlAt qv []) as (boot_heap w.params) r.2.1
def good (w:World)(_:OsState):=some (true,openGood qv loose,((L w.params).map λp=>p.2).map some)
def sz (w : World) := ((boot_heap w.params).isNs mainGlobals, (boot_heap w.params).objs.size, (boot_heap w.params).nsMap mainGlobals "__annotations__")
def sg (_:World):=(true,11,ann)
def b2L:whole=whole:=rfl
def b9Q:good=good:=rfl
def c3Z:sz=sz:=rfl
noncomputable def _root_.PySem.W.Fast.tw686714223953664659:Program:=PySem.Challenge.pw_bitrail_k91_whole_one_wrong_bit
theorem _root_.PySem.W.Fast.te686714223953664659:PySem.Challenge.pw_bitrail_k91_whole_one_wrong_bit=PySem.W.Fast.tw686714223953664659:=rfl
noncomputable def _root_.PySem.W.Fast.tw9140266817696972190:Params->List (Nat×Obj):=Hd.L
def _root_.PySem.W.Fast.te9140266817696972190:Hd.L=PySem.W.Fast.tw9140266817696972190:=rfl
noncomputable def _root_.PySem.W.Fast.tw7625976266985363445:List Str:=Hd.loose
def _root_.PySem.W.Fast.te7625976266985363445:Hd.loose=PySem.W.Fast.tw7625976266985363445:=rfl
name_quick wq for whole by b2L
name_quick gq for good by b9Q
name_quick zq for sz by c3Z
def z_g (w:World):PySem.W.Fast.zq w=sg w:=by kernel_rfl
def w_g (w:World):PySem.W.Fast.wq w=PySem.W.Fast.gq w:=by kernel_rfl
def c2K:LeftO p qv loose (xlAt qv []) (λs=>as.map s.heap.get?) (λw=>((L w.params).map λp=>p.2).map some) N:=a2J S b8Q (λw=>(congrFun PySem.W.Fast.zq_eq w).trans (z_g w)) c3C λw=>((congrFun PySem.W.Fast.wq_eq w).trans (w_g w)).trans (congrFun PySem.W.Fast.gq_eq w).symm
def left:LeftO p qv loose (xlAt qv []) (λs=>as.map s.heap.get?) (λw=>(KA w.params).map λp=>some p.2) N:=λw=>(c2K w).trans (by show some (_,((L w.params).map _).map _)=some (_,(KA w.params).map _);rw[K_L,Jv];rfl)
def tc:List (Addr×Addr):=[(1084,1080)]
def tabs (w:World)(h:Heap)(Y:InK KA w h):(K w.params).In h/\∀q∈tc,(K w.params).lookup q.2=none/\h.get? q.2=some (tabObj #[])/\codeHdIn (K w.params) q.1 q.2=true:=by
 have b:(K w.params).lookup 1080=none:=by kernel_rfl
 have c:h.get? 1080=some (tabObj #[]):=Y 1080 _ (by kernel_rfl)
 have d:codeHdIn (K w.params) 1084 1080=true:=by kernel_rfl
 refine⟨λa o e=>Y a o ?_,λq g=>?_⟩
 ·show List.lookup a (((1080:Nat),fi .none [])::K w.params)=some o
  rw[Y4]
  have f:(a == 1080)=false:=Xf.mpr λz=>by rw[z,b]at e;cases e
  rw[f]
  exact e
 ·have g:q∈([(1084,1080)]:List (Addr×Addr)):=g
  simp only[YL,Xz,or_false]at g
  subst g
  exact⟨b,c,d⟩
def dl:DefRec:=dr (sf p 93)
def da:=(defOf qv "law",p.theDef "law")
def db:=(some (dl,([]:List (Str×PySem.Expr))),some (dl.params,dl.body,dl.scope))
def c4V:da=da:=rfl
def c4U:db=db:=rfl
name_quick daq for da by c4V
name_quick dbq for db by c4U
def d_q:PySem.W.Fast.daq=PySem.W.Fast.dbq:=by kernel_rfl
def d_e:da=db:=PySem.W.Fast.daq_eq.trans (d_q.trans PySem.W.Fast.dbq_eq.symm)
def dl_1:defOf qv "law"=some (dl, []):=YU Prod.fst d_e
def dl_2:p.theDef "law"=some (dl.params,dl.body,dl.scope):=YU Prod.snd d_e
end
end Hd
set_option Elab.async false
set_option linter.all false
set_option maxRecDepth 100000
namespace L2
open PySem PySem.Spec PyProof.Rows
variable {us:List Value}{x:Str}{u:Value}{a:Addr}{b:Addr}{P:Program}{w:World}{h:Heap}{t':Nat}{i:Nat}{j:Nat}{e:Expr}{A:Around}{E:Value->Shared->Prop}{s:Shared}{pos:Pos}{v:Value}{op:CmpOp}{c:Expr}{K:W.Frag}{pins:List (Addr×Obj)}{tg:Expr}{p:Pos}{fp:List Addr}{dx:Addr}{mA:Str->Option Value}{C:Addr}{f:Addr}{k:Nat}{fd:FuncData}{ps:List Str}{kindOf:Str->Option NameKind}{h':Heap}{es:List Expr}
abbrev Key:=Sum Int Str
def vD:Key->Value->Bool
 |.inl k,v=>Value.isInt k v
 |.inr x,v=>Value.isStrOf x v
def c4M (w:World):Key->Int
 |.inl k=>hashInt k
 |.inr x=>hashStr w x
theorem eO:∀{k:Key}{v:Value},vD k v=true->(∃i t,k=Sum.inl i/\v=Value.int i t)\/(∃x t,k=Sum.inr x/\v=Value.str x t)
 | .inl i,v,h=>by
  obtain⟨t,e⟩:=Value.isInt_shape (k:=i) (v:=v) h
  exact .inl ⟨i,t,rfl,e⟩
 | .inr x,v,h=>by
  obtain⟨t,e⟩:=Value.isStrOf_shape (x:=x) (v:=v) h
  exact .inr ⟨x,t,rfl,e⟩
def a6Q (i:Int)(t:Tok):vD (.inl i) (.int i t)=true:=by simp[vD,Value.isInt]
def a6P (x:Str)(t:Tok):vD (.inr x) (.str x t)=true:=by simp[vD,Value.isStrOf]
def b9N (a b:Int):decide ((Sum.inl a:Key)=Sum.inl b)=(a == b):=by
 by_cases e:a=b
 ·subst e;simp
 ·have h:¬ (Sum.inl a:Key)=Sum.inl b:=λq=>e (Sum.inl.inj q)
  rw[Yu h]
  exact(Xf.mpr e).symm
def b9K (a b:Str):decide ((Sum.inr a:Key)=Sum.inr b)=decide (a=b):=by
 by_cases e:a=b
 ·subst e;simp
 ·have h:¬ (Sum.inr a:Key)=Sum.inr b:=λq=>e (Sum.inr.inj q)
  rw[Yu h,Yu e]
def b9M (a:Int)(b:Str):decide ((Sum.inl a:Key)=Sum.inr b)=false:=Yu (λq=>nomatch q)
def b9L (a:Str)(b:Int):decide ((Sum.inr a:Key)=Sum.inl b)=false:=Yu (λq=>nomatch q)
def fL (prog:Program)(w:World):PySem.KeyKind prog w Key where
 is:=vD
 hash:=c4M w
 inj :=λv a b ha hb=>by
  rcases eO ha with ⟨i,t,rfl,rfl⟩ | ⟨x,t,rfl,rfl⟩
  ·rcases eO hb with ⟨j,u,rfl,e⟩ | ⟨y,u,rfl,e⟩
   ·injection e with e1 _;rw[e1]
   ·exact nomatch e
  ·rcases eO hb with ⟨j,u,rfl,e⟩ | ⟨y,u,rfl,e⟩
   ·exact nomatch e
   ·injection e with e1 _;rw[e1]
 byValue:=λk v h=>by
  rcases eO h with ⟨i,t,rfl,rfl⟩ | ⟨x,t,rfl,rfl⟩ <;> rfl
 pyHash:=λhv h=>by
  rcases eO hv with ⟨i,t,rfl,rfl⟩ | ⟨x,t,rfl,rfl⟩
  ·exact wpAny_pyHash_int h
  ·exact wpAny_pyHash_str h
 eqBool:=λhu hv h=>by
  rcases eO hu with ⟨i,t,rfl,rfl⟩ | ⟨x,t,rfl,rfl⟩
  ·rcases eO hv with ⟨j,u,rfl,rfl⟩ | ⟨y,u,rfl,rfl⟩
   ·rw[b9N]at h;exact wpAny_eqBool_int h
   ·rw[b9M]at h;exact SeqAt.EqAt.int_str i t y u _ _ _ _ h
  ·rcases eO hv with ⟨j,u,rfl,rfl⟩ | ⟨y,u,rfl,rfl⟩
   ·rw[b9L]at h;exact SeqAt.EqAt.str_int x t j u _ _ _ _ h
   ·rw[b9K]at h;exact wpAny_eqBool_str h
 «strs»:=λk x t v h=>by
  rcases eO h with ⟨i,u,rfl,e⟩ | ⟨y,u,rfl,e⟩
  ·exact nomatch e
  ·injection e with e1 _
   subst e1
   cases v <;> rfl
def zV (prog:Program)(w:World)(i:Int)(t:Tok):(fL prog w).is (.inl i) (.int i t)=true:=a6Q i t
def zT (prog:Program)(w:World)(x:Str)(t:Tok):(fL prog w).is (.inr x) (.str x t)=true:=a6P x t
inductive V where
 |non | bl (b:Bool) | int (i:Int) | str (x:Str) | byt (b:Array UInt8) | flt (b:UInt64) | ref (a:Addr) | ty (n:String)
 deriving DecidableEq
def RelV:V->Value->Prop
 |.non,u=>u=Value.none
 |.bl b,u=>u=Value.bool b
 |.int i,u=>∃t,u=Value.int i t
 |.str x,u=>∃t,u=Value.str x t
 |.byt b,u=>∃t,u=Value.bytes b t
 |.flt b,u=>∃t,u=Value.float b t
 |.ref a,u=>u=Value.ref a
 |.ty n,u=>u=Value.type n
abbrev Vals:List V->List Value->Prop:=Paired RelV
def Vals.length {xs:List V}(r:Vals xs us):xs.length=us.length:=Paired.length r
theorem Vals.get:∀{xs:List V}{us:List Value}{i:Nat}{x:V},Vals xs us->xs[i]? =some x->∃u,us[i]? =some u/\RelV x u
 |_,_,_,_,.nil,e=>by simp at e
 |_,_,0,_,.cons r _,e=>by simp at e;subst e;exact⟨_,rfl,r⟩
 | _,_,i+1,x,.cons _ t,e=>by
  obtain⟨u,h1,h2⟩:=Vals.get (i:=i) (x:=x) t (by simpa using e)
  exact⟨u,by simpa using h1,h2⟩
theorem Vals.set {x:V}(r:RelV x u):∀{xs:List V}{us:List Value}(i:Nat),Vals xs us->Vals (xs.set i x) (us.set i u)
 |_,_,_,.nil=> .nil
 |_,_,0,.cons _ t=> .cons r t
 |_,_,i+1,.cons q t=> .cons q (Vals.set r i t)
theorem Vals.append:∀{xs ys:List V}{us ws:List Value},Vals xs us->Vals ys ws->Vals (xs++ys) (us++ws)
 |_,_,_,_,.nil,s=>s
 |_,_,_,_,.cons r t,s=> .cons r (Vals.append t s)
theorem Vals.take:∀{xs:List V}{us:List Value}(n:Nat),Vals xs us->Vals (xs.take n) (us.take n)
 |_,_,0,_=> .nil
 |_,_,_+1,.nil=> .nil
 |_,_,n+1,.cons r t=> .cons r (Vals.take n t)
theorem Vals.drop:∀{xs:List V}{us:List Value}(n:Nat),Vals xs us->Vals (xs.drop n) (us.drop n)
 |_,_,0,r=>r
 |_,_,_+1,.nil=> .nil
 |_,_,n+1,.cons _ t=>Vals.drop n t
def nG:Option V->Option Value->Prop
 |some v,some u=>RelV v u
 |none,none=>True
 |_,_=>False
def KV {a:Type}:List (a×V)->List (a×Value)->Prop:=Paired λ(p:a×V) (q:a×Value)=>p.1=q.1/\RelV p.2 q.2
def kV:Key->V
 |.inl i=> .int i
 |.inr x=> .str x
inductive HO where
  |lst (xs:List V)
  |tup (xs:List V)
  |dK (kvs:List (Key×V)) | dT (kvs:List (List Key×V))
  |set (S:Int->Bool) (n:Nat)
  |ins (C dx:Addr) (fs:List (Str×V))
  |own (x:Addr)
  |xd (fs:List (Str×V))
  |met (f x:Addr)
  |rng (lo hi:Int)
  |frz (o:Obj) (u:HO)
  |tbl (ps:Array Value)
  |ext (φ:Heap->Prop)
variable {o:HO}
abbrev Hp:=Addr->Option HO
variable {H:Hp}{H':Hp}
def upd (H:Hp)(a:Addr)(o:HO):Hp:=λb=>if b=a then some o else H b
def aB:upd H a o a=some o:=by unfold upd;rw[if_pos rfl]
def aH (h:b≠a):upd H a o b=H b:=by unfold upd;rw[if_neg h]
def c1Z {u:HO}(h:H a=some o)(h':H b=some u)(d:o≠u):a≠b:=by
 intro e;subst e;rw[h]at h';exact d (Yp h')
def aL (h:H a=some o)(h':H b=none):a≠b:=by
 intro e;subst e;rw[h]at h';cases h'
section
variable (P:Program)(w:World)
def fC (H:Hp)(h:Heap)(a:Addr):HO->Prop
  |.lst xs=>xs.length<=sizeLine/\∃(its:List Value)(n:Nat),Vals xs its/\h.get? a=some { cls:= .type "list",data:= .seq its.toArray n }
  |.tup xs=>xs.length<=sizeLine/\∃its:List Value,Vals xs its/\IsTup h a its.toArray
  |.dK kvs=>kvs.length<=sizeLine/\(a == sysModules)=false/\∃vs,KV kvs vs/\h.DictOf (fL P w) a vs
  | .dT kvs=>kvs.length<=sizeLine/\(a == sysModules)=false/\∃xs:List (List Key×Addr×Value),
      Paired (λ(p:List Key×V) (q:List Key×Addr×Value)=>p.1=q.1/\H q.2.1=some (.tup (p.1.map kV))/\RelV p.2 q.2.2) kvs xs/\
      ∃o es ep,h.get? a=some o/\o.ExactDict/\o.data= .dict es ep/\es.toList=xs.map (entryOfKey (tupleKind (fL P w)))/\(xs.map (·.1)).Nodup
  |.set S n=>h.SetOf (intKind P w) a S n
  | .ins C dx fs=>H dx=some (.own a)/\fs.length<=1000/\dx≠a/\h.get? a=some (W.instObj C dx)/\
      ∃mA,h.Ns1 dx mA/\(∀f,nG (fs.lookup f) (mA f))/\PySem.Within mA (fs.map (·.1))
  |.own _=>∃o,h.get? a=some o
  |.xd fs=>∃mA,h.Ns1 a mA/\∀f,nG (fs.lookup f) (mA f)
  |.rng lo hi=>∃t u v,h.get? a=some { cls:= .type "range",data:= .fields #[.int lo t,.int hi u,.int 1 v] }
  |.frz o u=>h.get? a=some o/\fC H h a u
  |.tbl ps=>h.get? a=some { cls:= .none,data:= .fields ps }
  |.met f x=>h.get? a=some (W.methodObj (.ref f) (.ref x))
  |.ext φ=>φ h/\(∃o,h.get? a=some o)/\∀h1 h2:Heap,φ h1->(∀o,h1.get? a=some o->h2.get? a=some o)->φ h2
def HOk (H:Hp)(h:Heap):Prop:=∀a o,H a=some o->fC P w H h a o
end
def fC.lt (x:fC P w H h a o):a<h.objs.size:=by
 cases o with
 |lst xs=>obtain⟨_,_,_,_,e⟩:=x;exact Yt e
 |tup xs=>obtain⟨_,_,_,p⟩:=x;exact p.lt
 |dK kvs=>obtain⟨_,_,_,_,o,_,_,e,_⟩:=x;exact Yt e
 |dT kvs=>obtain⟨_,_,_,_,o,_,_,e,_⟩:=x;exact Yt e
 |set S n=>obtain⟨o,_,_,_,e,_⟩:=x;exact Yt e
 |ins C dx fs=>obtain⟨_,_,_,e,_⟩:=x;exact Yt e
 |own y=>obtain⟨_,e⟩:=x;exact Yt e
 |xd fs=>obtain⟨_,⟨_,_,_,e,_⟩,_⟩:=x;exact Yt e
 |rng lo hi=>obtain⟨_,_,_,e⟩:=x;exact Yt e
 |frz ob u=>obtain⟨e,_⟩:=x;exact Yt e
 |tbl ps=>exact Yt (show h.get? a=some _ from x)
 |met f y=>exact Yt (show h.get? a=some _ from x)
 |ext φ=>obtain⟨_,⟨_,e⟩,_⟩:=x;exact Yt e
theorem Paired.mapP {α β:Type}{F G:α->β->Prop}:∀{l₁:List α}{l₂:List β},Paired F l₁ l₂->(∀a b,F a b->G a b)->Paired G l₁ l₂
 |_,_,.nil,_=> .nil
 |_,_,.cons r t,f=> .cons (f _ _ r) (Paired.mapP t f)
theorem fC.stay (x:fC P w H h a o)(k:∀b u,(b=a\/H b=some (.own a))->h.get? b=some u->h'.get? b=some u)
  (ho:∀b,H b=some (.own a)->H' b=some (.own a)) (ht:∀b xs,H b=some (.tup xs)->H' b=some (.tup xs)):fC P w H' h' a o:=by
 induction o with
 |lst xs=>obtain⟨z,l,n,r,e⟩:=x;exact⟨z,l,n,r,k _ _ (.inl rfl) e⟩
 |tup xs=>obtain⟨z,l,r,g,e,c⟩:=x;exact⟨z,l,r,g,k _ _ (.inl rfl) e,c⟩
 |dK kvs=>obtain⟨z,y,B,r,g,i,j,e,c⟩:=x;exact⟨z,y,B,r,g,i,j,k _ _ (.inl rfl) e,c⟩
 | dT kvs=>
  obtain⟨z,y,xs,r,g,i,j,e,c⟩:=x
  exact⟨z,y,xs,Paired.mapP r λp q z=>⟨z.1,ht _ _ z.2.1,z.2.2⟩,g,i,j,k _ _ (.inl rfl) e,c⟩
 |set S n=>obtain⟨g,i,j,t,e,c⟩:=x;exact⟨g,i,j,t,k _ _ (.inl rfl) e,c⟩
 | ins C dx fs=>
  obtain⟨d,z,ne,e,m,⟨s,i,j,D,c⟩,r⟩:=x
  exact⟨ho _ d,z,ne,k _ _ (.inl rfl) e,m,⟨s,i,j,k _ _ (.inr d) D,c⟩,r⟩
 |own y=>obtain⟨g,e⟩:=x;exact⟨g,k _ _ (.inl rfl) e⟩
 |xd fs=>obtain⟨m,⟨s,i,j,e,c⟩,r⟩:=x;exact⟨m,⟨s,i,j,k _ _ (.inl rfl) e,c⟩,r⟩
 |rng lo hi=>obtain⟨t,u,v,e⟩:=x;exact⟨t,u,v,k _ _ (.inl rfl) e⟩
 |frz g u ih=>obtain⟨e,q⟩:=x;exact⟨k _ _ (.inl rfl) e,ih q⟩
 | tbl ps=>
  have e:h.get? a=some { cls:= .none,data:= .fields ps }:=x
  show h'.get? a=some { cls:= .none,data:= .fields ps }
  exact k a _ (.inl rfl) e
 | met f y=>
  have e:h.get? a=some (W.methodObj (.ref f) (.ref y)):=x
  show h'.get? a=some (W.methodObj (.ref f) (.ref y))
  exact k a _ (.inl rfl) e
 |ext φ=>obtain⟨p,⟨o,e⟩,A⟩:=x;exact⟨A _ _ p λo q=>k _ _ (.inl rfl) q,⟨o,k _ _ (.inl rfl) e⟩,A⟩
def HOk.lt (x:HOk P w H h)(e:H a=some o):a<h.objs.size:=(x a o e).lt
def HOk.fresh (x:HOk P w H h)(e:h.objs.size<=a):H a=none:=by
 cases q:H a with
 |none=>rfl
 |some u=>exact absurd (Yh (x.lt q) e) (YT _)
def HOk.kept (x:HOk P w H h)(k:∀b u,h.get? b=some u->h'.get? b=some u):HOk P w H h':=λa o e=>
 (x a o e).stay (λb u _ q=>k b u q) (λ_ q=>q) λ_ _ q=>q
def HOk.laid (x:HOk P w H h)(k:∀b u,h.get? b=some u->h'.get? b=some u)(g:h.objs.size<=a)(d:fC P w (upd H a o) h' a o):HOk P w (upd H a o) h':=λb u e=>by
 have f:=x.fresh g
 by_cases hb:b=a
 ·subst hb;rw[aB]at e;cases e;exact d
 ·rw[aH hb]at e
  exact(x b u e).stay (λc v _ q=>k c v q) (λc q=>by rw[aH (aL q f)];exact q) λc xs q=>by rw[aH (aL q f)];exact q
def Rd (H:Hp)(a:Addr)(u:HO):Prop:=H a=some u\/∃o,H a=some (.frz o u)
def Rd.ok {u:HO}(r:Rd H a u)(x:HOk P w H h):fC P w H h a u:=by
 rcases r with r | ⟨o,r⟩
 ·exact x a u r
 ·obtain⟨_,q⟩:=x a _ r
  exact q
def Mut:Option HO->Prop
 |some (.lst _)=>True
 |some (.dK _)=>True
 |some (.dT _)=>True
 |some (.set _ _)=>True
 |some (.ins _ _ _)=>True
 |some (.ext _)=>True
 |_=>False
section
variable {x e:Addr}{o':HO}
theorem HOk.write (ok:HOk P w H h)(f:Mut (H x))(j:e=x\/H e=some (.own x))(k:∀b u,b≠e->h.get? b=some u->h'.get? b=some u)(g:∃u,h'.get? e=some u)
  (i:fC P w (upd H x o') h' x o'):HOk P w (upd H x o') h':=λb u q=>by
 have a:∀c y,H c=some (.own y)->c≠x:=λc y r z=>by subst z;rw[r]at f;exact f
 have d:∀c xs,H c=some (.tup xs)->c≠x:=λc xs r z=>by subst z;rw[r]at f;exact f
 by_cases hb:b=x
 ·subst hb;rw[aB]at q;cases q;exact i
 ·rw [aH hb]at q
  by_cases hbe:b=e
  ·have l:H b=some (.own x):=by
    rcases j with z | z
    ·exact absurd (hbe.trans z) hb
    ·rw[hbe];exact z
   rw[q]at l;cases l
   obtain⟨v,m⟩:=g
   exact⟨v,by rw[hbe];exact m⟩
  ·refine(ok b u q).stay (λc v hc r=>k c v ?_ r) (λc r=>by rw[aH (a c b r)];exact r) λc xs r=>by rw[aH (d c xs r)];exact r
   rcases hc with rfl | hc
   ·exact hbe
   ·rintro rfl
    rcases j with z | z
    ·exact a c b hc z
    ·rw[hc]at z;cases z;exact hb rfl
end
structure Un (fs ex:List Addr)(H H':Hp)(h h':Heap):Prop where
 keep:∀b o,h.get? b=some o->H b=none->b∉fs->b∉ex->h'.get? b=some o
 slot:∀b o,h.get? b=some o->H b=none->b∈fs->b∉ex->∃sl,h'.get? b=some { o with slots:=sl }
 free:∀b o,h.get? b=some o->H b=none->b∉ex->H' b=none
 there:∀b o,h.get? b=some o->b∉ex->∃o',h'.get? b=some o'
 tups:∀b xs,H b=some (.tup xs)->H' b=some (.tup xs)
 frzs:∀b o u,H b=some (.frz o u)->H' b=some (.frz o u)
 tbls:∀b ps,H b=some (.tbl ps)->∃more,H' b=some (.tbl (ps++more))
section
variable {fs fs' ex ex':List Addr}{H1 H2:Hp}{h1 h2:Heap}{x e:Addr}
def Un.any (u:Un fs ex H H1 h h1){a:Obj}(q:h.get? b=some a)(n:H b=none)(c:b∉ex):∃sl,h1.get? b=some { a with slots:=sl }:=by
 by_cases hb:b∈fs
 ·exact u.slot b a q n hb c
 ·exact⟨a.slots,u.keep b a q n hb c⟩
def Un.kept (k:∀b u,h.get? b=some u->h'.get? b=some u):Un fs ex H H h h':=
 ⟨λb a q _ _ _=>k b a q,λb a q _ _ _=>⟨a.slots,k b a q⟩,λ_ _ _ n _=>n,λb a q _=>⟨a,k b a q⟩,λ_ _ q=>q,λ_ _ _ q=>q,λ_ c q=>⟨#[],by rw[q];simp⟩⟩
def Un.refl:Un fs ex H H h h:=Un.kept λ_ _ q=>q
theorem Un.laid (k:∀b u,h.get? b=some u->h'.get? b=some u)(hp:h.objs.size<=a)(hn:H a=none):Un fs ex H (upd H a o) h h' where
 keep:=λb u q _ _ _=>k b u q
 slot:=λb u q _ _ _=>⟨u.slots,k b u q⟩
 free:=λb u q n _=>by rw[aH (YI (Yh (Yt q) hp))];exact n
 there:=λb u q _=>⟨u,k b u q⟩
 tups:=λb xs q=>by rw[aH (aL q hn)];exact q
 frzs:=λb u xs q=>by rw[aH (aL q hn)];exact q
 tbls:=λb ps q=>⟨#[],by rw[aH (aL q hn),q];simp⟩
def Un.write (a:Mut (H x))(i:e=x\/H e=some (.own x))(k:∀b u,b≠e->h.get? b=some u->h'.get? b=some u)(c:∃u,h'.get? e=some u):Un fs ex H (upd H x o) h h':=by
 have f:∀b,H b=none->b≠x:=λb n z=>by subst z;rw[n]at a;exact a
 have g:∀b,H b=none->b≠e:=λb n z=>by
  subst z
  rcases i with r | r
  ·exact f b n r
  ·rw[n]at r;cases r
 have d:∀b u,H b=some u->¬ Mut (some u)->b≠x:=λb u q nm z=>by subst z;rw[q]at a;exact nm a
 refine⟨λb u q n _ _=>k b u (g b n) q,λb u q n _ _=>⟨u.slots,k b u (g b n) q⟩,λb u q n _=>by rw[aH (f b n)];exact n,λb u q _=>?_,
  λb xs q=>by rw[aH (d b _ q λz=>z)];exact q,λb u xs q=>by rw[aH (d b _ q λz=>z)];exact q,λb j q=>⟨#[],by rw[aH (d b _ q λz=>z),q];simp⟩⟩
 by_cases hbe:b=e
 ·subst hbe;exact c
 ·exact⟨u,k b u hbe q⟩
end
def trk (h:Heap)(H:Hp):List Addr:=(List.range h.objs.size).filter λa=>(H a).isSome
def xN (h:Heap)(H:Hp):Heap:=W.hideAll h (trk h H)
def a6S (h:Heap)(H:Hp):(xN h H).objs.size=h.objs.size:=W.hideAll_size _ _
def b0T {o:Obj}(e:h.get? b=some o)(n:H b=none):(xN h H).get? b=some o:=
 W.hideAll_get _ e λa=>by
  have q:(H b).isSome=true:=(List.mem_filter.mp a).2
  rw[n]at q;simp at q
def b4L {o:Obj}(e:(xN h H).get? b=some o):h.get? b=some o/\H b=none:=by
 have a:h.get? b=some o:=W.of_hideAll (trk h H) e
 refine⟨a,?_⟩
 cases q:H b with
 |none=>rfl
 | some x=>
  have c:b∈trk h H:=List.mem_filter.mpr ⟨Jy.mpr (Yt a),by simp[q]⟩
  have z:(xN h H).get? b=none:=W.hideAll_none (trk h H) c
  rw[z]at e;cases e
structure Mod (K:W.Frag)(mg:Str->Option Value)(base:Heap):Prop where
 kin:K.In base
 glob:base.Ns mainGlobals mg
 blt:∃mb,base.Ns builtinsNs mb/\∀x:Str,x≠"__name__"->mb x=bootBuiltins x
 nolimit:base.NoLimit
structure Cx where
 prog:Program
 w:World
 K:W.Frag
 mg:Str->Option Value
 base:Heap
 A:Around
 N:List Str
 s₀:Shared
 H₀:Hp
 env:Env
 outer:List Env
 stack:List Env
 ex:List Addr
 fn:Str->Bool
 calm:Bool
 pn:List (Addr×Obj)
 xe:Value->Shared->Prop
variable {X:Cx}
def frs (l:List Env):List Addr:=l.filterMap (·.frame)
abbrev Cx.fs (X:Cx):List Addr:=frs X.outer
def Vis (a:Scope)(x:Str):Prop:=a.names.lookup x=some .local\/a.names.lookup x=some .cell\/a.names.lookup x=some .free
def Loc (a:Scope)(x:Str):Prop:=a.names.lookup x=some .local\/a.names.lookup x=some .cell
def Look (env:Env)(h:Heap)(m:Str->Option Value)(x:Str)(u:Value):Prop:=
 (env.kindOf x=some .local/\m x=some u)\/((env.kindOf x=some .cell\/env.kindOf x=some .free)/\∃c,env.cells.lookup x=some c/\h.IsCell c (some u))
structure Cx.Ok (X:Cx):Prop where
 mod:Mod X.K X.mg X.base
 kind:X.env.scope.kind= .function
 glob:X.env.globals=mainGlobals
 blt:X.env.builtins=builtinsNs
 above:X.s₀.heap.objs.size<=X.env.locals
 inj:∀x y c,X.env.cells.lookup x=some c->X.env.cells.lookup y=some c->x=y
 has:∀x,(X.env.kindOf x=some .cell\/X.env.kindOf x=some .free)->∃c,X.env.cells.lookup x=some c
 cab:∀x c,X.fn x=true->X.env.cells.lookup x=some c->X.s₀.heap.objs.size<=c
 hd:X.calm=true->X.A.handled=none
 frames:X.A.frames=some X.stack
 stk:X.stack=X.outer\/(X.stack=X.env::X.outer/\X.env.frame=some X.env.locals)
 exf:∀b∈X.ex,b≠X.env.locals/\∀x c,X.env.cells.lookup x=some c->c≠b
 bs:∀b o,X.base.get? b=some o->X.s₀.heap.get? b=some o/\X.H₀ b=none
 bsz:X.base.objs.size<=X.s₀.heap.objs.size
 noex:∀b o,X.base.get? b=some o->b∉X.ex
 exfs:∀b∈X.ex,b∉X.fs
 funs:X.s₀.heap.FunFrames X.base X.outer
 frf:∀b∈X.fs,X.H₀ b=none
structure Inv (X:Cx)(pins:List (Addr×Obj))(σ:List (Option V))(H:Hp)(s:Shared):Prop where
 ok:X.Ok
 os:s.os=X.s₀.os
 bare:AllBare s.gens
 base:Un X.fs X.ex X.H₀ H X.s₀.heap s.heap
 loc:∃m,s.heap.Ns X.env.locals m/\∀(i:Nat)(x:Str)(v:V),X.N[i]? =some x->σ[i]? =some (some v)->Vis X.env.scope x->∃u,RelV v u/\Look X.env s.heap m x u
 cell:∀x c,X.env.cells.lookup x=some c->∃v,s.heap.IsCell c v
 free:H X.env.locals=none
 freeC:∀x c,X.env.cells.lookup x=some c->H c=none
 pin:∀p∈X.pn++pins,s.heap.get? p.1=some p.2/\H p.1=none/\p.1≠X.env.locals/\p.1∉X.fs/\∀v,p.2.data≠ .cell v
 hok:HOk X.prog X.w H s.heap
 len:σ.length=X.N.length
section
variable {σ:List (Option V)}
def Cx.Ok.nofr (ok:X.Ok){o:Obj}(e:X.base.get? b=some o):b∉X.fs:=λa=>by
 have:=(ok.funs.mem a).1
 rw[e]at this;cases this
def Inv.bs (I:Inv X pins σ H s):∀b o,X.base.get? b=some o->s.heap.get? b=some o/\H b=none:=λb o e=>
 ⟨I.base.keep b o (I.ok.bs b o e).1 (I.ok.bs b o e).2 (I.ok.nofr e) (I.ok.noex b o e),I.base.free b o (I.ok.bs b o e).1 (I.ok.bs b o e).2 (I.ok.noex b o e)⟩
def Inv.bk (I:Inv X pins σ H s):∀b o,X.base.get? b=some o->s.heap.get? b=some o:=λb o e=>(I.bs b o e).1
def Inv.mod (I:Inv X pins σ H s):Mod X.K X.mg X.base:=I.ok.mod
def Inv.kIn (I:Inv X pins σ H s):X.K.In s.heap:=I.ok.mod.kin.keeps I.bk
def Inv.fr (I:Inv X pins σ H s):∃m,Fr X.base X.env.locals s.heap m:=
 let ⟨m,hn,_⟩:=I.loc
 ⟨m,hn,I.bk,YS I.ok.bsz I.ok.above⟩
def Inv.lt (I:Inv X pins σ H s):X.env.locals<s.heap.objs.size:=let ⟨_,hn,_⟩:=I.loc;hn.lt
def Inv.sz (I:Inv X pins σ H s):X.s₀.heap.objs.size<=s.heap.objs.size:=YS I.ok.above (XD I.lt)
def Inv.nofs (I:Inv X pins σ H s)(h:s.heap.objs.size<=a):a∉X.fs:=λb=>by
 obtain⟨_,o,c,_⟩:=I.ok.funs.mem b
 exact absurd (Yh (Yt c) (YS I.sz h)) (YT _)
def Inv.cne (I:Inv X pins σ H s):∀x c,X.env.cells.lookup x=some c->c≠X.env.locals:=λx c e z=>by
 obtain⟨v,o,d,hd⟩:=I.cell x c e
 obtain⟨m,⟨f,g,h,a,b,_⟩,_⟩:=I.loc
 rw[z,a]at d;cases d;rw[b]at hd;cases hd
def Inv.funs (I:Inv X pins σ H s):s.heap.FunFrames X.base X.outer:=by
 have all:∀(l:List Env),(∀b∈frs l,b∈X.fs)->X.s₀.heap.FunFrames X.base l->s.heap.FunFrames X.base l:=by
  intro l
  induction l with
  |nil=>intro _ _;trivial
  | cons env r ih=>
   intro f g
   obtain⟨h,⟨L,o,a,i,j,hd⟩,k⟩:=g
   have c:L∈X.fs:=f L (by unfold frs;rw[List.filterMap_cons,a];exact YC)
   obtain⟨m,e⟩:=I.base.slot L o j (I.ok.frf L c) c λz=>I.ok.exfs L z c
   exact⟨h,⟨L,_,a,i,e,hd⟩,ih (λb d=>f b (by unfold frs;rw[List.filterMap_cons,a];exact Yv _ d)) k⟩
 exact all X.outer (λ_ d=>d) I.ok.funs
def Inv.stack (I:Inv X pins σ H s):s.heap.FunFrames X.base X.stack:=by
 rcases I.ok.stk with e | ⟨e,a⟩
 ·rw[e];exact I.funs
 ·rw[e]
  obtain⟨m,b,_⟩:=I.loc
  refine .cons (by rw[I.ok.kind];decide) a b ?_ I.funs
  exact Heap.get?_none_of_le (YS I.ok.bsz I.ok.above)
def Inv.stkSub (I:Inv X pins σ H s):∀b∈frs X.stack,b∈X.env.locals::X.fs:=λb a=>by
 rcases I.ok.stk with e | ⟨e,c⟩
 ·rw[e]at a;exact Yv _ a
 ·rw[e]at a
  unfold frs at a
  rw[List.filterMap_cons,c]at a
  exact a
def Inv.stkFree (I:Inv X pins σ H s):∀b∈frs X.stack,H b=none:=λb hb=>by
 rcases YL.mp (I.stkSub b hb) with e | hb
 ·rw[e];exact I.free
 ·obtain⟨_,o,a,_⟩:=I.ok.funs.mem hb
  exact I.base.free b o a (I.ok.frf b hb) λz=>I.ok.exfs b z hb
theorem Inv.step {g':Array GenState}{t':Nat}{d':Drawn}{ch:List Addr}(I:Inv X pins σ H s)
  (g:∀b∈ch,(b∈X.ex\/X.s₀.heap.objs.size<=b)/\b≠X.env.locals/\(∀x c,X.env.cells.lookup x=some c->c≠b)/\∀p∈X.pn++pins,p.1≠b)
  (keep:∀b o,b≠X.env.locals->b∉X.fs->b∉ch->s.heap.get? b=some o->H b=none->h'.get? b=some o)
  (A:∀b o,b≠X.env.locals->b∈X.fs->b∉ch->s.heap.get? b=some o->H b=none->∃sl,h'.get? b=some { o with slots:=sl }) (f:∀b o,b∉ch->s.heap.get? b=some o->H b=none->H' b=none)
  (B:∀b o,b∉ch->s.heap.get? b=some o->∃o',h'.get? b=some o')
  (E:∀b xs,H b=some (.tup xs)->H' b=some (.tup xs)) (F:∀b o u,H b=some (.frz o u)->H' b=some (.frz o u)) (G:∀b ps,H b=some (.tbl ps)->∃more,H' b=some (.tbl (ps++more)))
  (ns:∀m,s.heap.Ns X.env.locals m->h'.Ns X.env.locals m) (L:HOk X.prog X.w H' h') (P:AllBare g') :
  Inv X pins σ H' { s with heap:=h',gens:=g',drawn:=d',toks:=t' }:=by
 have J:∀b o,X.s₀.heap.get? b=some o->b≠X.env.locals:=λb o e=>YI (Yh (Yt e) I.ok.above)
 have t:∀b o,X.s₀.heap.get? b=some o->b∉X.ex->b∉ch:=λb o e a C=>by
  rcases (g b C).1 with z | z
  ·exact a z
  ·exact absurd (Yh (Yt e) z) (YT _)
 have h:∀x c,X.env.cells.lookup x=some c->∀v,s.heap.IsCell c v->h'.IsCell c v:=λx c e v ⟨o,D,hd⟩=>by
  have j:c∉ch:=λz=>(g c z).2.2.1 x c e rfl
  by_cases hc:c∈X.fs
  ·obtain⟨sl,q⟩:=A c o (I.cne x c e) hc j D (I.freeC x c e)
   exact⟨_,q,hd⟩
  ·exact⟨o,keep c o (I.cne x c e) hc j D (I.freeC x c e),hd⟩
 refine⟨I.ok,I.os,P,⟨λb o e n C a=>?_,λb o e n C a=>?_,λb o e n a=>?_,λb o e a=>?_,λb xs e=>E b xs (I.base.tups b xs e),λb o xs e=>F b o xs (I.base.frzs b o xs e),λb ps e=>?_⟩,?_,λx c e=>?_,?_,λx c e=>?_,λp N=>?_,L,I.len⟩
 ·exact keep b o (J b o e) C (t b o e a) (I.base.keep b o e n C a) (I.base.free b o e n a)
 ·obtain⟨sl,y⟩:=I.base.slot b o e n C a
  obtain⟨M,K⟩:=A b _ (J b o e) C (t b o e a) y (I.base.free b o e n a)
  exact⟨M,K⟩
 ·obtain⟨o',y⟩:=I.base.there b o e a
  exact f b o' (t b o e a) y (I.base.free b o e n a)
 ·obtain⟨o',y⟩:=I.base.there b o e a
  exact B b o' (t b o e a) y
 ·obtain⟨Q,y⟩:=I.base.tbls b ps e
  obtain⟨R,K⟩:=G b _ y
  exact⟨Q++R,by rw[K,Array.append_assoc]⟩
 ·obtain⟨m,S,T⟩:=I.loc
  refine⟨m,ns m S,λi x v y K U=>?_⟩
  obtain⟨u,r,l⟩:=T i x v y K U
  refine⟨u,r,?_⟩
  rcases l with l | ⟨k,c,e,z⟩
  ·exact .inl l
  ·exact .inr ⟨k,c,e,h x c e _ z⟩
 ·obtain⟨v,z⟩:=I.cell x c e
  exact⟨v,h x c e v z⟩
 ·obtain⟨m,⟨o,_,_,D,_⟩,_⟩:=I.loc
  exact f _ o (λz=>(g _ z).2.1 rfl) D I.free
 ·obtain⟨v,o,D,hd⟩:=I.cell x c e
  exact f c o (λz=>(g c z).2.2.1 x c e rfl) D (I.freeC x c e)
 ·obtain⟨e,n,ne,O,d⟩:=I.pin p N
  have j:p.1∉ch:=λz=>(g p.1 z).2.2.2 p N rfl
  exact⟨keep p.1 p.2 ne O j e n,f p.1 p.2 j e n,ne,O,d⟩
def Inv.un {t':Nat}(I:Inv X pins σ H s)(u:Un X.fs [] H H' s.heap h')(c:HOk X.prog X.w H' h'):Inv X pins σ H' { s with heap:=h',toks:=t' }:=by
 obtain⟨m,⟨o,l,p,h,r⟩,_⟩:=id I.loc
 obtain⟨q,i⟩:=u.any h I.free (by simp)
 exact I.step (g':=s.gens) (d':=s.drawn) (ch:=[]) (λ_ z=>nomatch z) (λb o _ d _ e n=>u.keep b o e n d (by simp)) (λb o _ d _ e n=>u.slot b o e n d (by simp)) (λb o _ e n=>u.free b o e n (by simp)) (λb o _ e=>u.there b o e (by simp)) u.tups u.frzs u.tbls (λt j=>by
  obtain⟨v,f,g,a,k⟩:=j
  rw[h]at a;cases a
  exact⟨_,f,g,i,k⟩) c I.bare
theorem Inv.call {g':Array GenState}{t':Nat}{d':Drawn}{ch:List Addr}(I:Inv X pins σ H s)(u:Un (frs X.stack) ch H H' s.heap h')(g:HOk X.prog X.w H' h')(l:AllBare g')
  (d:∀b∈ch,(b∈X.ex\/X.s₀.heap.objs.size<=b)/\b≠X.env.locals/\(∀x c,X.env.cells.lookup x=some c->c≠b)/\∀p∈X.pn++pins,p.1≠b) :
  Inv X pins σ H' { s with heap:=h',gens:=g',drawn:=d',toks:=t' }:=by
 obtain⟨m,⟨o,y,A,k,r⟩,_⟩:=id I.loc
 obtain⟨B,h⟩:=u.any k I.free λz=>(d _ z).2.1 rfl
 exact I.step (ch:=ch) d (λb o h q a e n=>u.keep b o e n (λz=>(YL.mp (I.stkSub b z)).elim h q) a) (λb o _ _ a e n=>u.any e n a) (λb o a e n=>u.free b o e n a) (λb o a e=>u.there b o e a) u.tups u.frzs u.tbls (λC t=>by
  obtain⟨D,i,j,f,v⟩:=t
  rw[k]at f;cases f
  exact⟨_,i,j,h,v⟩) g l
theorem Inv.turned {t':Nat}{it:Addr}(I:Inv X pins σ H s)(k:∀b o,b≠it->s.heap.get? b=some o->h'.get? b=some o)(g:H it=none)(f:it≠X.env.locals)
  (h:it∈X.ex\/X.s₀.heap.objs.size<=it) (i:∀x c,X.env.cells.lookup x=some c->c≠it) (j:∀p∈X.pn++pins,p.1≠it):Inv X pins σ H { s with heap:=h',toks:=t' }:=by
 have d:∀b u,H b=some u->b≠it:=λb u e z=>by rw[z,g]at e;cases e
 refine I.step (g':=s.gens) (d':=s.drawn) (ch:=[it]) (λb l=>?_) (λb o _ _ a e _=>k b o (λz=>a (by simp[z])) e) (λb o _ _ a e _=>⟨o.slots,k b o (λz=>a (by simp[z])) e⟩) (λ_ _ _ _ n=>n)
  (λb o a e=>⟨o,k b o (λz=>a (by simp[z])) e⟩) (λ_ _ e=>e) (λ_ _ _ e=>e) (λb B e=>⟨#[],by rw[e];simp⟩) (λm t=>?_) (λb u e=>?_) I.bare
 ·have e:b=it:=by simpa using l
  subst e
  exact⟨h,f,i,j⟩
 ·obtain⟨o,w,y,A,r⟩:=t
  exact⟨o,w,y,k _ o (Va f) A,r⟩
 ·refine(I.hok b u e).stay (λc v a q=>k c v ?_ q) (λ_ q=>q) λ_ _ q=>q
  rcases a with z | z
  ·rw[z];exact d b u e
  ·exact d c _ z
def Inv.tok (I:Inv X pins σ H s)(t:Nat):Inv X pins σ H { s with toks:=t }:=I.un (h':=s.heap) (t':=t) Un.refl I.hok
def Inv.kept {t':Nat}(I:Inv X pins σ H s)(k:∀b u,s.heap.get? b=some u->h'.get? b=some u):Inv X pins σ H { s with heap:=h',toks:=t' }:=I.un (Un.kept k) (I.hok.kept k)
theorem Inv.laid {t':Nat}(I:Inv X pins σ H s)(k:∀b u,s.heap.get? b=some u->h'.get? b=some u)(c:s.heap.objs.size<=a)(d:fC X.prog X.w (upd H a o) h' a o):
  Inv X pins σ (upd H a o) { s with heap:=h',toks:=t' }:=I.un (Un.laid k c (I.hok.fresh c)) (I.hok.laid k c d)
theorem Inv.write {x e:Addr}{o:HO}{t':Nat}(I:Inv X pins σ H s)(d:Mut (H x))(f:e=x\/H e=some (.own x))(k:∀b u,b≠e->s.heap.get? b=some u->h'.get? b=some u)(a:∃u,h'.get? e=some u)
  (c:fC X.prog X.w (upd H x o) h' x o):Inv X pins σ (upd H x o) { s with heap:=h',toks:=t' }:=I.un (Un.write d f k a) (I.hok.write d f k a c)
def Inv.weak {σ':List (Option V)}(I:Inv X pins σ H s)(a:σ'.length=σ.length)(w:∀(i:Nat) v,σ'[i]? =some (some v)->σ[i]? =some (some v)):Inv X pins σ' H s:=
 ⟨I.ok,I.os,I.bare,I.base,let ⟨m,hn,hl'⟩:=I.loc;⟨m,hn,λi x v b c d=>hl' i x v b (w i v c) d⟩,I.cell,I.free,I.freeC,I.pin,I.hok,a.trans I.len⟩
def Inv.pins_of {a:List (Addr×Obj)}(I:Inv X pins σ H s)(h:∀p∈a,s.heap.get? p.1=some p.2/\H p.1=none/\p.1≠X.env.locals/\p.1∉X.fs/\∀v,p.2.data≠ .cell v):Inv X a σ H s:=
 ⟨I.ok,I.os,I.bare,I.base,I.loc,I.cell,I.free,I.freeC,λp b=>(YO.mp b).elim (λz=>I.pin p (Xr _ z)) (h p),I.hok,I.len⟩
def zQ {N:List Str}(c:N.Nodup)(a:N[i]? =some x)(b:N[j]? =some x):i=j:=by
 obtain⟨f,d⟩:=Ye.mp a
 obtain⟨g,e⟩:=Ye.mp b
 exact(List.getElem_inj c).mp (d.trans e.symm)
theorem pM {M:Model}{A:Around}{E:Value->Shared->Prop}{i:Nat}{x:Str}{v:V}{u:Value}{Q:Unit->Shared->Prop}(I:Inv X pins σ H s)(hN:X.N.Nodup)(K:X.N[i]? =some x)(t:Loc X.env.scope x)(r:RelV v u)
  (h:∀s',Inv X pins (σ.set i (some v)) H s'->(∃a,Heap.SameBut a s.heap s'.heap/\(a=X.env.locals\/X.env.cells.lookup x=some a))->Q () s') (hf:X.fn x=true\/X.env.scope.names.lookup x=some .local:=by first | exact .inl rfl | exact .inr rfl | assumption):wpAny M A (storeName X.env x u) Q E s:=by
 obtain⟨m,U,hl⟩:=id I.loc
 have L:(X.env.scope.kind == .class || (X.env.scope.kind == .module && X.env.locals != X.env.globals))=false:=by rw[I.ok.kind];rfl
 have D:i<σ.length:=by rw[I.len];exact(Ye.mp K).1
 have cne:=I.cne
 have g:∀{a:Addr}{J:Heap},(∃o,s.heap.get? a=some o/\H a=none)->Heap.SameBut a s.heap J->HOk X.prog X.w H J:=λ{a J} ha f b ob e=>by
  obtain⟨_,_,B⟩:=ha
  refine(I.hok b ob e).stay (λc S hc q=>(f.2 c ?_).trans q) (λ_ q=>q) λ_ _ q=>q
  rintro rfl
  rcases hc with rfl | hc
  ·rw[B]at e;cases e
  ·rw[B]at hc;cases hc
 rcases t with hk | hk
 ·refine wpAny_storeName_local hk U (λJ W f=>?_) L
  obtain⟨oL,_,_,Y,_⟩:=id U
  refine h _ ⟨I.ok,I.os,I.bare,⟨λb o e n F t=>?_,λb o e n F t=>?_,I.base.free,λb o e t=>?_,I.base.tups,I.base.frzs,I.base.tbls⟩,⟨_,W,λj y Z l C e3=>?_⟩,λy c e=>?_,I.free,I.freeC,λp hp=>?_,g ⟨oL,Y,I.free⟩ f,by simpa using I.len⟩ ⟨_,f,.inl rfl⟩
  ·exact(f.2 b (YI (Yh (Yt e) I.ok.above))).trans (I.base.keep b o e n F t)
  ·obtain⟨sl,l⟩:=I.base.slot b o e n F t
   exact⟨sl,(f.2 b (YI (Yh (Yt e) I.ok.above))).trans l⟩
  ·obtain⟨o',l⟩:=I.base.there b o e t
   exact⟨o',(f.2 b (YI (Yh (Yt e) I.ok.above))).trans l⟩
  ·by_cases hj:j=i
   ·subst hj
    rw[K]at l;cases l
    rw[List.getElem?_set_self D]at C
    cases C
    exact⟨u,r,.inl ⟨hk,by simp⟩⟩
   ·rw [Xd (Va hj)]at C
    obtain⟨u',r',q⟩:=hl j y Z l C e3
    refine⟨u',r',?_⟩
    rcases q with ⟨k,e⟩ | ⟨k,c,e,z⟩
    ·refine .inl ⟨k,?_⟩
     have:y≠x:=λe=>hj (zQ hN l (e▸K))
     simp[this,e]
    ·exact .inr ⟨k,c,e,z.sameBut f (cne y c e)⟩
  ·obtain⟨S,z⟩:=I.cell y c e
   exact⟨S,z.sameBut f (cne y c e)⟩
  ·obtain⟨e,n,ne,nf,d⟩:=I.pin p hp
   exact⟨(f.2 p.1 ne).trans e,n,ne,nf,d⟩
 ·have G:X.fn x=true:=by
   rcases hf with z | z
   ·exact z
   ·rw[z]at hk;cases hk
  obtain⟨c,hc⟩:=I.ok.has x (.inl hk)
  obtain⟨S,z⟩:=I.cell x c hc
  refine wpAny_storeName_cell I.ok.kind hk hc z (λJ O f=>?_)
  obtain⟨oc,P,R⟩:=id z
  refine h { s with heap:=J } ⟨I.ok,I.os,I.bare,⟨λb o e n F t=>?_,λb o e n F t=>?_,I.base.free,λb o e t=>?_,I.base.tups,I.base.frzs,I.base.tbls⟩,⟨m,U.sameBut f (Va (cne x c hc)),λj y Z l C e3=>?_⟩,λy T e=>?_,I.free,I.freeC,λp hp=>?_,g ⟨oc,P,I.freeC x c hc⟩ f,by simpa using I.len⟩ ⟨c,f,.inr hc⟩
  ·exact(f.2 b (YI (Yh (Yt e) (I.ok.cab x c G hc)))).trans (I.base.keep b o e n F t)
  ·obtain⟨sl,l⟩:=I.base.slot b o e n F t
   exact⟨sl,(f.2 b (YI (Yh (Yt e) (I.ok.cab x c G hc)))).trans l⟩
  ·obtain⟨o',l⟩:=I.base.there b o e t
   exact⟨o',(f.2 b (YI (Yh (Yt e) (I.ok.cab x c G hc)))).trans l⟩
  ·by_cases hj:j=i
   ·subst hj
    rw[K]at l;cases l
    rw[List.getElem?_set_self D]at C
    cases C
    exact⟨u,r,.inr ⟨.inl hk,c,hc,O⟩⟩
   ·rw [Xd (Va hj)]at C
    obtain⟨u',r',q⟩:=hl j y Z l C e3
    refine⟨u',r',?_⟩
    rcases q with q | ⟨k,T,e,z'⟩
    ·exact .inl q
    ·refine .inr ⟨k,T,e,z'.sameBut f ?_⟩
     rintro rfl
     exact hj (zQ hN l (I.ok.inj _ _ _ e hc▸K))
  ·by_cases hcc:T=c
   ·subst hcc;exact⟨_,O⟩
   ·obtain⟨w2,z2⟩:=I.cell y T e
    exact⟨w2,z2.sameBut f hcc⟩
  ·obtain⟨e,n,ne,nf,d⟩:=I.pin p hp
   refine⟨(f.2 p.1 ?_).trans e,n,ne,nf,d⟩
   intro q
   rw[q,P]at e
   have q':oc=p.2:=Yp e
   exact d S (by rw[<-q'];exact R)
theorem mF {M:Model}{A:Around}{E:Value->Shared->Prop}{i:Nat}{x:Str}{v:V}{u:Value}{Q:Unit->Shared->Prop}(I:Inv X pins σ H s)(a:X.N.Nodup)(b:X.N[i]? =some x)(c:Loc X.env.scope x)(r:RelV v u)
  (h:∀s',Inv X pins (σ.set i (some v)) H s'->Q () s') (d:X.fn x=true\/X.env.scope.names.lookup x=some .local:=by first | exact .inl rfl | exact .inr rfl | assumption):wpAny M A (storeName X.env x u) Q E s:=
 pM I a b c r (λs' e _=>h s' e) d
theorem Inv.call' {a:Shared}{ch:List Addr}(I:Inv X pins σ H s)(g:a.os=s.os)(u:Un (frs X.stack) ch H H' s.heap a.heap)(d:HOk X.prog X.w H' a.heap)(h:AllBare a.gens)
  (f:∀b∈ch,(b∈X.ex\/X.s₀.heap.objs.size<=b)/\b≠X.env.locals/\(∀x c,X.env.cells.lookup x=some c->c≠b)/\∀p∈X.pn++pins,p.1≠b):Inv X pins σ H' a:=by
 obtain⟨j,g',d',t',i⟩:=a
 have e:i=s.os:=g
 subst e
 exact I.call (g':=g') (t':=t') (d':=d') u d h f
end
abbrev XK:=Value->Option Addr->Hp->Prop
abbrev St:=List (Option V)
variable {σ:St}
abbrev VK:=V->Hp->Prop
abbrev TE:=St->Hp->VK->Prop
variable {te:TE}{ta:TE}{tb:TE}
abbrev TT:=St->Hp->(Bool->Hp->Prop)->Prop
abbrev TA:=St->Hp->(List V->Hp->Prop)->Prop
variable {t:TA}
structure Ends where
 nx:St->Hp->Prop
 rt:VK
 bk:St->Hp->Prop:=λ_ _=>False
 ct:St->Hp->Prop:=λ_ _=>False
abbrev TS:=Ends->St->Hp->Prop
def EP (X:Cx)(a:List (Addr×Obj))(σ:St)(Q:VK)(u:Value)(b:Shared):Prop:=∃v H',Inv X a σ H' b/\RelV v u/\Q v H'
def TP (X:Cx)(a:List (Addr×Obj))(σ:St)(Q:Bool->Hp->Prop)(b:Bool)(c:Shared):Prop:=∃H',Inv X a σ H' c/\Q b H'
def AP (X:Cx)(a:List (Addr×Obj))(σ:St)(Q:List V->Hp->Prop)(us:List Value)(b:Shared):Prop:=∃vs H',Inv X a σ H' b/\Vals vs us/\Q vs H'
def SP (X:Cx)(pins:List (Addr×Obj))(D:Ends)(f:Flow)(s':Shared):Prop:=
 match f with
 |.next=>∃σ' H',Inv X pins σ' H' s'/\D.nx σ' H'
 |.brk=>∃σ' H',Inv X pins σ' H' s'/\D.bk σ' H'
 |.cont=>∃σ' H',Inv X pins σ' H' s'/\D.ct σ' H'
 |.ret u=>∃v σ' H',Inv X pins σ' H' s'/\RelV v u/\D.rt v H'
def PE (X:Cx)(e:Expr)(t:TE):Prop:=
 ∀(pins:List (Addr×Obj))(s:Shared)(σ:St)(H:Hp)(Q:VK),Inv X pins σ H s->t σ H Q->wpAny (model X.prog X.w) X.A (eval e X.env) (EP X pins σ Q) X.xe s
def PT (X:Cx)(e:Expr)(t:TT):Prop:=
 ∀(pins:List (Addr×Obj))(s:Shared)(σ:St)(H:Hp)(Q:Bool->Hp->Prop),Inv X pins σ H s->t σ H Q->wpAny (model X.prog X.w) X.A (isTrue e X.env (eval e X.env)) (TP X pins σ Q) X.xe s
def PW (X:Cx)(e:Expr)(t:TT):Prop:=
 ∀(whole:Sem Value)(pins:List (Addr×Obj))(s:Shared)(σ:St)(H:Hp)(Q:Bool->Hp->Prop),Inv X pins σ H s->t σ H Q->wpAny (model X.prog X.w) X.A (isTrue e X.env whole) (TP X pins σ Q) X.xe s
def PW.pt {t:TT}(h:PW X e t):PT X e t:=h _
def PA (X:Cx)(a:List Expr)(t:TA):Prop:=
 ∀(pos:Pos)(pins:List (Addr×Obj))(s:Shared)(σ:St)(H:Hp)(Q:List V->Hp->Prop),Inv X pins σ H s->t σ H Q->wpAny (model X.prog X.w) X.A (spliced (backTo pos (starEach a X.env))) (AP X pins σ Q) X.xe s
def PS (X:Cx)(st:Stmt)(t:TS):Prop:=
 ∀(pins:List (Addr×Obj))(s:Shared)(σ:St)(H:Hp)(D:Ends),Inv X pins σ H s->t D σ H->wpAny (model X.prog X.w) X.A (exec st X.env) (SP X pins D) X.xe s
def PSs (X:Cx)(st:List Stmt)(t:TS):Prop:=
 ∀(pins:List (Addr×Obj))(s:Shared)(σ:St)(H:Hp)(D:Ends),Inv X pins σ H s->t D σ H->wpAny (model X.prog X.w) X.A (execs st X.env) (SP X pins D) X.xe s
def thn {b:Type}{t:Sem b}{Q c:b->Shared->Prop}{M:Model}(h:wpAny M A t Q E s)(d:∀a s,Q a s->c a s):wpAny M A t c E s:=Y6 h d λ_ _ x=>x
section
theorem bin {a b:Expr}{e g:TE}(j:PE X a e)(k:PE X b g){c:List (Addr×Obj)}{s:Shared}{σ:St}{H:Hp}{R:V->V->Hp->Prop}(I:Inv X c σ H s)(h:e σ H λx H1=>g σ H1 λy H2=>R x y H2)
  {i:Type} {Q:i->Shared->Prop} {f:Value->Value->Sem i}
  (l:∀v u s2 x y H2,Inv X c σ H2 s2->RelV x v->RelV y u->R x y H2->wpAny (model X.prog X.w) X.A (f v u) Q X.xe s2) :
  wpAny (model X.prog X.w) X.A (eval a X.env) (λv s₁=>wpAny (model X.prog X.w) X.A (eval b X.env) (λu s₂=>wpAny (model X.prog X.w) X.A (f v u) Q X.xe s₂) X.xe s₁) X.xe s:=by
 refine thn (j c s σ H _ I h) λv m d=>?_
 obtain⟨x,H1,n,o,p⟩:=d
 refine thn (k c m σ H1 _ n p) λu s2 d=>?_
 obtain⟨y,H2,q,r,t⟩:=d
 exact l v u s2 x y H2 q o r t
def b7F (i:Nat):TE:=λa H Q=>∃v,a[i]? =some (some v)/\Q v H
def tC (v:V):TE:=λ_ H Q=>Q v H
def a2E (g:X.N[i]? =some x)(j:Vis X.env.scope x)(hd:(x == ("__debug__":Str))=false:=by decide)(d:(x == ("__classdict__":Str))=false:=by decide):PE X (.Name x pos) (b7F i):=by
 intro b s k H Q I h
 obtain⟨v,e,h⟩:=h
 obtain⟨m,n,o⟩:=I.loc
 obtain⟨u,r,l⟩:=o i x v g e j
 have fin:EP X b k Q u s:=⟨v,H,I,r,h⟩
 rcases l with ⟨hk,p⟩ | ⟨hk,c,f,a⟩
 ·exact wpAny_Name (wpAny_loadName_local I.ok.kind hk n p fin) hd
 ·rcases hk with hk | hk
  ·exact wpAny_Name (wpAny_loadName_cell I.ok.kind hk f a fin) hd
  ·exact wpAny_Name (wpAny_loadName_free I.ok.kind hk f a fin d) hd
def aG {i j pos}:PE X (.Constant (.int i) j pos) (tC (.int i)):=λ_ _ _ H _ I h=>wpAny_Constant_int ⟨.int i,H,I.tok _,⟨_,rfl⟩,h⟩
def jV {b j pos}:PE X (.Constant (.bool b) j pos) (tC (.bl b)):=λ_ _ _ H _ I h=>Constant_bool ⟨.bl b,H,I,rfl,h⟩
def wQ {j pos}:PE X (.Constant .none j pos) (tC .non):=λ_ _ _ H _ I h=>Constant_none ⟨.non,H,I,rfl,h⟩
def bR {x j pos}:PE X (.Constant (.str x) j pos) (tC (.str x)):=λ_ _ _ H _ I h=>Calls.Constant_str ⟨.str x,H,I.tok _,⟨_,rfl⟩,h⟩
def Gl (X:Cx)(x:Str):Prop:=X.env.kindOf x=some .globalImplicit
theorem nA {E:Value->Shared->Prop}{a:List (Addr×Obj)}{s:Shared}{σ:St}{H:Hp}{x:Str}{u:Value}{pos:Pos}{Q:Value->Shared->Prop}(I:Inv X a σ H s)(b:Gl X x)(c:X.mg x=some u)(h:Q u s)
  (hd:(x == ("__debug__":Str))=false:=by decide):wpAny (model X.prog X.w) X.A (eval (.Name x pos) X.env) Q E s:=
 Calls.Name_function_global I.ok.kind b (Calls.loadGlobal_global (by rw[I.ok.glob];exact I.mod.glob.keeps I.bk) c h) hd
theorem pU {E:Value->Shared->Prop}{a:List (Addr×Obj)}{s:Shared}{σ:St}{H:Hp}{x:Str}{u:Value}{pos:Pos}{Q:Value->Shared->Prop}(I:Inv X a σ H s)(b:Gl X x)(c:X.mg x=none)(d:bootBuiltins x=some u)(h:Q u s)
  (e:x≠"__name__":=by decide) (hd:(x == ("__debug__":Str))=false:=by decide):wpAny (model X.prog X.w) X.A (eval (.Name x pos) X.env) Q E s:=by
 obtain⟨i,f,g⟩:=I.mod.blt
 exact Calls.Name_function_global I.ok.kind b (Calls.loadGlobal_builtin (by rw[I.ok.glob];exact I.mod.glob.keeps I.bk) c (by rw[I.ok.blt];exact f.keeps I.bk) ((g x e).trans d) h) hd
def bD {v:V}(a:Gl X x)(b:X.mg x=some u)(r:RelV v u)(hd:(x == ("__debug__":Str))=false:=by decide):PE X (.Name x pos) (tC v):=
 λ_ _ _ H _ I h=>nA I a b ⟨v,H,I,r,h⟩ hd
def qR {v:V}(a:Gl X x)(b:X.mg x=none)(c:bootBuiltins x=some u)(r:RelV v u)(d:x≠"__name__":=by decide)(hd:(x == ("__debug__":Str))=false:=by decide):PE X (.Name x pos) (tC v):=
 λ_ _ _ H _ I h=>pU I a b c ⟨v,H,I,r,h⟩ d hd
variable {a b:Expr}
def PC (X:Cx)(op:CmpOp)(a b:Expr)(t:TE):Prop:=
 ∀ (pins:List (Addr×Obj))(s:Shared)(σ:St)(H:Hp)(Q:VK),Inv X pins σ H s->t σ H Q->
  wpAny (model X.prog X.w) X.A (eval a X.env) (λv c=>wpAny (model X.prog X.w) X.A (eval b X.env) (λu d=>wpAny (model X.prog X.w) X.A (compareOp op v u) (EP X pins σ Q) X.xe d) X.xe c) X.xe s
def tB (t:TE):TT:=λa H Q=>t a H λx b=>∃c,x= .bl c/\Q c b
def b8F {t:TE}(h:PC X op a b t)(f:behindInMarks op b=false:=by first | exact nobehind _ (by decide) (by decide) | rfl):PT X (.Compare a [op] [b] pos) (tB t):=by
 intro e s i H Q I j
 refine wpAny_isTrue_Compare1 (thn (h e s i H _ I j) λv p f=>thn f λu r k=>thn k λc w g=>?_) f
 obtain⟨x,l,m,n,o⟩:=g
 obtain⟨d,rfl,q⟩:=o
 cases n
 exact Xm ⟨l,m,q⟩
def b8E {t:TE}(h:PE X e t)(c:∀whole,isTrue e X.env whole=(do let v<-whole;standAt e.pos;holding [v] (truthy v)):=by intro _;rfl):PT X e (tB t):=by
 intro a s f H Q I g
 refine isTrue_plain (thn (h a s f H _ I g) λv m b=>?_) (c _)
 obtain⟨x,i,j,k,l⟩:=b
 obtain⟨d,rfl,q⟩:=l
 cases k
 exact Xm ⟨i,j,q⟩
variable {tA tB':TT}{rest:List Expr}
def c3X (t u:TT):TT:=λa H Q=>t a H λc b=>if c=true then u a b Q else Q false b
def tOr (t u:TT):TT:=λa H Q=>t a H λc b=>if c=true then Q true b else u a b Q
def c3P (t:TT):TT:=λa H Q=>t a H λc b=>Q (!c) b
def lQ (ha:PT X a tA):PW X (.BoolOp .And [a] pos) tA:=by
 intro f b s d H Q I h
 refine isTrue_and (thn (ha b s d H Q I h) λc g e=>?_)
 cases c with
 |true=>exact isTrue_and_nil e
 |false=>exact e
def wM (ha:PT X a tA):PW X (.BoolOp .Or [a] pos) tA:=by
 intro f b s d H Q I h
 refine isTrue_or (thn (ha b s d H Q I h) λc g e=>?_)
 cases c with
 |false=>exact isTrue_or_nil e
 |true=>exact e
def mK (ha:PT X a tA)(hb:PW X (.BoolOp .And (b::rest) pos) tB'):PW X (.BoolOp .And (a::b::rest) pos) (c3X tA tB'):=by
 intro k d s f H Q I h
 refine isTrue_and (thn (ha d s f H _ I h) λc l e=>?_)
 obtain⟨g,i,j⟩:=e
 cases c with
 |true=>exact hb k d l f g Q i j
 |false=>exact⟨g,i,j⟩
def uU (ha:PT X a tA)(hb:PW X (.BoolOp .Or (b::rest) pos) tB'):PW X (.BoolOp .Or (a::b::rest) pos) (tOr tA tB'):=by
 intro k d s f H Q I h
 refine isTrue_or (thn (ha d s f H _ I h) λc l e=>?_)
 obtain⟨g,i,j⟩:=e
 cases c with
 |true=>exact⟨g,i,j⟩
 |false=>exact hb k d l f g Q i j
def gO (d:PT X a tA):PT X (.UnaryOp .Not a pos) (c3P tA):=by
 intro b s e H Q I h
 exact isTrue_not (d b s e H (λc f=>Q (!c) f) I h)
def a7T (d e:TE):TE:=λa H Q=>d a H λx b=>∃c,x= .bl c/\if c=true then e a b Q else Q (.bl false) b
def a7R (a:TE):TE:=λb H Q=>a b H λx d=>∃c,x= .bl c/\Q (.bl (!c)) d
def a9I {op}{t:TE}(h:PE X a t):PE X (.BoolOp op [a] pos) t:=λb s c H Q I d=>BoolOp_one (h b s c H Q I d)
def b8M (ha:PE X a ta)(hb:PE X (.BoolOp .And (b::rest) pos) tb):PE X (.BoolOp .And (a::b::rest) pos) (a7T ta tb):=by
 intro d s g H Q I h
 refine BoolOp_and (thn (ha d s g H _ I h) λv k f=>?_)
 obtain⟨x,i,j,l,e⟩:=f
 obtain⟨c,rfl,e⟩:=e
 cases l
 refine Xm ?_
 cases c with
 |true=>exact hb d k g i Q j e
 |false=>exact⟨.bl false,i,j,rfl,e⟩
def b8K (f:PE X a ta):PE X (.UnaryOp .Not a pos) (a7R ta):=by
 intro b s g H Q I h
 refine UnaryOp_ (thn (f b s g H _ I h) λv l d=>?_)
 obtain⟨x,i,j,k,e⟩:=d
 obtain⟨c,rfl,e⟩:=e
 cases k
 exact not_of (Xm ⟨.bl (!c),i,j,rfl,e⟩)
def tIf (t:TT)(d e:TE):TE:=λa H Q=>t a H λc b=>if c=true then d a b Q else e a b Q
def fJ (hc:PT X c tA)(ha:PE X a ta)(hb:PE X b tb):PE X (.IfExp c a b pos) (tIf tA ta tb):=by
 intro e s f H Q I h
 refine wpAny_IfExp (thn (hc e s f H _ I h) λd i g=>?_)
 obtain⟨j,k,l⟩:=g
 cases d with
 |true=>exact ha e i f j Q k l
 |false=>exact hb e i f j Q k l
end
def SqL (K:W.Frag)(H:Hp)(a:Addr)(xs:List V):Prop:=
 Rd H a (.lst xs)\/
  ∃(o:Obj)(its:Array Value)(n:Nat),K.lookup a=some o/\o.cls= .type "list"/\o.dict=none/\o.data= .seq its n/\its.size<=sizeLine/\Vals xs its.toList
def SqT (K:W.Frag)(H:Hp)(a:Addr)(xs:List V):Prop:=
 Rd H a (.tup xs)\/
  ∃(o:Obj)(its:Array Value)(n:Nat),K.lookup a=some o/\o.cls= .type "tuple"/\o.data= .seq its n/\its.size<=sizeLine/\Vals xs its.toList
def c5B:Value->Option V
 |.none=>some .non
 |.bool b=>some (.bl b)
 |.int i _=>some (.int i)
 |.str x _=>some (.str x)
 |.bytes b _=>some (.byt b)
 |.float b _=>some (.flt b)
 |.ref a=>some (.ref a)
 |.type n=>some (.ty n)
 |_=>none
def RelV.abs {x:V}(r:RelV x u):c5B u=some x:=by
 cases x with
 |non=>cases r;rfl
 |bl _=>cases r;rfl
 |int _=>obtain⟨t,rfl⟩:=r;rfl
 |str _=>obtain⟨t,rfl⟩:=r;rfl
 |byt _=>obtain⟨t,rfl⟩:=r;rfl
 |flt _=>obtain⟨t,rfl⟩:=r;rfl
 |ref _=>cases r;rfl
 |ty _=>cases r;rfl
def RelV.inj {x y:V}(r:RelV x u)(q:RelV y u):x=y:=Yp (r.abs.symm.trans q.abs)
theorem Vals.inj:∀{xs ys:List V}{us:List Value},Vals xs us->Vals ys us->xs=ys
 |_,_,_,.nil,.nil=>rfl
 |_,_,_,.cons r t,.cons r' t'=>by rw[r.inj r',Vals.inj t t']
section
variable {xs ys:List V}
def SqL.of (h:H a=some (.lst xs)):SqL K H a xs:= .inl (.inl h)
def Vb:=@SqL.of
def SqT.of (h:H a=some (.tup xs)):SqT K H a xs:= .inl (.inl h)
def Vc:=@SqT.of
def Inv.list (I:Inv X pins σ H s)(h:SqL X.K H a xs):∃its:List Value,Vals xs its/\PlainL s.heap a its.toArray/\xs.length<=sizeLine:=by
 rcases h with h | ⟨o,its,n,b,c,hd,d,f,r⟩
 ·obtain⟨z,its,n,r,e⟩:=h.ok I.hok
  exact⟨its,r,⟨_,n,e,rfl,rfl,rfl⟩,z⟩
 ·refine⟨its.toList,r,⟨o,n,I.kIn a o b,c,hd,by simpa using d⟩,?_⟩
  have e:=r.length
  simp only[Xl]at e
  lia
def Inv.tuple (I:Inv X pins σ H s)(h:SqT X.K H a xs):∃its:List Value,Vals xs its/\IsTup s.heap a its.toArray/\xs.length<=sizeLine:=by
 rcases h with h | ⟨o,its,n,b,c,d,f,r⟩
 ·obtain⟨z,its,r,p⟩:=h.ok I.hok
  exact⟨its,r,p,z⟩
 ·refine⟨its.toList,r,⟨o,I.kIn a o b,c,n,by simpa using d⟩,?_⟩
  have e:=r.length
  simp only[Xl]at e
  lia
def Inv.list_inj (I:Inv X pins σ H s)(h:SqL X.K H a xs)(h':SqL X.K H a ys):xs=ys:=by
 obtain⟨c,r,⟨o,n,e,_,_,d⟩,_⟩:=I.list h
 obtain⟨b,i,⟨j,k,f,_,_,g⟩,_⟩:=I.list h'
 rw[e]at f;cases f
 rw[d]at g
 injection g with d1 _
 have:c=b:=by simpa using YU Array.toList d1
 subst this
 exact r.inj i
def Inv.tuple_inj (I:Inv X pins σ H s)(h:SqT X.K H a xs)(h':SqT X.K H a ys):xs=ys:=by
 obtain⟨c,r,⟨o,e,_,n,d⟩,_⟩:=I.tuple h
 obtain⟨b,i,⟨j,f,_,k,g⟩,_⟩:=I.tuple h'
 rw[e]at f;cases f
 rw[d]at g
 injection g with d1 _
 have:c=b:=by simpa using YU Array.toList d1
 subst this
 exact r.inj i
end
abbrev Cx.wish (X:Cx)(E:Value->Shared->Prop):Cx:={ X with xe:=E }
abbrev Cx.nox (X:Cx):Cx:=X.wish λ_ _=>False
def Cx.Ok.wish (ok:X.Ok)(E:Value->Shared->Prop):(X.wish E).Ok:=
 ⟨ok.mod,ok.kind,ok.glob,ok.blt,ok.above,ok.inj,ok.has,ok.cab,ok.hd,ok.frames,ok.stk,ok.exf,ok.bs,ok.bsz,ok.noex,ok.exfs,ok.funs,ok.frf⟩
def Cx.Ok.unwish (ok:(X.wish E).Ok):X.Ok:=
 ⟨ok.mod,ok.kind,ok.glob,ok.blt,ok.above,ok.inj,ok.has,ok.cab,ok.hd,ok.frames,ok.stk,ok.exf,ok.bs,ok.bsz,ok.noex,ok.exfs,ok.funs,ok.frf⟩
def Inv.wish (I:Inv X pins σ H s)(E:Value->Shared->Prop):Inv (X.wish E) pins σ H s:=⟨I.ok.wish E,I.os,I.bare,I.base,I.loc,I.cell,I.free,I.freeC,I.pin,I.hok,I.len⟩
def Inv.unwish (I:Inv (X.wish E) pins σ H s):Inv X pins σ H s:=⟨I.ok.unwish,I.os,I.bare,I.base,I.loc,I.cell,I.free,I.freeC,I.pin,I.hok,I.len⟩
def SP.unwish {D:Ends}{f:Flow}{s':Shared}(h:SP (X.wish E) pins D f s'):SP X pins D f s':=by
 cases f with
 |next=>obtain⟨a,b,I,q⟩:=h;exact⟨a,b,I.unwish,q⟩
 |brk=>obtain⟨a,b,I,q⟩:=h;exact⟨a,b,I.unwish,q⟩
 |cont=>obtain⟨a,b,I,q⟩:=h;exact⟨a,b,I.unwish,q⟩
 |ret u=>obtain⟨v,a,b,I,r,q⟩:=h;exact⟨v,a,b,I.unwish,r,q⟩
def PSs.nox {st:List Stmt}{t:TS}(h:PSs X.nox st t):PSs X st t:=λa s b H D I c=>
 Y6 (h a s b H D (I.wish _) c) (λ_ _ q=>q.unwish) λ_ _ z=>False.elim z
section
variable {st:Stmt}{rest:List Stmt}{t u:TS}
def c1B:TS:=λD a H=>D.nx a H
def c3N (t u:TS):TS:=λD a H=>t { D with nx:=u D } a H
def aU:PSs X [] c1B:=λ_ _ a H _ I h=>wpAny_execs_nil ⟨a,H,I,h⟩
def aD (h1:PS X st t)(h2:PSs X rest u):PSs X (st::rest) (c3N t u):=by
 intro a s c H D I h
 refine Jw (thn (h1 a s c H { D with nx:=u D } I h) λf d q=>?_)
 cases f with
 | next=>
  obtain⟨b,e,g,q⟩:=q
  exact h2 a d b e D g q
 |ret v=>exact q
 |brk=>exact q
 |cont=>exact q
def aF (h1:PS X st t):PSs X [st] t:=by
 intro a s b H D I h
 refine Jw (thn (h1 a s b H D I h) λf c q=>?_)
 cases f with
 |next=>exact wpAny_execs_nil q
 |ret v=>exact q
 |brk=>exact q
 |cont=>exact q
def b7L:TS:=λD a H=>D.bk a H
def a9H:PS X (.Break pos) b7L:=λ_ _ a H _ I h=>wpAny_Break ⟨a,H,I,h⟩
def Inv.quiet (I:Inv X pins σ H s):interactive X.env=false:=by simp[interactive,I.ok.kind]
def c1C (b:TE):TS:=λD a H=>b a H λ_ c=>D.nx a c
def bC (c:PE X e te)(d:swapsWith e none pos.line X.env=pure false:=by rfl):PS X (.Expr e pos) (c1C te):=by
 intro a s b H D I h
 exact wpAny_Expr_any (thn (c a s b H _ I h) λv j ⟨x,f,g,k,i⟩=>⟨b,f,g,i⟩) I.quiet d
def c3O (a:TE):TS:=λD b H=>a b H D.rt
def aM (c:PE X e te):PS X (.Return (some e) pos) (c3O te):=by
 intro a s b H D I h
 exact wpAny_Return_some (thn (c a s b H _ I h) λv j ⟨x,d,f,g,i⟩=>⟨x,b,d,f,g,i⟩)
def c3R (c:TT)(t u:TS):TS:=λD a H=>c a H λb d=>if b=true then t D a d else u D a d
def bK {a b:List Stmt}{tc:TT}(hc:PT X c tc)(ha:PSs X a t)(hb:PSs X b u):PS X (.If c a b pos) (c3R tc t u):=by
 intro e s f H D I h
 refine wpAny_If (thn (hc e s f H _ I h) λd i g=>?_)
 obtain⟨j,k,l⟩:=g
 cases d with
 |true=>exact ha e i f j D k l
 |false=>exact hb e i f j D k l
end
abbrev TG:=V->St->Hp->(St->Hp->Prop)->Prop
abbrev TGs:=List V->St->Hp->(St->Hp->Prop)->Prop
def PG (X:Cx)(a:Expr)(t:TG):Prop:=
 ∀ (pins:List (Addr×Obj))(s:Shared)(σ:St)(H:Hp)(v:V)(u:Value)(Q:St->Hp->Prop),Inv X pins σ H s->RelV v u->t v σ H Q->
  wpAny (model X.prog X.w) X.A (assign a X.env u) (λ_ b=>∃σ' H',Inv X pins σ' H' b/\Q σ' H') X.xe s
def PGs (X:Cx)(ts:List Expr)(t:TGs):Prop:=
 ∀ (pins:List (Addr×Obj))(s:Shared)(σ:St)(H:Hp)(vs:List V)(us:List Value)(Q:St->Hp->Prop),Inv X pins σ H s->Vals vs us->t vs σ H Q->
  wpAny (model X.prog X.w) X.A (assignInOrder ((assignEach ts X.env).map (·.2)) us) (λ_ a=>∃σ' H',Inv X pins σ' H' a/\Q σ' H') X.xe s
abbrev c0N:=V->V->V->Hp->(Hp->Prop)->Prop
def c0Q (X:Cx)(t:c0N):Prop:=
 ∀ (pins:List (Addr×Obj))(s:Shared)(σ:St)(H:Hp)(o i v:V)(ov iv u:Value)(Q:Hp->Prop),Inv X pins σ H s->RelV o ov->RelV i iv->RelV v u->t o i v H Q->
  wpAny (model X.prog X.w) X.A (setItem ov iv u) (λ_ a=>∃H',Inv X pins σ H' a/\Q H') X.xe s
def vK (i:Nat):TG:=λv a H Q=>Q (a.set i (some v)) H
def eN (b:X.N.Nodup)(c:X.N[i]? =some x)(d:Loc X.env.scope x)(e:X.fn x=true\/X.env.scope.names.lookup x=some .local:=by first | exact .inl rfl | exact .inr rfl | assumption):PG X (.Name x pos) (vK i):=by
 intro a s g H v u Q I r h
 exact Jp (mF I b c d r (λj f=>⟨_,H,f,h⟩) e)
def c2Q:TGs:=λa b H Q=>a= []/\Q b H
def b0Z (t:TG)(u:TGs):TGs:=λb c H Q=>∃v r,b=v::r/\t v c H λa d=>u r a d Q
def b4B:PGs X [] c2Q:=by
 intro a s b H c d Q I r h
 obtain⟨e,h⟩:=h
 subst e
 cases r
 exact assignInOrder_nil ⟨b,H,I,h⟩
theorem zL {e:Expr}{es:List Expr}{t:TG}{u:TGs}(h1:PG X e t)(h2:PGs X es u)
  (hs:(assignEach (e::es) X.env).map (·.2)=assign e X.env::(assignEach es X.env).map (·.2):=by rfl):PGs X (e::es) (b0Z t u):=by
 intro a s d H l m Q I r h
 obtain⟨v,n,f,h⟩:=h
 subst f
 cases r with
 | cons r rr=>
  rw[hs]
  refine assignInOrder_cons (thn (h1 a s d H _ _ _ I r h) λ_ g b=>?_)
  obtain⟨c,i,j,k⟩:=b
  exact h2 a g c i _ _ Q j rr k
def c2P (K:W.Frag)(n:Nat)(t:TGs):TG:=λv b H Q=>∃a xs,v= .ref a/\SqT K H a xs/\xs.length=n/\t xs b H Q
theorem b8I {d:List Expr}{k:Nat}{t:TGs}{n:Nat}(l:X.calm=true)(h:PGs X d t)
  (m:(assignEach d X.env).length=n:=by rfl) (f:(assignEach d X.env).findIdx? (·.1)=none:=by rfl):PG X (.Tuple d k pos) (c2P X.K n t):=by
 intro c s i H v u Q I r g
 obtain⟨a,xs,p,q,w,g⟩:=g
 subst p
 cases r
 obtain⟨x,j,y,C⟩:=I.tuple q
 refine assign_Tuple_tuple (I.ok.hd l) y (by simp[m,<-w,j.length]) f λz A=>?_
 have B:Inv X c i H { s with heap:=z }:=I.kept (t':=s.toks) λb o e=>A b o (YI (Yt e)) e
 exact h c _ i H xs _ Q B (by simpa using j) g
def c4R (to b:TE)(t:c0N):TG:=λv a H Q=>to a H λo c=>b a c λi d=>t o i v d λe=>Q a e
theorem b8J {o i:Expr}{to d:TE}{t:c0N}(e:PE X o to)(f:PE X i d)(g:c0Q X t)
  (j:∀v,assign (.Subscript o i pos) X.env v=(do
   let ov<-holding [v] (eval o X.env)
   let iv<-holding [v,ov] (eval i X.env)
   standAt pos
   holding [v,ov,iv] (setItem ov iv v)
   release [v,ov,iv] []):=by intro _;rfl):PG X (.Subscript o i pos) (c4R to d t):=by
 intro a s c H v u Q I r h
 rw[j]
 refine YX (wpAny_holding (thn (e a s c H _ I h) λov k b=>?_))
 obtain⟨x,l,m,n,p⟩:=b
 refine YX (wpAny_holding (thn (f a k c l _ m p) λiv q b=>?_))
 obtain⟨y,w,z,A,B⟩:=b
 refine YX (wpAny_standAt (YX (wpAny_holding (thn (g a q c w x y v ov iv u _ z n A r B) λ_ F b=>?_))))
 obtain⟨C,D,E⟩:=b
 exact wpAny_release ⟨c,C,D,E⟩
def b2Q (b:TE)(g:TG):TS:=λD a H=>b a H λx c=>g x a c D.nx
theorem b8G {tg e:Expr}{c:TE}{g:TG}(f:PE X e c)(i:PG X tg g)(j:swapsWithSole [tg] e pos.line X.env=pure false:=by rfl)(k:swappedStores [tg] e X.env=pure none:=by rfl)
  (l:(assignEach [tg] X.env).map (·.2)= [assign tg X.env]:=by rfl):PS X (.Assign [tg] e pos) (b2Q c g):=by
 intro a s d H D I h
 refine wpAny_Assign_stores (thn (f a s d H _ I h) λv m b=>?_) j k
 obtain⟨x,n,o,p,r⟩:=b
 rw[l]
 exact thn (i a m d n x v _ o p r) λ_ t q=>q
def bA {a:Pos}(d:X.N.Nodup)(f:X.N[i]? =some x)(g:Loc X.env.scope x)(j:PE X e te)(k:swapsWith e (some (.Name x a)) pos.line X.env=pure false:=by rfl)(l:X.fn x=true\/X.env.scope.names.lookup x=some .local:=by first | exact .inl rfl | exact .inr rfl | assumption):
  PS X (.Assign [.Name x a] e pos) (b2Q te (vK i)):=by
 intro b s m H D I h
 refine wpAny_Assign_Name (thn (j b s m H _ I h) λv t c=>?_) k
 obtain⟨y,n,o,p,q⟩:=c
 exact mF o d f g p (λu r=>⟨_,n,r,q⟩) l
def b7E (c:TT)(e:TS):TS:=λD a H=>∃W:Nat->St->Hp->Prop,(∃m,W m a H)/\∀m a H,W m a H->
 c a H λb d=>if b=true then ∃N:St->Hp->Prop,(∀σ' H',N σ' H'->∃m',m'<m/\W m' σ' H')/\e { D with nx:=N,ct:=N,bk:=D.nx } a d else D.nx a d
def zJ {body:List Stmt}{tc:TT}{tb:TS}(hp:PassesOwn (model X.prog X.w) X.A X.env X.xe)(hc:PT X c tc)(hb:PSs X body tb):PS X (.While c body [] pos) (b7E tc tb):=by
 intro a s y H D I h
 obtain⟨W,⟨z,B⟩,turn⟩:=h
 refine wpAny_While (codeAny_whileLoop (λn C=>∃σ' H',Inv X a σ' H' C/\W n σ' H') ?_ z ⟨y,H,I,B⟩)
 rintro n E ⟨e,r,F,G⟩
 refine XW hp (thn (hc a E e r _ F (turn n e r G)) λb J k=>?_)
 obtain⟨t,u,i⟩:=k
 cases b with
 | true=>
  obtain⟨N,x,i⟩:=i
  rw[if_pos rfl]
  refine XW hp (thn (hb a J e t _ u i) λf K j=>?_)
  cases f with
  | next=>
   obtain⟨d,g,l,m⟩:=j
   obtain⟨o,p,q⟩:=x d g m
   exact⟨o,p,d,g,l,q⟩
  | cont=>
   obtain⟨d,g,l,m⟩:=j
   obtain⟨o,p,q⟩:=x d g m
   exact⟨o,p,d,g,l,q⟩
  |brk=>exact j
  |ret v=>exact j
 | false=>
  rw[if_neg Yr]
  exact wpAny_execs_nil ⟨e,t,u,i⟩
structure It where
 go:Nat->Hp->Prop
 yld:Nat->Hp->V->Hp->Prop
 stop:Nat->Hp->Prop
def nH (X:Cx)(a:List (Addr×Obj))(H:Hp)(b:Addr):Prop:=
 H b=none/\b≠X.env.locals/\b∉X.fs/\(b∈X.ex\/X.s₀.heap.objs.size<=b)/\(∀x c,X.env.cells.lookup x=some c->c≠b)/\∀p∈X.pn++a,p.1≠b
def Inv.fpOk (I:Inv X pins σ H s)(a:s.heap.objs.size<=b)(d:H' b=none):nH X pins H' b:=by
 refine⟨d,Jx (Yh I.lt a),I.nofs a,.inr (YS I.sz a),λx c e z=>?_,λp f z=>?_⟩
 ·obtain⟨v,q⟩:=I.cell x c e
  exact absurd (Yh q.lt (by rw[z];exact a)) (YT _)
 ·exact absurd (Yh (Yt (I.pin p f).1) (by rw[z];exact a)) (YT _)
structure Turn (P:Program)(w:World)(K:W.Frag)(tg:Expr)(J:It)(fp:List Addr)(it:Addr)(tn:Nat->Heap->Prop):Prop where
 mem:it∈fp
 obj:∀i h,tn i h->∀b∈fp,∃o,h.get? b=some o/\∀v,o.data≠ .cell v
 keep:∀i h h',tn i h->(∀b∈fp,∀o,h.get? b=some o->h'.get? b=some o)->tn i h'
 item :∀(X:Cx),X.prog=P->X.w=w->X.K=K->X.calm=true->∀(i:Nat)(pins:List (Addr×Obj))(s:Shared)(σ:St)(H:Hp)(E:Value->Shared->Prop),Inv X pins σ H s->(∀b∈fp,nH X pins H b)->tn i s.heap->J.go i H->
  wpAny (model P w) X.A (pyNext (.ref it)) (λr s1=>∃u,r=some u/\
   wpAny (model P w) X.A (letOwnedTupleGo tg (.ref it) u) (λ_ s2=>∃x H',Inv X pins σ H' s2/\RelV x u/\J.yld i H x H'/\tn (i+1) s2.heap/\∀b∈fp,H' b=none) E s1) E s
 done:∀(X:Cx),X.prog=P->X.w=w->X.K=K->X.calm=true->∀(i:Nat)(pins:List (Addr×Obj))(s:Shared)(σ:St)(H:Hp)(E:Value->Shared->Prop),Inv X pins σ H s->(∀b∈fp,nH X pins H b)->tn i s.heap->J.stop i H->
  wpAny (model P w) X.A (pyNext (.ref it)) (λr s1=>r=none/\Inv X pins σ H s1) E s
 self:∀(A:Around)(i:Nat)(s:Shared)(Q:Value->Shared->Prop)(E:Value->Shared->Prop),tn i s.heap->Q (.ref it) s->wpAny (model P w) A (pyIter (.ref it)) Q E s
abbrev TI:=St->Hp->(It->Hp->Prop)->Prop
def PIE (X:Cx)(a:List (Addr×Obj))(σ:St)(tg:Expr)(R:It->Hp->Prop)(c:Value)(d:Shared):Prop:=
 ∃(it:Addr)(fp:List Addr)(tn:Nat->Heap->Prop)(J:It)(H':Hp),c= .ref it/\Inv X a σ H' d/\Turn X.prog X.w X.K tg J fp it tn/\tn 0 d.heap/\(∀b∈fp,nH X a H' b)/\R J H'
def PI (X:Cx)(tg a:Expr)(b:TI):Prop:=
 ∀ (pins:List (Addr×Obj))(s:Shared)(σ:St)(H:Hp)(R:It->Hp->Prop),Inv X pins σ H s->b σ H R->
  wpAny (model X.prog X.w) X.A (eval a X.env) (λv c=>wpAny (model X.prog X.w) X.A (pyIter v) (PIE X pins σ tg R) X.xe c) X.xe s
theorem a4O {M:Model}{A:Around}{E:Value->Shared->Prop}{s:Shared}{tg:Expr}{it:Addr}{u:Value}{o:Obj}{n:String}{vs:Array Value}{Q:Unit->Shared->Prop}(ho:s.heap.get? it=some o)(hc:o.cls= .type n)(hd:o.data= .fields vs)
    (hn:["enumerate","zip","dict_itemiterator","dict_reverseitemiterator","odict_iterator","itertools.zip_longest","itertools.pairwise"].contains n=false) (hQ:Q () s):wpAny M A (letOwnedTupleGo tg (.ref it) u) Q E s:=by
  unfold letOwnedTupleGo
  cases tg <;> first
    |exact Xc hQ
    | (cases u <;> first
        |exact Xc hQ
        | (refine YX (wpAny_load ho ?_)
           rw[hc,hd]
           show wpAny M A (if (["enumerate","zip","dict_itemiterator","dict_reverseitemiterator","odict_iterator","itertools.zip_longest","itertools.pairwise"].contains n && vs[0]? == some (rawInt _))=true then _ else _) Q E s
           rw[if_neg (by intro h;rw[hn,Bool.false_and]at h;cases h)]
           exact Xc hQ))
def Itl (K:W.Frag)(a:Addr):It:=
 ⟨λi H=>∃xs x,SqL K H a xs/\xs[i]? =some x,λi H x b=>b=H/\∀xs,SqL K H a xs->xs[i]? =some x,λi H=>∃xs,SqL K H a xs/\xs.length<=i⟩
def Itt (K:W.Frag)(a:Addr):It:=
 ⟨λi H=>∃xs x,SqT K H a xs/\xs[i]? =some x,λi H x b=>b=H/\∀xs,SqT K H a xs->xs[i]? =some x,λi H=>∃xs,SqT K H a xs/\xs.length<=i⟩
def Itr (lo:Int)(n:Nat):It:=⟨λi _=>i<n,λi H x a=>a=H/\x= .int (lo+i),λi _=>n<=i⟩
def uK (a it:Addr):Turn P w K tg (Itl K a) [it] it (λi h=>h.IsListIter it a i) where
 mem:=by simp
 obj:=λi h st b hb=>by
  have e:b=it:=by simpa using hb
  subst e
  obtain⟨o,e,c,d⟩:=st
  exact⟨o,e,λv z=>by rw[d]at z;cases z⟩
 keep:=λi h h' st k=>st.at λo e=>k it (by simp) o e
 item:=by
  intro X hP hw hK hc i pins s σ H E I hf st hg
  subst hP hw hK
  obtain⟨xs,x,hq,hx⟩:=hg
  obtain⟨its,rv,p,hz⟩:=I.list hq
  obtain⟨u,hu,ru⟩:=rv.get hx
  obtain⟨f0,f1,f2,f3,f4,f5⟩:=hf it (by simp)
  refine wpAny_pyNext_list_item st p.isList (x:=u) (by simpa using hu) λh' st' sb=>?_
  have I1:Inv X pins σ H { s with heap:=h' }:=I.turned (t':=s.toks) (λb o hb e=>(sb.2 b hb).trans e) f0 f1 f3 f4 f5
  obtain⟨o,e,c,d⟩:=id st'
  exact⟨u,rfl,a4O (s:={ s with heap:=h' }) e c d (by decide) ⟨x,H,I1,ru,⟨rfl,λys hy=>by rw[I.list_inj hy hq];exact hx⟩,st',λb hb=>(hf b hb).1⟩⟩
 done:=by
  intro X hP hw hK hc i pins s σ H E I hf st hg
  subst hP hw hK
  obtain⟨xs,hq,hx⟩:=hg
  obtain⟨its,rv,p,hz⟩:=I.list hq
  obtain⟨f0,f1,f2,f3,f4,f5⟩:=hf it (by simp)
  have hl:=rv.length
  exact wpAny_pyNext_list_end (I.ok.hd hc) st p.isList (by simp;lia) λh' eb=>⟨rfl,I.turned (t':=s.toks) (λb o hb e=>eb b o hb e) f0 f1 f3 f4 f5⟩
 self:=λ_ _ _ _ _ st h=>wpAny_pyIter_listiter st h
def a1N (a it:Addr):Turn P w K tg (Itt K a) [it] it (λi h=>h.IsTupleIter it a i) where
 mem:=by simp
 obj:=λi h st b hb=>by
  have e:b=it:=by simpa using hb
  subst e
  obtain⟨o,e,c,d⟩:=st
  exact⟨o,e,λv z=>by rw[d]at z;cases z⟩
 keep:=λi h h' st k=>st.at λo e=>k it (by simp) o e
 item:=by
  intro X hP hw hK hc i pins s σ H E I hf st hg
  subst hP hw hK
  obtain⟨xs,x,hq,hx⟩:=hg
  obtain⟨its,rv,p,hz⟩:=I.tuple hq
  obtain⟨u,hu,ru⟩:=rv.get hx
  obtain⟨f0,f1,f2,f3,f4,f5⟩:=hf it (by simp)
  refine wpAny_pyNext_tuple_item st (show s.heap.IsTuple a its.toArray from p) (x:=u) (by simpa using hu) λh' st' sb=>?_
  have I1:Inv X pins σ H { s with heap:=h' }:=I.turned (t':=s.toks) (λb o hb e=>(sb.2 b hb).trans e) f0 f1 f3 f4 f5
  obtain⟨o,e,c,d⟩:=id st'
  exact⟨u,rfl,a4O (s:={ s with heap:=h' }) e c d (by decide) ⟨x,H,I1,ru,⟨rfl,λys hy=>by rw[I.tuple_inj hy hq];exact hx⟩,st',λb hb=>(hf b hb).1⟩⟩
 done:=by
  intro X hP hw hK hc i pins s σ H E I hf st hg
  subst hP hw hK
  obtain⟨xs,hq,hx⟩:=hg
  obtain⟨its,rv,p,hz⟩:=I.tuple hq
  obtain⟨f0,f1,f2,f3,f4,f5⟩:=hf it (by simp)
  have hl:=rv.length
  exact wpAny_pyNext_tuple_end (I.ok.hd hc) st (show s.heap.IsTuple a its.toArray from p) (by simp;lia) λh' eb=>⟨rfl,I.turned (t':=s.toks) (λb o hb e=>eb b o hb e) f0 f1 f3 f4 f5⟩
 self:=λ_ _ _ _ _ st h=>wpAny_pyIter_tupleiter st h
def a1O (it:Addr)(lo:Int)(n:Nat):Turn P w K tg (Itr lo n) [it] it (λi h=>IsRangeIter h it (lo+(i:Nat)*1) ((n:Int)-(i:Nat)) 1) where
 mem:=by simp
 obj :=λi h st b hb=>by
  have e:b=it:=by simpa using hb
  subst e
  exact⟨_,st,λv z=>by
   have z':Data.fields _=Data.cell v:=z
   cases z'⟩
 keep:=λi h h' st k=>k it (by simp) _ st
 item:=by
  intro X hP hw hK hc i pins s σ H E I hf st hg
  subst hP hw hK
  obtain⟨f0,f1,f2,f3,f4,f5⟩:=hf it (by simp)
  have W:=Walks.range (prog:=X.prog) (w:=X.w) (I.ok.hd hc) it lo 1 n
  refine W.item i s _ _ hg st λv h' tk hv st' kk=>?_
  obtain⟨t,rfl⟩:=hv
  have I1:Inv X pins σ H { s with heap:=h',toks:=tk }:=I.turned (λb o hb e=>kk b o (by simpa using hb) e) f0 f1 f3 f4 f5
  refine⟨_,rfl,a4O (s:={ s with heap:=h',toks:=tk }) (n:="range_iterator") st' rfl rfl (by decide) ⟨.int (lo+i),H,I1,⟨t,?_⟩,⟨rfl,rfl⟩,st',λb hb=>(hf b hb).1⟩⟩
  rw[Int.mul_one]
 done:=by
  intro X hP hw hK hc i pins s σ H E I hf st hg
  subst hP hw hK
  obtain⟨f0,f1,f2,f3,f4,f5⟩:=hf it (by simp)
  exact wpAny_pyNext_range_end (I.ok.hd hc) st (by have:n<=i:=hg;lia) λh' eb=>⟨rfl,I.turned (t':=s.toks) (λb o hb e=>eb b o hb e) f0 f1 f3 f4 f5⟩
 self:=λ_ _ _ _ _ st h=>wpAny_pyIter_rangeiter st h
def c2O (K:W.Frag)(c:TE):TI:=λd H R=>c d H λx b=>∃a,x= .ref a/\(∃xs,SqL K b a xs)/\R (Itl K a) b
def b4A {l:Expr}{i:TE}(j:PE X l i):PI X tg l (c2O X.K i):=by
 intro c s k H R I h
 refine thn (j c s k H _ I h) λv d g=>?_
 obtain⟨x,m,f,n,r⟩:=g
 obtain⟨a,e,⟨xs,t⟩,q⟩:=r
 subst e
 cases n
 obtain⟨u,y,p,z⟩:=f.list t
 refine wpAny_pyIter_list p.isList ?_
 refine⟨d.heap.objs.size, [d.heap.objs.size],_,_,m,rfl,f.kept (t':=d.toks) λb o e=>Yk _ e,uK a _,⟨_,YG _ rfl,rfl,rfl⟩,λb w=>?_,q⟩
 have e:b=d.heap.objs.size:=by simpa using w
 subst e
 exact f.fpOk (Yd _) (f.hok.fresh (Yd _))
theorem a9D {c:List (Addr×Obj)}{σ:St}{H:Hp}{s:Shared}{R:It->Hp->Prop}{E:Value->Shared->Prop}{lo a:Int}{t u v:Tok}{tk:Nat}(I:Inv X c σ H s)(f: -(2 ^ 62)<=lo)(g:lo<2 ^ 62)(h: -(2 ^ 62)<=a)(i:a<2 ^ 62)
  (q:R (Itr lo (a-lo).toNat) H):wpAny (model X.prog X.w) X.A (pyIter (.ref s.heap.objs.size)) (PIE X c σ tg R) E { s with heap:=s.heap.push { cls:= .type "range",data:= .fields #[.int lo t,.int a u,.int 1 v] },toks:=tk }:=by
 refine wpAny_pyIter_range (IsRange.new ..) (small_one f g h i) ?_
 have d:Inv X c σ H { s with heap:=s.heap.push { cls:= .type "range",data:= .fields #[.int lo t,.int a u,.int 1 v] },toks:=tk }:=I.kept λb o e=>Yk _ e
 refine⟨(s.heap.push { cls:= .type "range",data:= .fields #[.int lo t,.int a u,.int 1 v] }).objs.size, [(s.heap.push { cls:= .type "range",data:= .fields #[.int lo t,.int a u,.int 1 v] }).objs.size],_,_,H,rfl,
  d.kept (t':=tk) λb o e=>Yk _ e,a1O _ lo (a-lo).toNat,?_,λb j=>?_,q⟩
 ·have k:lo+((0:Nat):Int)*1=lo:=by simp
  have l:(((a-lo).toNat:Nat):Int)-((0:Nat):Int)=Builtin.Range.rangeSize lo a 1:=by rw[rangeSize_one];split <;> lia
  show IsRangeIter _ _ (lo+((0:Nat):Int)*1) ((((a-lo).toNat:Nat):Int)-((0:Nat):Int)) 1
  rw[k,l]
  exact YG _ rfl
 ·have e:b=(s.heap.push { cls:= .type "range",data:= .fields #[.int lo t,.int a u,.int 1 v] }).objs.size:=by simpa using j
  subst e
  exact d.fpOk (Yd _) (d.hok.fresh (Yd _))
def c2N (a:TA):TI:=λb H R=>a b H λc d=>∃j:Int,c= [.int j]/\ -(2 ^ 62)<=j/\j<2 ^ 62/\R (Itr 0 j.toNat) d
def a6A {a:Expr}{ta:TA}(hg:Gl X "range")(hm:X.mg "range"=none)(ha:PA X [a] ta)(hs:starEach [a] X.env= [(false,eval a X.env)]:=by rfl):PI X tg (.Call (.Name "range" p) [a] [] pos) (c2N ta):=by
 intro b s f H R I h
 refine Call_ (pU I hg hm boot_range (XV (thn (ha pos b s f H _ I h) λl m c=>?_) hs rfl))
 obtain⟨n,o,g,i,d⟩:=c
 obtain⟨j,e,d,k,q⟩:=d
 subst e
 cases i with
 | cons r rr=>
  cases rr
  obtain⟨t,rfl⟩:=r
  exact call_range_1 (a9D g (by lia) (by lia) d k (by simpa using q))
def c3S (c:TI)(g:TG)(d:TS):TS:=λD a H=>c a H λJ e=>∃W:Nat->Nat->St->Hp->Prop,(∃m,W 0 m a e)/\∀i m a H,W i m a H->
 (J.stop i H/\D.nx a H)\/(J.go i H/\∃N:St->Hp->Prop,(∀σ' H',N σ' H'->∃m',m'<m/\W (i+1) m' σ' H')/\∀x H',J.yld i H x H'->g x a H' λb f=>d { D with nx:=N,ct:=N,bk:=D.nx } b f)
def pO (a:List Addr)(h:Heap):List (Addr×Obj):=a.filterMap λb=>(h.get? b).map λo=>(b,o)
def iK {o:Obj}(a:b∈fp)(e:h.get? b=some o):(b,o)∈pO fp h:=List.mem_filterMap.mpr ⟨b,a,by rw[e];rfl⟩
def a6B {p:Addr×Obj}(hp:p∈pO fp h):p.1∈fp/\h.get? p.1=some p.2:=by
 obtain⟨b,a,e⟩:=List.mem_filterMap.mp hp
 cases q:h.get? b with
 |none=>rw[q]at e;cases e
 | some o=>
  rw[q]at e
  have c:(b,o)=p:=Yp e
  subst c
  exact⟨a,q⟩
def Inv.pinned (I:Inv X pins σ H s)(f:∀b∈fp,nH X pins H b)(g:∀b∈fp,∃o,s.heap.get? b=some o/\∀v,o.data≠ .cell v):Inv X (pins++pO fp s.heap) σ H s:=
 I.pins_of λp h=>(YO.mp h).elim (λz=>I.pin p (YM _ z)) λz=>by
  obtain⟨a,e⟩:=a6B z
  obtain⟨i,j,k,_⟩:=f p.1 a
  obtain⟨o,c,d⟩:=g p.1 a
  rw[e]at c;cases c
  exact⟨e,i,j,k,d⟩
def Inv.unpinned {pl:List (Addr×Obj)}(I:Inv X (pins++pl) σ H s):Inv X pins σ H s:=I.pins_of λp a=>I.pin p (YM _ (Xr _ a))
theorem gF {iter:Expr}{body:List Stmt}{wi:TI}{g:TG}{tb:TS}{pos:Pos}(hp:PassesOwn (model X.prog X.w) X.A X.env X.xe)(hc:X.calm=true)(hi:PI X tg iter wi)(hg:PG X tg g)(hb:PSs X body tb)
  (hs:∀x,foldedSetIterable iter X.env x=pure x:=by intro _;rfl):PS X (.For tg iter body [] pos) (c3S wi g tb):=by
 intro a s S H D I h
 refine wpAny_For (thn (hi a s S H _ I h) λv s1 h1=>thn h1 λa0 s2 h2=>?_) hs
 obtain⟨it,B,U,J,H2,e,I2,T,L,V,W,⟨m0,w0⟩,turn⟩:=h2
 subst e
 have j:∀{H':Hp},(∀b∈B,H' b=none)->∀b∈B,nH X a H' b:=λhn b hb=>⟨hn b hb,(V b hb).2⟩
 refine codeAny_forLoop_any (λn Y=>∃i σ' H',Inv X a σ' H' Y/\U i Y.heap/\(∀b∈B,H' b=none)/\W i n σ' H') ?_ m0 ⟨0,S,H2,I2,L,λb hb=>(V b hb).1,w0⟩
 rintro n Z ⟨i,k,K,I3,C,E,w3⟩
 rcases turn i n k K w3 with ⟨F,qn⟩ | ⟨go,N,hN,step⟩
 ·refine XW hp (thn (T.done X rfl rfl rfl hc i a Z k K X.xe I3 (j E) C F) λr s4 ⟨M,I4⟩=>?_)
  subst M
  exact wpAny_execs_nil ⟨k,K,I4,qn⟩
 ·refine XW hp (thn (T.item X rfl rfl rfl hc i a Z k K X.xe I3 (j E) C go) λr s4 l=>?_)
  obtain⟨u,M,h4⟩:=l
  subst M
  refine XW hp (thn h4 λ_ s5 l=>?_)
  obtain⟨x,H5,I5,r5,y5,z,O⟩:=l
  have P:=I5.pinned (j O) (T.obj _ _ z)
  refine XW hp (thn (hg _ s5 k H5 x u _ P r5 (step x H5 y5)) λ_ s6 l=>?_)
  obtain⟨Q,H6,I6,q6⟩:=l
  refine XW hp (thn (hb _ s6 Q H6 _ I6 q6) λf R y=>?_)
  have p:∀{c:St}{q:Hp},Inv X (a++pO B s5.heap) c q R->N c q->∃m,m<n/\∃i σ' H',Inv X a σ' H' R/\U i R.heap/\(∀b∈B,H' b=none)/\W i m σ' H':=λ{c q} t G=>by
   obtain⟨m',hm,w7⟩:=hN c q G
   refine⟨m',hm,i+1,c,q,t.unpinned,T.keep _ _ _ z λb hb o e=>(t.pin (b,o) (YM _ (YM _ (iK hb e)))).1,λb hb=>?_,w7⟩
   obtain⟨o,e,d⟩:=T.obj _ _ z b hb
   exact(t.pin (b,o) (YM _ (YM _ (iK hb e)))).2.1
  cases f with
  |next=>obtain⟨c,q,t,G⟩:=y;exact p t G
  |cont=>obtain⟨c,q,t,G⟩:=y;exact p t G
  |brk=>obtain⟨c,q,t,y⟩:=y;exact⟨c,q,t.unpinned,y⟩
  |ret v=>obtain⟨x7,c,q,t,r7,y⟩:=y;exact⟨x7,c,q,t.unpinned,r7,y⟩
theorem jD {K:W.Frag}{a:Addr}{xs:List V}{g:TG}{c:TS}{D:Ends}{σ:St}{H:Hp}(b:Nat->St->Hp->Prop)(d:b 0 σ H)(f:∀i σ H,i<=xs.length->b i σ H->SqL K H a xs)
  (h:∀i x σ H,xs[i]? =some x->b i σ H->g x σ H λσ2 H2=>c { D with nx:=b (i+1),ct:=b (i+1),bk:=D.nx } σ2 H2) (hd:∀σ H,b xs.length σ H->D.nx σ H) :
  ∃ W:Nat->Nat->St->Hp->Prop,(∃m,W 0 m σ H)/\∀i m σ H,W i m σ H->
   ((Itl K a).stop i H/\D.nx σ H)\/((Itl K a).go i H/\∃N:St->Hp->Prop,(∀σ' H',N σ' H'->∃m',m'<m/\W (i+1) m' σ' H')/\∀x H',(Itl K a).yld i H x H'->g x σ H' λσ2 H2=>c { D with nx:=N,ct:=N,bk:=D.nx } σ2 H2):=by
 refine⟨λi m σ H=>m=xs.length-i/\i<=xs.length/\b i σ H,⟨xs.length,by simp,YV _,d⟩,?_⟩
 rintro i m σ H ⟨rfl,j,p⟩
 have q:=f i σ H j p
 by_cases hlt:i<xs.length
 ·refine .inr ⟨⟨xs,xs[i],q,by simp[hlt]⟩,b (i+1),λσ' H' k=>⟨xs.length-(i+1),by lia,rfl,hlt,k⟩,λx H' y=>?_⟩
  obtain⟨e,y⟩:=y
  subst e
  exact h i x σ _ (y xs q) p
 ·have e:i=xs.length:=by lia
  subst e
  exact .inl ⟨⟨xs,q,Yd _⟩,hd σ H p⟩
theorem lJ {lo:Int}{n:Nat}{g:TG}{b:TS}{D:Ends}{σ:St}{H:Hp}(a:Nat->St->Hp->Prop)(c:a 0 σ H)
  (d:∀i σ H,i<n->a i σ H->g (.int (lo+i)) σ H λσ2 H2=>b { D with nx:=a (i+1),ct:=a (i+1),bk:=D.nx } σ2 H2) (hd:∀σ H,a n σ H->D.nx σ H) :
  ∃ W:Nat->Nat->St->Hp->Prop,(∃m,W 0 m σ H)/\∀i m σ H,W i m σ H->
   ((Itr lo n).stop i H/\D.nx σ H)\/((Itr lo n).go i H/\∃N:St->Hp->Prop,(∀σ' H',N σ' H'->∃m',m'<m/\W (i+1) m' σ' H')/\∀x H',(Itr lo n).yld i H x H'->g x σ H' λσ2 H2=>b { D with nx:=N,ct:=N,bk:=D.nx } σ2 H2):=by
 refine⟨λi m σ H=>m=n-i/\i<=n/\a i σ H,⟨n,by simp,YV _,c⟩,?_⟩
 rintro i m σ H ⟨rfl,h,p⟩
 by_cases hlt:i<n
 ·refine .inr ⟨hlt,a (i+1),λσ' H' f=>⟨n-(i+1),by lia,rfl,hlt,f⟩,λx H' y=>?_⟩
  obtain⟨e,y⟩:=y
  subst e y
  exact d i σ _ hlt p
 ·have e:i=n:=by lia
  subst e
  exact .inl ⟨Yd _,hd σ H p⟩
abbrev R2:=V->V->Hp->VK->Prop
variable {r:R2}
def OpR (X:Cx)(f:Value->Value->Sem Value)(r:R2):Prop:=
 ∀ (pins:List (Addr×Obj))(s:Shared)(σ:St)(H:Hp)(x y:V)(v u:Value)(Q:VK),Inv X pins σ H s->RelV x v->RelV y u->r x y H Q->
  wpAny (model X.prog X.w) X.A (f v u) (EP X pins σ Q) X.xe s
def UnR (X:Cx)(f:Value->Sem Value)(r:V->Hp->VK->Prop):Prop:=
 ∀ (pins:List (Addr×Obj))(s:Shared)(σ:St)(H:Hp)(x:V)(v:Value)(Q:VK),Inv X pins σ H s->RelV x v->r x H Q->
  wpAny (model X.prog X.w) X.A (f v) (EP X pins σ Q) X.xe s
def fY (X:Cx)(f:Value)(r:List V->Hp->VK->Prop):Prop:=
 ∀ (pins:List (Addr×Obj))(s:Shared)(σ:St)(H:Hp)(xs:List V)(us:List Value)(Q:VK),Inv X pins σ H s->Vals xs us->r xs H Q->
  wpAny (model X.prog X.w) X.A (call f us) (EP X pins σ Q) X.xe s
def tOp (r:R2)(b c:TE):TE:=λa H Q=>b a H λx d=>c a d λy e=>r x y e Q
def tUn (r:V->Hp->VK->Prop)(a:TE):TE:=λb H Q=>a b H λx c=>r x c Q
def rI (C:Int->Int->Prop)(g:Int->Int->V):R2:=λx y H Q=>∃i j,x= .int i/\y= .int j/\C i j/\Q (g i j) H
def rI0 (g:Int->Int->V):R2:=λx y H Q=>∃i j,x= .int i/\y= .int j/\Q (g i j) H
def rU (g:Int->V):V->Hp->VK->Prop:=λx H Q=>∃i,x= .int i/\Q (g i) H
section
variable {a b:Expr}{tc:TE}
theorem c0L (e:PE X a ta)(g:PE X b tb){c:List (Addr×Obj)}{s:Shared}{σ:St}{H:Hp}{R:V->V->Hp->Prop}(I:Inv X c σ H s)
  (h:ta σ H λx H1=>tb σ H1 λy H2=>R x y H2) {Q:Value->Shared->Prop} {f:Value->Value->Sem Value}
  (i:∀v u s2 x y H2,Inv X c σ H2 s2->RelV x v->RelV y u->R x y H2->wpAny (model X.prog X.w) X.A (f v u) Q X.xe s2) :
  wpAny (model X.prog X.w) X.A (eval a X.env) (λv s₁=>wpAny (model X.prog X.w) X.A (eval b X.env) (λu s₂=>wpAny (model X.prog X.w) X.A (f v u) Q X.xe s₂) X.xe s₁) X.xe s:=by
 refine thn (e c s σ H _ I h) λv j d=>?_
 obtain⟨x,H1,k,l,m⟩:=d
 refine thn (g c j σ H1 _ k m) λu s2 d=>?_
 obtain⟨y,H2,n,o,p⟩:=d
 exact i v u s2 x y H2 n l o p
def aR {op:Operator}(d:OpR X (binaryOp op) r)(e:PE X a ta)(f:PE X b tb):PE X (.BinOp a op b pos) (tOp r ta tb):=by
 intro c s g H Q I h
 exact wpAny_BinOp (c0L e f I h λv u i x y j k l m q=>d c i g j x y v u Q k l m q)
def a3W {op:UnaryOp}{r:V->Hp->VK->Prop}(d:UnR X (unaryOp op) r)(e:PE X a ta):PE X (.UnaryOp op a pos) (tUn r ta):=by
 intro b s c H Q I h
 exact UnaryOp_ (thn (e b s c H _ I h) λv f ⟨x,g,i,j,k⟩=>d b f c g x v Q i j k)
theorem opI {f:Value->Value->Sem Value}{C:Int->Int->Prop}{g:Int->Int->Int}
  (a:∀(i j:Int)(t u:Tok)(s:Shared)(Q:Value->Shared->Prop)(E:Value->Shared->Prop),C i j->Q (.int (g i j) s.toks) { s with toks:=s.toks+1 }->wpAny (model X.prog X.w) X.A (f (.int i t) (.int j u)) Q E s) :
  OpR X f (rI C λi j=> .int (g i j)):=by
 intro b s l H x y v u Q I c d h
 obtain⟨i,j,rfl,rfl,e,q⟩:=h
 obtain⟨t,rfl⟩:=c
 obtain⟨k,rfl⟩:=d
 exact a i j t k s _ _ e ⟨.int (g i j),H,I.tok _,⟨_,rfl⟩,q⟩
theorem b4I {f:Value->Value->Sem Value}{g:Int->Int->Int}
  (a:∀(i j:Int)(t u:Tok)(s:Shared)(Q:Value->Shared->Prop)(E:Value->Shared->Prop),Q (.int (g i j) s.toks) { s with toks:=s.toks+1 }->wpAny (model X.prog X.w) X.A (f (.int i t) (.int j u)) Q E s) :
  OpR X f (rI0 λi j=> .int (g i j)):=by
 intro b s k H x y v u Q I c d h
 obtain⟨i,j,rfl,rfl,q⟩:=h
 obtain⟨t,rfl⟩:=c
 obtain⟨e,rfl⟩:=d
 exact a i j t e s _ _ ⟨.int (g i j),H,I.tok _,⟨_,rfl⟩,q⟩
theorem b4J {f:Value->Value->Sem Value}{g:Int->Int->Bool}
  (a:∀(i j:Int)(t u:Tok)(s:Shared)(Q:Value->Shared->Prop)(E:Value->Shared->Prop),Q (.bool (g i j)) s->wpAny (model X.prog X.w) X.A (f (.int i t) (.int j u)) Q E s) :
  OpR X f (rI0 λi j=> .bl (g i j)):=by
 intro b s k H x y v u Q I c d h
 obtain⟨i,j,rfl,rfl,q⟩:=h
 obtain⟨t,rfl⟩:=c
 obtain⟨e,rfl⟩:=d
 exact a i j t e s _ _ ⟨.bl (g i j),H,I,rfl,q⟩
def c3J (i j:Int):Prop:=0<j/\j<1073741824
def a1L (k:Nat):(0:Int)<=2 ^ k:=by
 rw[two_pow_cast]
 exact Int.natCast_nonneg _
def b8Z:OpR X (binaryOp .Add) (rI0 λi j=> .int (i+j)):=b4I λ_ _ _ _ _ _ _ q=>add_int q
def b8S:OpR X (binaryOp .Sub) (rI0 λi j=> .int (i-j)):=b4I λ_ _ _ _ _ _ _ q=>sub_int q
def b4H:OpR X (binaryOp .FloorDiv) (rI c3J λi j=> .int (i / j)):=opI λi j _ _ _ _ _ a q=>by
 have b:(0:Int)<j:=a.1
 have c:j<1073741824:=a.2
 exact floordiv_int (by lia) (by rw[Int.fdiv_eq_ediv_of_nonneg i (by lia)];exact q) (.inl (PyProof.noPylong_small (by lia)))
def b8V:OpR X (binaryOp .Mod) (rI (λ_ j=>0<j) λi j=> .int (i % j)):=opI λi j _ _ _ _ _ a q=>by
 have b:(0:Int)<j:=a
 exact mod_int' (by lia) (by rw[Int.fmod_eq_emod_of_nonneg i (by lia)];exact q)
def b8T:OpR X (binaryOp .RShift) (rI (λ_ j=>0<=j) λi j=> .int (i / 2 ^ j.toNat)):=opI λi j _ _ _ _ _ a q=>
 rshift_int a (by rw[Int.fdiv_eq_ediv_of_nonneg i (a1L _)];exact q)
def b8Y:OpR X (binaryOp .BitAnd) (rI0 λi j=> .int (Builtin.bitAnd i j)):=b4I λ_ _ _ _ _ _ _ q=>and_int q
def b8R:OpR X (binaryOp .BitXor) (rI0 λi j=> .int (Builtin.bitXor i j)):=b4I λ_ _ _ _ _ _ _ q=>xor_int q
theorem unI {f:Value->Sem Value}{g:Int->Int}
  (a:∀(i:Int)(t:Tok)(s:Shared)(Q:Value->Shared->Prop)(E:Value->Shared->Prop),Q (.int (g i) s.toks) { s with toks:=s.toks+1 }->wpAny (model X.prog X.w) X.A (f (.int i t)) Q E s) :
  UnR X f (rU λi=> .int (g i)):=by
 intro b s d H x v Q I c h
 obtain⟨i,rfl,q⟩:=h
 obtain⟨t,rfl⟩:=c
 exact a i t s _ _ ⟨.int (g i),H,I.tok _,⟨_,rfl⟩,q⟩
def b7C:UnR X (unaryOp .USub) (rU λi=> .int (-i)):=unI λ_ _ _ _ _ q=>neg_int q
end
def b7W:V->V->Bool
 |.non,.non=>true | .non,.int _=>true | .int _,.non=>true | .non,.bl _=>true | .bl _,.non=>true | .non,.str _=>true | .str _,.non=>true
 |.int _,.int _=>true | .bl _,.bl _=>true | .str _,.str _=>true | .byt _,.byt _=>true
 |.int _,.str _=>true | .str _,.int _=>true | .bl _,.str _=>true | .str _,.bl _=>true
 |_,_=>false
def rEq:R2:=λx y H Q=>b7W x y=true/\Q (.bl (decide (x=y))) H
def rNe:R2:=λx y H Q=>b7W x y=true/\Q (.bl (!decide (x=y))) H
def a4U {i j:Int}:decide (V.int i=V.int j)=(i == j):=by
 rw[X8]
 simp
def b1L {i j:Bool}:decide (V.bl i=V.bl j)=(i == j):=by
 rw[X8]
 simp
def a4T {i j:Str}:decide (V.str i=V.str j)=(i == j):=by
 rw[X8]
 simp
def a4V {i j:Array UInt8}:decide (V.byt i=V.byt j)=(i.toList == j.toList):=by
 rw[X8]
 cases i
 cases j
 simp
section
variable {a b:Expr}{tc:TE}
def cJ {Q:VK}{k a:Bool}(I:Inv X pins σ H s)(q:Q (.bl k) H)(e:k=a):EP X pins σ Q (.bool a) s:=by
 subst e
 exact⟨.bl k,H,I,rfl,q⟩
def c1U:OpR X (compareOp .Eq) rEq:=by
 intro e s f H x y v u Q I d a h
 obtain⟨c,q⟩:=h
 cases x with
 | non=>
  cases d
  cases y with
  |non=>cases a;exact PySem.EqNone.eq_none_none (cJ I q (by simp))
  |bl j=>cases a;exact PySem.EqNone.eq_none_bool (cJ I q (by simp))
  |int j=>obtain⟨b,rfl⟩:=a;exact PySem.EqNone.eq_none_int (cJ I q (by simp))
  |str j=>obtain⟨b,rfl⟩:=a;exact PySem.EqNone.eq_none_str (cJ I q (by simp))
  |_=>exact absurd (show false=true from c) Yr
 | bl i=>
  cases d
  cases y with
  |non=>cases a;exact PySem.EqNone.eq_bool_none (cJ I q (by simp))
  |bl j=>cases a;exact eq_bool (cJ I q b1L)
  |str j=>obtain⟨b,rfl⟩:=a;exact PySem.EqMixed.eq_bool_str (cJ I q (by simp))
  |_=>exact absurd (show false=true from c) Yr
 | int i=>
  obtain⟨t,rfl⟩:=d
  cases y with
  |non=>cases a;exact PySem.EqNone.eq_int_none (cJ I q (by simp))
  |int j=>obtain⟨b,rfl⟩:=a;exact eq_int (cJ I q a4U)
  |str j=>obtain⟨b,rfl⟩:=a;exact PySem.EqMixed.eq_int_str (cJ I q (by simp))
  |_=>exact absurd (show false=true from c) Yr
 | str i=>
  obtain⟨t,rfl⟩:=d
  cases y with
  |non=>cases a;exact PySem.EqNone.eq_str_none (cJ I q (by simp))
  |bl j=>cases a;exact PySem.EqMixed.eq_str_bool (cJ I q (by simp))
  |int j=>obtain⟨b,rfl⟩:=a;exact PySem.EqMixed.eq_str_int (cJ I q (by simp))
  |str j=>obtain⟨b,rfl⟩:=a;exact eq_str (cJ I q a4T)
  |_=>exact absurd (show false=true from c) Yr
 | byt i=>
  obtain⟨t,rfl⟩:=d
  cases y with
  |byt j=>obtain⟨b,rfl⟩:=a;exact W.eq_bytes (cJ I q a4V)
  |_=>exact absurd (show false=true from c) Yr
 |_=>cases y <;> exact absurd (show false=true from c) Yr
def c1P:OpR X (compareOp .NotEq) rNe:=by
 intro e s f H x y v u Q I d a h
 obtain⟨c,q⟩:=h
 cases x with
 | non=>
  cases d
  cases y with
  |non=>cases a;exact PySem.EqNone.ne_none_none (cJ I q (by simp))
  |bl j=>cases a;exact PySem.EqNone.ne_none_bool (cJ I q (by simp))
  |int j=>obtain⟨b,rfl⟩:=a;exact PySem.EqNone.ne_none_int (cJ I q (by simp))
  |str j=>obtain⟨b,rfl⟩:=a;exact PySem.EqNone.ne_none_str (cJ I q (by simp))
  |_=>exact absurd (show false=true from c) Yr
 | bl i=>
  cases d
  cases y with
  |non=>cases a;exact PySem.EqNone.ne_bool_none (cJ I q (by simp))
  |bl j=>cases a;exact ne_bool (cJ I q (YU not b1L))
  |str j=>obtain⟨b,rfl⟩:=a;exact PySem.EqMixed.ne_bool_str (cJ I q (by simp))
  |_=>exact absurd (show false=true from c) Yr
 | int i=>
  obtain⟨t,rfl⟩:=d
  cases y with
  |non=>cases a;exact PySem.EqNone.ne_int_none (cJ I q (by simp))
  |int j=>obtain⟨b,rfl⟩:=a;exact ne_int (cJ I q (YU not a4U))
  |str j=>obtain⟨b,rfl⟩:=a;exact PySem.EqMixed.ne_int_str (cJ I q (by simp))
  |_=>exact absurd (show false=true from c) Yr
 | str i=>
  obtain⟨t,rfl⟩:=d
  cases y with
  |non=>cases a;exact PySem.EqNone.ne_str_none (cJ I q (by simp))
  |bl j=>cases a;exact PySem.EqMixed.ne_str_bool (cJ I q (by simp))
  |int j=>obtain⟨b,rfl⟩:=a;exact PySem.EqMixed.ne_str_int (cJ I q (by simp))
  |str j=>obtain⟨b,rfl⟩:=a;exact ne_str (cJ I q (YU not a4T))
  |_=>exact absurd (show false=true from c) Yr
 | byt i=>
  obtain⟨t,rfl⟩:=d
  cases y with
  |byt j=>obtain⟨b,rfl⟩:=a;exact W.ne_bytes (cJ I q (YU not a4V))
  |_=>exact absurd (show false=true from c) Yr
 |_=>cases y <;> exact absurd (show false=true from c) Yr
def c1Q:OpR X (compareOp .Lt) (rI0 λi j=> .bl (decide (i<j))):=b4J λ_ _ _ _ _ _ _ q=>lt_int q
def c1R:OpR X (compareOp .LtE) (rI0 λi j=> .bl (decide (i<=j))):=b4J λ_ _ _ _ _ _ _ q=>le_int q
def c1S:OpR X (compareOp .Gt) (rI0 λi j=> .bl (decide (j<i))):=b4J λ_ _ _ _ _ _ _ q=>gt_int q
def c1T:OpR X (compareOp .GtE) (rI0 λi j=> .bl (decide (j<=i))):=b4J λ_ _ _ _ _ _ _ q=>ge_int q
def b8W:OpR X (compareOp .Is) (λx y H Q=>y= .non/\Q (.bl (decide (x= .non))) H):=by
 intro a s d H x y v u Q I b c h
 obtain⟨rfl,q⟩:=h
 cases c
 refine is_none_gen (cJ I q ?_)
 cases x <;> first
  |(cases b;rfl)
  |(obtain⟨t,rfl⟩:=b;rfl)
def aV (b:Expr)(h:op≠ .In:=by decide)(a:op≠ .NotIn:=by decide):behindInMarks op b=false:=by
 have c:(op == CmpOp.In)=false:=by cases op <;> first | rfl | exact absurd rfl h
 have d:(op == CmpOp.NotIn)=false:=by cases op <;> first | rfl | exact absurd rfl a
 cases b <;> simp[behindInMarks,c,d]
def gB (d:OpR X (compareOp op) r)(e:PE X a ta)(f:PE X b tb)(g:behindInMarks op b=false):PE X (.Compare a [op] [b] pos) (tOp r ta tb):=by
 intro c s i H Q I h
 exact wpAny_Compare1 (c0L e f I h λv u j x y k l m n q=>d c j i k x y v u Q l m n q) g
def a3J (t:TE):TT:=λa H Q=>t a H λx b=>∃k,x= .bl k/\Q k b
def b3U (g:OpR X (compareOp op) r)(i:PE X a ta)(j:PE X b tb)(l:behindInMarks op b=false):PT X (.Compare a [op] [b] pos) (a3J (tOp r ta tb)):=by
 intro d s f H Q I h
 refine wpAny_isTrue_Compare1 (thn (i d s f H _ I h) λv m ⟨x,n,o,p,q⟩=>thn (j d m f n _ o q) λu t ⟨y,w,A,B,C⟩=>
  thn (g d t f w x y v u _ A p B C) λc J ⟨z,D,E,F,k,e,G⟩=>?_) l
 subst e
 cases F
 exact Xm ⟨D,E,G⟩
def wH (r c:R2)(d e tc:TE):TE:=λa H Q=>d a H λx f=>e a f λy g=>r x y g λz b=>∃k,z= .bl k/\
 (if k=true then tc a b λh i=>c y h i Q else Q (.bl false) b)
theorem a9P {op op':CmpOp}{r r':R2}(ho:OpR X (compareOp op) r)(ho':OpR X (compareOp op') r')(ha:PE X a ta)(hb:PE X b tb)(hc:PE X c tc)
  (hm:lastMarks [op,op'] [b,c]=false:=by with_unfolding_all rfl):PE X (.Compare a [op,op'] [b,c] pos) (wH r r' ta tb tc):=by
 intro f s g H Q I h
 refine Compare_chain (thn (ha f s g H _ I h) λv n ⟨x,o,p,q,t⟩=>chain_link (thn (hb f n g o _ p t) λu w ⟨y,A,B,i,C⟩=>
  thn (ho f w g A x y v u _ B q i C) λd D ⟨z,j,l,E,k,e,m⟩=>?_)) hm
 subst e
 cases E
 refine Xm ?_
 cases k with
 |false=>exact ite_ff ⟨.bl false,j,l,rfl,m⟩
 |true=>exact ite_tt (chain_last (thn (hc f D g j _ l m) λF G ⟨J,K,L,M,N⟩=>ho' f G g K y J u F Q L i M N))
theorem a9F {op op':CmpOp}{r r':R2}(ho:OpR X (compareOp op) r)(ho':OpR X (compareOp op') r')(ha:PE X a ta)(hb:PE X b tb)(hc:PE X c tc)
  (hm:lastMarks [op,op'] [b,c]=false:=by with_unfolding_all rfl):PT X (.Compare a [op,op'] [b,c] pos) (a3J (wH r r' ta tb tc)):=by
 intro f s g H Q I h
 refine isTrue_chain (thn (ha f s g H _ I h) λv n ⟨x,o,p,q,t⟩=>test_link (thn (hb f n g o _ p t) λu w ⟨y,A,B,i,C⟩=>
  thn (ho f w g A x y v u _ B q i C) λd D ⟨z,j,l,E,k,e,m⟩=>?_)) hm
 subst e
 cases E
 refine Xm ?_
 cases k with
 | false=>
  obtain⟨W,F,G⟩:=m
  cases F
  exact ite_ff ⟨j,l,G⟩
 | true=>
  refine ite_tt (test_last (thn (hc f D g j _ l m) λJ K ⟨L,M,N,O,P⟩=>thn (ho' f K g M y L u J _ N i O P) λY Z ⟨z2,R,S,T,k2,U,V⟩=>?_))
  subst U
  cases T
  exact Xm ⟨R,S,V⟩
def wZ:(sizeLine:Nat)<2 ^ 63:=by rw[sizeLine_eq];decide
def vals1 {x:V}(r:Vals [x] us):∃u,us= [u]/\RelV x u:=by
 cases r with
 |cons r1 r2=>cases r2;exact⟨_,rfl,r1⟩
def vals2 {x y:V}(r:Vals [x,y] us):∃u w',us= [u,w']/\RelV x u/\RelV y w':=by
 cases r with
 | cons r1 r2=>
  cases r2 with
  |cons r3 r4=>cases r4;exact⟨_,_,rfl,r1,r3⟩
def a7D (b:X.calm=true):fY X (.builtin "max") (λxs H Q=>∃i j,xs= [.int i,.int j]/\Q (.int (if j > i then j else i)) H):=by
 intro a s c H xs d Q I r h
 obtain⟨i,j,rfl,q⟩:=h
 obtain⟨u,e,rfl,⟨t,rfl⟩,⟨f,rfl⟩⟩:=vals2 r
 refine max_two_ints (I.ok.hd b) λg l k=>⟨_,H,I.kept k,?_,q⟩
 by_cases hj:j > i
 ·rw[if_pos hj,if_pos hj];exact⟨_,rfl⟩
 ·rw[if_neg hj,if_neg hj];exact⟨_,rfl⟩
end
structure a3B (h:Heap)(x dx C:Addr)(mA:Str->Option Value):Prop where
 obj:h.get? x=some (W.instObj C dx)
 ns:h.Ns1 dx mA
 ne:dx≠x
def a6M (n:h.Ns1 dx mA):∃od,h.get? dx=some od/\∀name,W.lookIn name od=some (mA name):=by
 obtain⟨o,c,k,d,hd,f,_,g⟩:=n
 refine⟨o,d,λname=>?_⟩
 have e:=g name
 unfold nsFind findBy at e
 rw[<-Array.find?_toList]at e
 unfold W.lookIn
 rw[hd]
 dsimp only
 split
 ·rename_i y q
  rw[q]at e
  exact YU some e
 ·rename_i q
  rw[q]at e
  have a:c.toList.any (·.refKey)=false:=by
   rw[List.any_eq_false]
   intro y i
   obtain⟨z,t,b⟩:=f y (Array.mem_toList_iff.mp i)
   simp[DictEntry.refKey,b]
  have j:¬ c.toList.any (·.refKey)=true:=by rw[a];exact Yr
  rw[if_neg j]
  exact YU some e
def a3B.look {x:Addr}(I:a3B h x dx C mA):∃od,W.InstAt h x (W.instObj C dx) C (some od)/\∀name,W.lookIn name od=some (mA name):=
 let ⟨od,ho,hl⟩:=a6M I.ns
 ⟨od,⟨I.obj,rfl,rfl,ho⟩,hl⟩
section
variable {prog:Program}{x:Addr}{name:Str}
theorem b4Z {a:Bool}{Q:Value->Shared->Prop}(X:K.In s.heap)(I:a3B s.heap x dx C mA)(c:W.plainGet K C name=true)(d:W.hasDictIn K C=true)
  (e:W.findIn K (.ref C) name=some none) (f:mA name=some v) (b:W.handedIn v=true) (h:Q v { s with toks:=s.toks+1 }) :
  wpAny (model prog w) A (getAttr (.ref x) name a) Q E s:=by
 obtain⟨i,J,g⟩:=I.look
 exact W.get_value X J (W.plainGet_of c).1 (W.findObj_own d e rfl (by rw[g,f])) b h
theorem b0X {pl:Sem Bool}{Q:Value×List Value->Shared->Prop}(X:K.In s.heap)(I:a3B s.heap x dx C mA)(a:W.plainGet K C name=true)
  (b:W.findIn K (.ref C) name=some (some (.ref f))) (c:W.isFn K (.ref f)=true) (d:mA name=none) (h:Q (.ref f, [.ref x]) s) :
  wpAny (model prog w) A (getMethod (.ref x) name pl) Q E s:=by
 obtain⟨e,J,g⟩:=I.look
 exact W.method_fn X J (W.plainGet_of a).1 (W.plainGet_of a).2 b (Jb.mp c) (by show (W.lookIn name e).map (·.isSome)=some false;rw[g,d];rfl) h
theorem b3N {ns:List Str}{Q:Unit->Shared->Prop}(X:K.In s.heap)(I:a3B s.heap x dx C mA)
  (i:W.findIn K (.ref C) "__setattr__"=some (some (.builtin "object.__setattr__"))) (j:W.plainOver K C=true) (k:W.takerIn K C name=some none) (l:W.hasDictIn K C=true)
  (m:PySem.Within mA ns) (hsz:ns.length<=sizeLine)
  (h:∀h',a3B h' x dx C (λy=>if y=name then some v else mA y)->Heap.SameBut dx s.heap h'->Q () { s with heap:=h',toks:=s.toks+2 }) :
  wpAny (model prog w) A (setAttr (.ref x) name v) Q E s:=by
 obtain⟨t,J,u⟩:=I.look
 refine W.set_plain X J i (W.osa_open (s:={ s with toks:=s.toks+1 }) (r:=none) X J j k λb=>?_)
 obtain⟨z,n,e⟩:=W.any_some l
 have o:s.heap.get? x=some ⟨.ref C,some dx,.plain, #[]⟩:=I.obj
 refine YX (Xc (YX (YX (wpAny_loadPart o (YX (W.Looks.here (s:={ s with toks:=s.toks+1 }) (W.looks_clsIn X n) ?_))))))
 rw[e]
 refine Xc (a:=some dx) (YX (Xc (YX ?_)))
 refine wpAny_nsSet1 (s:={ s with toks:=s.toks+1 }) I.ns λh' c d=>?_
 obtain⟨B,p,q,f,hdD,g⟩:=c.count (PySem.Within.cons name v m)
 refine YX (wpAny_lookBehind f (by rw[hdD];exact pastItsLine_dict (YS g (by rw[Yo];lia))) ?_)
 exact Xc (h _ ⟨(d.2 _ (Va I.ne)).trans I.obj,c,I.ne⟩ d)
theorem b0H {R:Result->Shared->Prop}{vs:List Value}{a:List (Str×Value)}(X:K.In s.heap)(b:W.makesIn K C=true)
  (c:W.findIn K (.ref C) "__init__"=some (some (.ref f))) (e:W.typeIn K (.ref f)=some (.type "function"))
  (h :codeAny (model prog w) (A.under (.builtin "type.__call__" ⟨.ref C::vs,a⟩)) (.call (.ref f) ⟨.ref (s.heap.objs.size+1)::vs,a⟩) (W.InitBack (s.heap.objs.size+1) R)
   { s with heap:=(s.heap.push W.emptyDict).push (W.instObj C s.heap.objs.size) }) :
  codeAny (model prog w) A (.call (.ref C) ⟨vs,a⟩) R s:=by
 obtain⟨i,g,d,t,j⟩:=s
 exact W.make_core (W.makes_of X b) (W.looks_findIn X c) (λself=>W.bind_fn X self e) (.inl rfl) h
theorem a6I {R:Result->Shared->Prop}(X:K.In s.heap)(a:W.makesIn K C=true)
  (b:W.findIn K (.ref C) "__init__"=some (some (.builtin "object.__init__")))
  (c:∀self,W.Looks (model prog w) s.heap (bindSpecial (.builtin "object.__init__") self) (.builtin "object.__init__", [self]))
  (h :codeAny (model prog w) (A.under (.builtin "type.__call__" ⟨[.ref C], []⟩)) (.call (.builtin "object.__init__") ⟨[.ref (s.heap.objs.size+1)], []⟩) (W.InitBack (s.heap.objs.size+1) R)
   { s with heap:=(s.heap.push W.emptyDict).push (W.instObj C s.heap.objs.size) }) :
  codeAny (model prog w) A (.call (.ref C) ⟨[], []⟩) R s:=by
 obtain⟨e,g,d,t,f⟩:=s
 exact W.make_core (W.makes_of X a) (W.looks_findIn X b) c (.inr ⟨rfl,rfl⟩) h
end
def gD (f:Str)(v:V):List (Str×V)->List (Str×V)
 |[]=>[(f,v)]
 |(g,x)::r=>if g=f then (g,v)::r else (g,x)::gD f v r
theorem qD (f g:Str)(v:V):∀fs:List (Str×V),(gD f v fs).lookup g=if g=f then some v else fs.lookup g
 | [] =>by
  show List.lookup g [(f,v)]=_
  by_cases h:g=f
  ·have hb:(g == f)=true:=Jb.mpr h
   simp only[List.lookup,hb,if_pos h]
  ·have hb:(g == f)=false:=Xf.mpr h
   simp only[List.lookup,hb,if_neg h]
 | (k, x)::r=>by
  have ih:=qD f g v r
  rw[show gD f v ((k,x)::r)=(if k=f then (k,v)::r else (k,x)::gD f v r) from rfl]
  by_cases hk:k=f
  ·rw [if_pos hk]
   by_cases h:g=k
   ·have hb:(g == k)=true:=Jb.mpr h
    simp only[List.lookup,hb,if_pos (h.trans hk)]
   ·have hb:(g == k)=false:=Xf.mpr h
    simp only[List.lookup,hb,if_neg (λe:g=f=>h (e.trans hk.symm))]
  ·rw [if_neg hk]
   by_cases h:g=k
   ·have hb:(g == k)=true:=Jb.mpr h
    simp only[List.lookup,hb,if_neg (λe:g=f=>hk (h.symm.trans e))]
   ·have hb:(g == k)=false:=Xf.mpr h
    simp only[List.lookup,hb]
    exact ih
theorem pW (f:Str)(v:V):∀fs:List (Str×V),f∈(gD f v fs).map (·.1)/\∀g,g∈fs.map (·.1)->g∈(gD f v fs).map (·.1)
 |[]=>⟨by simp[gD],λg h=>by simp at h⟩
 | (k, x)::r=>by
  obtain⟨i1,i2⟩:=pW f v r
  rw[show gD f v ((k,x)::r)=(if k=f then (k,v)::r else (k,x)::gD f v r) from rfl]
  by_cases hk:k=f
  ·rw[if_pos hk]
   subst hk
   exact⟨by simp,λg h=>by simpa using h⟩
  ·rw [if_neg hk]
   refine⟨?_,λg h=>?_⟩
   ·rw[YK]
    exact Yv _ i1
   ·rw[YK]at h ⊢
    rcases YL.mp h with e | e
    ·exact YL.mpr (.inl e)
    ·exact Yv _ (i2 g e)
theorem qF (f:Str)(v:V):∀fs:List (Str×V),(gD f v fs).length<=fs.length+1
 |[]=>by simp[gD]
 | (k,x)::r=>by
  have ih:=qF f v r
  rw[show gD f v ((k,x)::r)=(if k=f then (k,v)::r else (k,x)::gD f v r) from rfl]
  by_cases hk:k=f
  ·rw[if_pos hk,Yo,Yo];lia
  ·rw[if_neg hk,Yo,Yo];lia
def nG.some_of {v:V}{o:Option Value}(r:nG (some v) o):∃u,o=some u/\RelV v u:=by
 cases o with
 |none=>exact(show False from r).elim
 |some u=>exact⟨u,rfl,r⟩
def nG.none_of {o:Option Value}(r:nG none o):o=none:=by
 cases o with
 |none=>rfl
 |some u=>exact(show False from r).elim
def a6V {v:V}(r:RelV v u):W.handedIn u=true:=by
 cases v with
 |non=>cases (show u=Value.none from r);rfl
 |bl b=>cases (show u=Value.bool b from r);rfl
 |int i=>obtain⟨t,e⟩:=(show ∃t,u=Value.int i t from r);cases e;rfl
 |str x=>obtain⟨t,e⟩:=(show ∃t,u=Value.str x t from r);cases e;rfl
 |byt b=>obtain⟨t,e⟩:=(show ∃t,u=Value.bytes b t from r);cases e;rfl
 |flt b=>obtain⟨t,e⟩:=(show ∃t,u=Value.float b t from r);cases e;rfl
 |ref a=>cases (show u=Value.ref a from r);rfl
 |ty n=>cases (show u=Value.type n from r);rfl
section
variable {fs fs':List (Str×V)}
def qY (b:HOk P w H h)(e:H a=some (.ins C dx fs)):∃mA,a3B h a dx C mA/\(∀f,nG (fs.lookup f) (mA f))/\PySem.Within mA (fs.map (·.1))/\fs.length<=1000/\H dx=some (.own a):=by
 obtain⟨d,z,ne,c,mA,n,r,q⟩:=(show fC P w H h a (.ins C dx fs) from b a _ e)
 exact⟨mA,⟨c,n,ne⟩,r,q,z,d⟩
end
structure Cls (K:W.Frag)(C:Addr):Prop where
 pg:W.plainGet K C Str.empty=true
 hd:W.hasDictIn K C=true
 po:W.plainOver K C=true
 sa:W.findIn K (.ref C) "__setattr__"=some (some (.builtin "object.__setattr__"))
def Cls.get (c:Cls K C)(f:Str):W.plainGet K C f=true:=c.pg
def bM (K:W.Frag)(C:Addr)(f:Str):Prop:=W.findIn K (.ref C) f=some none
def bM.taker {f:Str}(n:bM K C f):W.takerIn K C f=some none:=by
 unfold W.takerIn
 rw[show W.findIn K (.ref C) f=some none from n]
 rfl
structure Meth (K:W.Frag)(C:Addr)(m:Str)(f:Addr):Prop where
 at_:W.findIn K (.ref C) m=some (some (.ref f))
 fn:W.isFn K (.ref f)=true
 kp:W.keepIn K (.ref f)=true
section
variable {fs:List (Str×V)}{f:Str}{v:V}
theorem a2N {b:Bool}{Q:Value->Shared->Prop}(I:Inv X pins σ H s)(e:H a=some (.ins C dx fs))(c:Cls X.K C)(n:bM X.K C f)(l:fs.lookup f=some v)
  (h:∀u s',Inv X pins σ H s'->RelV v u->Q u s'):wpAny (model X.prog X.w) A (getAttr (.ref a) f b) Q E s:=by
 obtain⟨g,O,r,_,_,_⟩:=qY I.hok e
 obtain⟨u,i,d⟩:=nG.some_of (v:=v) (o:=g f) (by rw[<-l];exact r f)
 exact b4Z I.kIn O (c.get f) c.hd n i (a6V d) (h u _ (I.tok _) d)
theorem iM {m:Str}{g:Addr}{pl:Sem Bool}{Q:Value×List Value->Shared->Prop}(I:Inv X pins σ H s)(e:H a=some (.ins C dx fs))(c:Cls X.K C)(k:Meth X.K C m g)(l:fs.lookup m=none)
  (h:Q (.ref g, [.ref a]) s):wpAny (model X.prog X.w) A (getMethod (.ref a) m pl) Q E s:=by
 obtain⟨b,O,r,_,_,_⟩:=qY I.hok e
 have d:b m=none:=nG.none_of (by rw[<-l];exact r m)
 exact b0X I.kIn O (c.get m) k.at_ k.fn d h
theorem a1Y {y:V}{u:Value}{Q:Unit->Shared->Prop}(I:Inv X pins σ H s)(e:H a=some (.ins C dx fs))(c:Cls X.K C)(n:bM X.K C f)(D:fs.length<1000)(l:RelV y u)
  (h:∀s',Inv X pins σ (upd H a (.ins C dx (gD f y fs))) s'->Q () s'):wpAny (model X.prog X.w) A (setAttr (.ref a) f u) Q E s:=by
 obtain⟨i,O,r,j,_,k⟩:=qY I.hok e
 have m:(fs.map (·.1)).length<=sizeLine:=by rw[Ya,sizeLine_eq];lia
 refine b3N I.kIn O c.sa c.po n.taker c.hd j m λp d t=>h _ ?_
 have hd:∃o,p.get? dx=some o:=let ⟨o,_,_,e',_⟩:=d.ns;⟨o,e'⟩
 refine I.write (x:=a) (e:=dx) (by rw[e];exact True.intro) (.inr k) (λb q v z=>(t.2 b v).trans z) hd ?_
 refine⟨by rw[aH O.ne];exact k,?_,O.ne,d.obj,_,d.ns,λg=>?_,λg B=>?_⟩
 ·have:=qF f y fs;lia
 ·show nG ((gD f y fs).lookup g) (if g=f then some u else i g)
  rw[qD]
  by_cases q:g=f
  ·rw[if_pos q,if_pos q];exact l
  ·rw[if_neg q,if_neg q];exact r g
 ·by_cases q:g=f
  ·rw[q];exact(pW f y fs).1
  ·refine(pW f y fs).2 g (j g λz=>B ?_)
   show (if g=f then some u else i g)=none
   rw[if_neg q];exact z
def Inv.made (I:Inv X pins σ H s):Inv X pins σ (upd (upd H s.heap.objs.size (.own (s.heap.objs.size+1))) (s.heap.objs.size+1) (.ins C s.heap.objs.size []))
  { s with heap:=(s.heap.push W.emptyDict).push (W.instObj C s.heap.objs.size) }:=by
 have c:(s.heap.push W.emptyDict).get? s.heap.objs.size=some W.emptyDict:=YG s.heap rfl
 have d:((s.heap.push W.emptyDict).push (W.instObj C s.heap.objs.size)).get? (s.heap.objs.size+1)=some (W.instObj C s.heap.objs.size):=by
  have:=YG (s.heap.push W.emptyDict) (o:=W.instObj C s.heap.objs.size) rfl
  rwa [X6]at this
 have f:(s.heap.push W.emptyDict).Ns s.heap.objs.size (λ_=>none):=⟨W.emptyDict, #[],_,c,rfl,(λe g=>absurd g (by simp)),λ_=>rfl⟩
 have h:=I.laid (a:=s.heap.objs.size) (o:= .own (s.heap.objs.size+1)) (h':=s.heap.push W.emptyDict) (t':=s.toks) (λb u q=>Yk _ q) (Yd _) ⟨_,c⟩
 refine h.laid (a:=s.heap.objs.size+1) (o:= .ins C s.heap.objs.size []) (t':=s.toks) (λb u q=>Yk _ q) (Nat.le_of_eq (X6 _ _)) ?_
 have ne:s.heap.objs.size≠s.heap.objs.size+1:=YI (Xi _)
 refine⟨by rw[aH ne,aB],YV _,ne,d,λ_=>none,(Heap.Ns1.of_empty f).at λo q=>Yk _ q,λ_=>True.intro,λy i=>absurd rfl i⟩
theorem b5P {prog:Program}{w:World}{env:Env}{e:Expr}{f:Str}{pos:Pos}{s:Shared}{Q:Value->Shared->Prop}(a:attributeBase e f env (eval e env)=eval e env)
  (h:wpAny (model prog w) A (eval e env) (λo s₁=>wpAny (model prog w) A (getAttr o f true) Q E s₁) E s):wpAny (model prog w) A (eval (.Attribute e f pos) env) Q E s:=
 Attribute_any_ h (by rw[arm_eval_Attribute,a])
end
def c3T (K:W.Frag)(c:TE)(f:Str):TE:=λd H Q=>c d H λx b=>∃a C dx fs v,x= .ref a/\b a=some (.ins C dx fs)/\Cls K C/\bM K C f/\fs.lookup f=some v/\Q v b
def c4A (K:W.Frag)(d e:TE)(f:Str):TS:=λD b H=>e b H λy g=>d b g λx c=>∃a C dx fs,x= .ref a/\c a=some (.ins C dx fs)/\Cls K C/\bM K C f/\fs.length<1000/\
 D.nx b (upd c a (.ins C dx (gD f y fs)))
section
variable {o value:Expr}{f:Str}{pos' tpos:Pos}{tv:TE}
def a9L (g:PE X e ta)(i:attributeBase e f X.env (eval e X.env)=eval e X.env):PE X (.Attribute e f pos) (c3T X.K ta f):=by
 intro b s j H Q I h
 refine b5P i (thn (g b s j H _ I h) λu w d=>?_)
 obtain⟨x,k,m,o,a,C,y,fs,v,ex,p,c,n,l,q⟩:=d
 subst ex
 obtain rfl:u=Value.ref a:=o
 exact a2N m p c n l λz A r t=>⟨v,k,r,t,q⟩
def a9G (e:PE X o ta)(g:PE X value tv)(i:swapsWith value (some (.Attribute o f pos')) pos.line X.env=pure false):PS X (.Assign [.Attribute o f pos'] value pos) (c4A X.K ta tv f):=by
 intro b s d H D I h
 refine plainObj_wpAny_Assign_Attribute (thn (g b s d H _ I h) λu j ⟨y,k,m,p,q⟩=>thn (e b j d k _ m q) λr B ⟨x,E,t,v,a,C,F,fs,ex,w,c,n,l,z⟩=>?_) i
 subst ex
 obtain rfl:r=Value.ref a:=v
 exact a1Y t w c n l p λG A=>⟨d,_,A,z⟩
theorem b6J {pl:Sem Bool}{m:Str}{d:Pos}{b:List Expr}{i:List (Addr×Obj)}{s:Shared}{σ:St}{H:Hp}{Q:Value->Shared->Prop}{n:TE}(p:PE X e n)(I:Inv X i σ H s)
  (h :n σ H λx H1=>∃a C dx fs g,x= .ref a/\H1 a=some (.ins C dx fs)/\Cls X.K C/\Meth X.K C m g/\fs.lookup m=none/\
   ∀s1,Inv X i σ H1 s1->wpAny (model X.prog X.w) X.A (callWith pos (.ref g) [.ref a] (backTo pos (starEach b X.env)) (backToKw pos (keywordEach [] X.env))) Q X.xe s1)
  (r:eval (.Call (.Attribute e m d) b [] pos) X.env=(do
   let ov<-eval e X.env
   standAt d.atName
   let (f,first)<-holding [ov] (getMethod ov m pl)
   callWith pos f first (backTo pos (starEach b X.env)) (backToKw pos (keywordEach [] X.env)))) :
  wpAny (model X.prog X.w) X.A (eval (.Call (.Attribute e m d) b [] pos) X.env) Q X.xe s:=by
 refine XX (pl:=pl) (thn (p i s σ H _ I h) λu s1 j=>?_) r
 obtain⟨x,H1,o,t,a,C,dx,fs,g,ex,v,c,k,l,q⟩:=j
 subst ex
 obtain rfl:u=Value.ref a:=t
 exact iM o v c k l (q s1 o)
end
section
variable {Q:Value->Shared->Prop}{c:Value}{b:Bool}
inductive pI (K:W.Frag)(H:Hp):V->Value->Prop where
  |non:pI K H .non (.type "NoneType")
  |bl (x:Bool):pI K H (.bl x) (.type "bool")
  |int (i:Int):pI K H (.int i) (.type "int")
  |str (x:Str):pI K H (.str x) (.type "str")
  |flt (x:UInt64):pI K H (.flt x) (.type "float")
  |lst {a:Addr} {xs:List V} (e:H a=some (.lst xs)):pI K H (.ref a) (.type "list")
  |frz {a:Addr} {o:Obj} {xs:List V} (e:H a=some (.frz o (.lst xs))):pI K H (.ref a) (.type "list")
  |tup {a:Addr} {xs:List V} (e:H a=some (.tup xs)):pI K H (.ref a) (.type "tuple")
  |dK {a:Addr} {kvs:List (Key×V)} (e:H a=some (.dK kvs)):pI K H (.ref a) (.type "dict")
  |dT {a:Addr} {kvs:List (List Key×V)} (e:H a=some (.dT kvs)):pI K H (.ref a) (.type "dict")
  | ins {a C dx:Addr} {fs:List (Str×V)} (e:H a=some (.ins C dx fs)) (cl:Cls K C) (ha:W.findIn K (.ref C) "__class__"=some (some (.builtin "object.__class__")))
      (hn:W.specialIn K (.builtin "object.__class__") "__get__"=some (some (.builtin "getset_descriptor.__get__"))) (htk:W.takesIn K (.builtin "object.__class__")=some true)
      (hm:W.mroIn K C (.type "object")=some true):pI K H (.ref a) (.ref C)
def a6R {x:V}{t:Value}(I:Inv X pins σ H s)(rx:RelV x u)(ty:pI X.K H x t)(e:W.kitOne X.K t c=some b)(h:∀tk,Q (.bool b) { s with toks:=tk }):
  wpAny (model X.prog X.w) A (call (.builtin "isinstance") [u,c]) Q E s:=by
 cases ty with
 |non=>cases (show u=Value.none from rx);exact Jc W.kitx_none I.kIn True.intro e (λz=>nomatch z) h
 |bl y=>cases (show u=Value.bool y from rx);exact Jc W.kitx_bool I.kIn True.intro e (λz=>nomatch z) h
 |int i=>obtain⟨t,q⟩:=(show ∃t,u=Value.int i t from rx);cases q;exact Jc W.kitx_int I.kIn True.intro e (λz=>nomatch z) h
 |str y=>obtain⟨t,q⟩:=(show ∃t,u=Value.str y t from rx);cases q;exact Jc W.kitx_str I.kIn True.intro e (λz=>nomatch z) h
 |flt y=>obtain⟨t,q⟩:=(show ∃t,u=Value.float y t from rx);cases q;exact Jc W.kitx_float I.kIn True.intro e (λz=>nomatch z) h
 | @lst a xs ea=>
  cases (show u=Value.ref a from rx)
  obtain⟨_,_,n,_,d⟩:=(show fC X.prog X.w H s.heap a (.lst xs) from I.hok a _ ea)
  exact Jc W.kitx_list I.kIn ⟨_,d,rfl⟩ e (λz=>nomatch z) h
 | @frz a ob xs ea=>
  cases (show u=Value.ref a from rx)
  obtain⟨_,_,_,n,_,d⟩:=(show fC X.prog X.w H s.heap a (.frz ob (.lst xs)) from I.hok a _ ea)
  exact Jc W.kitx_list I.kIn ⟨_,d,rfl⟩ e (λz=>nomatch z) h
 | @tup a xs ea=>
  cases (show u=Value.ref a from rx)
  obtain⟨_,_,_,p⟩:=(show fC X.prog X.w H s.heap a (.tup xs) from I.hok a _ ea)
  obtain⟨o,d,f,_⟩:=p
  exact Jc W.kitx_tuple I.kIn ⟨o,d,f⟩ e (λz=>nomatch z) h
 | @dK a kvs ea=>
  cases (show u=Value.ref a from rx)
  obtain⟨_,_,k,_,p⟩:=(show fC X.prog X.w H s.heap a (.dK kvs) from I.hok a _ ea)
  obtain⟨o,g,j,d,f,_⟩:=p
  exact Jc W.kitx_dict I.kIn ⟨o,d,f.1⟩ e (λz=>nomatch z) h
 | @dT a kvs ea=>
  cases (show u=Value.ref a from rx)
  obtain⟨_,_,xs,_,o,g,j,d,f,_⟩:=(show fC X.prog X.w H s.heap a (.dT kvs) from I.hok a _ ea)
  exact Jc W.kitx_dict I.kIn ⟨o,d,f.1⟩ e (λz=>nomatch z) h
 | @ins a C dx fs ea cl ha hn htk hm=>
  cases (show u=Value.ref a from rx)
  obtain⟨l,O,_⟩:=qY I.hok ea
  obtain⟨m,J,_⟩:=O.look
  exact Jc (W.kitx_own (cl.get _) cl.hd ha hn htk hm) I.kIn J e (λz=>nomatch z) h
end
structure fB (k:Nat)(A:Around):Prop where
 hd:A.handled=none
 dp:A.depth+3*k+5<recursionLimit
 un:A.units+16*k+200<cLine
def fB.mono (r:fB k A)(h:j<=k):fB j A:=⟨r.hd,by have:=r.dp;lia,by have:=r.un;lia⟩
def fB.deeper (r:fB (k+1) A)(env:Env):fB k (A.deeper env):=
 ⟨r.hd,by have:=r.dp;show A.depth+1+3*k+5<_;lia,by have:=r.un;show A.units+3+16*k+200<_;lia⟩
def a2I {a:List (Str×Value)}:(A.under (.builtin "type.__call__" ⟨.ref C::us,a⟩)).depth=A.depth+1:=by
 first | rfl | simp[Around.under,Code.weight,Code.isCreation,Code.isGuard,Code.isCaller,Code.frames,Code.isFrame,guardIds]
def a2H {a:List (Str×Value)}:(A.under (.builtin "type.__call__" ⟨.ref C::us,a⟩)).units=A.units+1:=by
 first | rfl | simp[Around.under,Code.cUnits,Code.frames,Code.isFrame]
def fB.make (r:fB (k+1) A)(C:Addr)(us:List Value)(a:List (Str×Value)):fB k (A.under (.builtin "type.__call__" ⟨.ref C::us,a⟩)):=
 ⟨r.hd,by have:=r.dp;rw[a2I];lia,by have:=r.un;rw[a2H];lia⟩
def fB.depth (r:fB k A):A.depth<recursionLimit:=by have:=r.dp;lia
def fB.units (r:fB k A):A.units+64<cLine:=by have:=r.un;lia
def a5K:TA:=λ_ H Q=>Q [] H
def c1F (b:TE)(c:TA):TA:=λa H Q=>b a H λx d=>c a d λxs e=>Q (x::xs) e
def aC:PA X [] a5K:=λ_ _ _ _ H Q I h=>Calls.spliced_nil ⟨[],H,I,.nil,h⟩
def aA (d:PE X e te)(f:PA X es t)(g:starEach (e::es) X.env=(false,eval e X.env)::starEach es X.env:=by rfl):PA X (e::es) (c1F te t):=by
 intro pos a s c H Q I h
 rw[g]
 show wpAny _ _ (spliced ((false,eval e X.env)::backTo pos (starEach es X.env))) _ _ s
 refine Calls.spliced_cons (thn (d a s c H _ I h) λu i b=>?_)
 obtain⟨x,j,k,l,m⟩:=b
 exact thn (f pos a i c j _ k m) λr v ⟨xs,n,o,p,q⟩=>⟨x::xs,n,o,.cons l p,q⟩
def c3M (t:TA):TE:=λb H Q=>t b H λxs a=>xs.length<=sizeLine/\∀p,a p=none->Q (.ref p) (upd a p (.tup xs))
def c3Q (t:TA):TE:=λb H Q=>t b H λxs a=>xs.length<=sizeLine/\∀p,a p=none->Q (.ref p) (upd a p (.lst xs))
def cH {x1}(h:PA X es t):PE X (.Tuple es x1 pos) (c3M t):=by
 intro a s g H Q I i
 refine wpAny_Tuple_spliced (thn (h pos a s g H _ I i) λj c ⟨xs,d,f,r,z,q⟩=>⟨by rw[<-r.length];exact z,?_⟩)
 have k:d c.heap.objs.size=none:=f.hok.fresh (Yd _)
 refine⟨.ref c.heap.objs.size,upd d c.heap.objs.size (.tup xs),f.laid (t':=c.toks) (λb u e=>Yk _ e) (Yd _) ?_,rfl,q _ k⟩
 exact⟨z,j,r,⟨_,YG _ rfl,rfl,_,rfl⟩⟩
def fW (h:PA X es t):PE X (.List es pos) (c3Q t):=by
 intro a s g H Q I i
 refine wpAny_List_spliced (thn (h pos a s g H _ I i) λj c ⟨xs,d,f,r,z,q⟩=>⟨by rw[<-r.length];exact z,?_⟩)
 have k:d c.heap.objs.size=none:=f.hok.fresh (Yd _)
 refine⟨.ref c.heap.objs.size,upd d c.heap.objs.size (.lst xs),f.laid (t':=c.toks) (λb u e=>Yk _ e) (Yd _) ?_,rfl,q _ k⟩
 exact⟨z,j,0,r,YG _ rfl⟩
abbrev Sp:=List V->Hp->VK->XK->Prop
variable {sp:Sp}
abbrev CXT:=List Env->Hp->Shared->XK->Value->Shared->Prop
variable {CX:CXT}
structure uF (P:Program)(w:World)(K:W.Frag)(mg:Str->Option Value)(base:Heap)(A:Around)(outer:List Env)(s:Shared)(H:Hp):Prop where
 frames:A.frames=some outer
 mod:Mod K mg base
 bs:∀b o,base.get? b=some o->s.heap.get? b=some o/\H b=none
 bsz:base.objs.size<=s.heap.objs.size
 funs:s.heap.FunFrames base outer
 frf:∀b∈frs outer,H b=none
 hok:HOk P w H s.heap
 bare:AllBare s.gens
def CE (a:List Env)(P:Program)(w:World)(H:Hp)(s:Shared)(Q:VK)(u:Value)(b:Shared):Prop:=
 ∃v H',b.os=s.os/\AllBare b.gens/\Un (frs a) [] H H' s.heap b.heap/\HOk P w H' b.heap/\RelV v u/\Q v H'
def CR (CX:CXT)(outer:List Env)(P:Program)(w:World)(H:Hp)(s:Shared)(Q:VK)(E:XK)(r:Result)(s':Shared):Prop:=
 match r with
 |.ok (.ret u)=>CE outer P w H s Q u s'
 |.ok _=>False
 |.error e=>CX outer H s E e s'
structure iV (P:Program)(w:World)(K:W.Frag)(mg:Str->Option Value)(base:Heap)(CX:CXT)(k:Nat)(f:Addr)(fd:FuncData)(ps:List Str)(sp:Sp):Prop where
 len:∀vs H Q E,sp vs H Q E->vs.length=ps.length
 run:∀(A:Around)(outer:List Env)(s:Shared)(H:Hp)(args:Args)(us:List Value)(vs:List V)(Q:VK)(E:XK),fB k A->uF P w K mg base A outer s H->BindsTo s fd args (ps.zip us)->Vals vs us->sp vs H Q E->
  codeAny (model P w) A (.call (.ref f) args) (CR CX outer P w H s Q E) s
theorem iV.mono {mg:Str->Option Value}{base:Heap}(F:iV P w K mg base CX j f fd ps sp)(h:j<=k):
  iV P w K mg base CX k f fd ps sp:=⟨F.len,λA a s H b c d Q E e=>F.run A a s H b c d Q E (e.mono h)⟩
theorem uF.make {mg:Str->Option Value}{base:Heap}{a:List Env}(e:uF P w K mg base A a s H)(C:Addr)(us:List Value)(b:List (Str×Value)):
  uF P w K mg base (A.under (.builtin "type.__call__" ⟨.ref C::us,b⟩)) a s H:=⟨by first | exact e.frames | (simpa [Around.under,Code.envs,Code.isFrame,pushEnvs] using e.frames),e.mod,e.bs,e.bsz,e.funs,e.frf,e.hok,e.bare⟩
section
variable {s':Shared}
def Inv.env0 (I:Inv X pins σ H s):uF X.prog X.w X.K X.mg X.base X.A X.stack s H:=
 ⟨I.ok.frames,I.ok.mod,I.bs,YS I.ok.bsz I.sz,I.stack,I.stkFree,I.hok,I.bare⟩
def Inv.after {Q:VK}(I:Inv X pins σ H s)(h:CE X.stack X.prog X.w H s Q u s'):EP X pins σ Q u s':=by
 obtain⟨v,f,i,a,un,c,r,q⟩:=h
 obtain⟨j,g,d,t,e⟩:=s'
 obtain rfl:e=s.os:=i
 exact⟨v,f,I.call (h':=j) (g':=g) (d':=d) (t':=t) (ch:=[]) un c a (λb z=>absurd z (by simp)),r,q⟩
end
def b6C (sp:Sp)(dvs:List V)(E:XK)(t:TA):TE:=λa H Q=>t a H λb c=>sp (b++dvs) c Q E
def b6A (C:Addr)(m:Str)(sp:Sp)(dvs:List V)(E:XK)(d:TE)(t:TA):TE:=λb H Q=>d b H λx c=>∃a dx fs,x= .ref a/\c a=some (.ins C dx fs)/\fs.lookup m=none/\
 t b c λe f=>sp (x::(e++dvs)) f Q E
def b6B (C:Addr)(sp:Sp)(dvs:List V)(E:XK)(t:TA):TE:=λb H Q=>t b H λc a=>∀x dx,a x=none->a dx=none->dx≠x->
 sp (.ref x::(c++dvs)) (upd (upd a dx (.own x)) x (.ins C dx [])) (λv d=>v= .non/\Q (.ref x) d) E
def Binds (K:W.Frag)(a:FuncData)(ps:List Str)(ds:List Value):Prop:=
 ∀(s:Shared)(us:List Value),K.In s.heap->(us++ds).length=ps.length->BindsTo s a ⟨us, []⟩ (ps.zip (us++ds))
def Binds.all (h:∀us:List Value,us.length=ps.length->bindArgs fd ⟨us, []⟩=pure (ps.zip us)):Binds K fd ps []:=λs us _ a=>by
 rw[YD]at a ⊢
 exact .of_eq (h us a)
def gW (CX:CXT)(X:Cx)(E:XK):Prop:=∀(pins:List (Addr×Obj))(σ:St)(H:Hp)(s:Shared)(e:Value)(s':Shared),Inv X pins σ H s->CX X.stack H s E e s'->X.xe e s'
section
variable {dvs:List V}{ds:List Value}{E:XK}{m:Str}{apos:Pos}{o:Expr}
theorem mG {pins:List (Addr×Obj)}{σ:St}{H:Hp}{s:Shared}{Q:VK}{us:List Value}{vs:List V}(F:iV X.prog X.w X.K X.mg X.base CX k f fd ps sp)(hr:fB k X.A)(hb:Binds X.K fd ps ds)(hd:Vals dvs ds)(hx:gW CX X E)
  (I:Inv X pins σ H s) (r:Vals vs us) (h:sp (vs++dvs) H Q E):wpAny (model X.prog X.w) X.A (call (.ref f) us) (EP X pins σ Q) X.xe s:=by
 have b:Vals (vs++dvs) (us++ds):=r.append hd
 have c:(us++ds).length=ps.length:=by rw[<-b.length];exact F.len _ _ _ _ h
 refine wpAny_call (codeAny_mono (F.run X.A X.stack s H ⟨us, []⟩ (us++ds) (vs++dvs) Q E hr I.env0 (hb s us I.kIn c) b h) λr d a=>?_)
 cases r with
 |error e=>exact hx pins σ H s e d I a
 | ok fl=>
  cases fl with
  |ret u=>exact I.after a
  |next=>exact False.elim a
  |brk=>exact False.elim a
  |cont=>exact False.elim a
theorem aN (F:iV X.prog X.w X.K X.mg X.base CX k f fd ps sp)(g:fB k X.A)(i:Gl X x)(j:X.mg x=some (.ref f))(l:W.keepIn X.K (.ref f)=true)(m:Binds X.K fd ps ds)(hd:Vals dvs ds)(n:gW CX X E)
  (o:PA X (e::es) t) (b:(x == ("__debug__":Str))=false:=by decide) (u:starEach (e::es) X.env=(false,eval e X.env)::starEach es X.env:=by rfl) (c:(backTo pos (starEach es X.env)).any (·.1)=false:=by rfl) :
  PE X (.Call (.Name x p) (e::es) [] pos) (b6C sp dvs E t):=by
 intro a s v H Q I h
 refine Xu (nA I i j ?_ b)
 refine JC (h₀:=X.base) I.ok.mod.kin l (thn (o pos a s v H _ I h) λy z ⟨B,C,d,r,q⟩=>⟨d.kIn,?_⟩) u c
 exact mG F g m hd n d r q
theorem zM (F:iV X.prog X.w X.K X.mg X.base CX k f fd ps sp)(c:fB k X.A)(d:Gl X x)(e:X.mg x=some (.ref f))(g:W.keepIn X.K (.ref f)=true)(i:Binds X.K fd ps ds)(hd:Vals dvs ds)(j:gW CX X E)
  (a:(x == ("__debug__":Str))=false:=by decide):PE X (.Call (.Name x p) [] [] pos) (b6C sp dvs E a5K):=by
 intro b s l H Q I h
 refine Xu (nA I d e ?_ a)
 exact W.callWith_K0 I.kIn g (mG (us:=[]) F c i hd j I .nil h)
theorem b4C {pl:Sem Bool}(y:PE X o ta)(c:Cls X.K C)(j:Meth X.K C m f)(F:iV X.prog X.w X.K X.mg X.base CX k f fd ps sp)(z:fB k X.A)(B:Binds X.K fd ps ds)(hd:Vals dvs ds)(D:gW CX X E)(G:PA X (e::es) t)
  (d:starEach (e::es) X.env=(false,eval e X.env)::starEach es X.env:=by rfl) (g:(backTo pos (starEach es X.env)).any (·.1)=false:=by rfl)
  (J:eval (.Call (.Attribute o m apos) (e::es) [] pos) X.env=(do
   let ov<-eval o X.env
   standAt apos.atName
   let (f,first)<-holding [ov] (getMethod ov m pl)
   callWith pos f first (backTo pos (starEach (e::es) X.env)) (backToKw pos (keywordEach [] X.env))):=by rfl) :
  PE X (.Call (.Attribute o m apos) (e::es) [] pos) (b6A C m sp dvs E ta t):=by
 intro b s n H Q I h
 refine XX (pl:=pl) (thn (y b s n H _ I h) λu L i=>?_) J
 obtain⟨x,M,p,N,a,R,fs,ex,O,l,q⟩:=i
 subst ex
 obtain rfl:u=Value.ref a:=N
 refine iM p O c j l ?_
 refine JC (first:=[.ref a]) (h₀:=X.base) I.ok.mod.kin j.kp (thn (G pos b L n M _ p q) λus S ⟨vs,T,v,r,P⟩=>⟨v.kIn,?_⟩) d g
 exact mG (us:= .ref a::us) (vs:= .ref a::vs) F z B hd D v (.cons rfl r) P
theorem a9J {pl:Sem Bool}(i:PE X o ta)(c:Cls X.K C)(g:Meth X.K C m f)(F:iV X.prog X.w X.K X.mg X.base CX k f fd ps sp)(j:fB k X.A)(n:Binds X.K fd ps ds)(hd:Vals dvs ds)(p:gW CX X E)
  (r:eval (.Call (.Attribute o m apos) [] [] pos) X.env=(do
   let ov<-eval o X.env
   standAt apos.atName
   let (f,first)<-holding [ov] (getMethod ov m pl)
   callWith pos f first (backTo pos (starEach [] X.env)) (backToKw pos (keywordEach [] X.env))):=by rfl) :
  PE X (.Call (.Attribute o m apos) [] [] pos) (b6A C m sp dvs E ta a5K):=by
 intro b s t H Q I h
 refine XX (pl:=pl) (thn (i b s t H _ I h) λu z d=>?_) r
 obtain⟨x,B,e,v,a,D,fs,ex,y,l,q⟩:=d
 subst ex
 obtain rfl:u=Value.ref a:=v
 refine iM e y c g l ?_
 exact W.callWith_K0 (first:=[.ref a]) e.kIn g.kp (mG (us:=[.ref a]) (vs:=[.ref a]) F j n hd p e (.cons rfl .nil) q)
structure Mk (K:W.Frag)(C f:Addr):Prop where
 makes:W.makesIn K C=true
 init:W.findIn K (.ref C) "__init__"=some (some (.ref f))
 fn:W.isFn K (.ref f)=true
 kp:W.keepIn K (.ref C)=true
theorem zF {pins:List (Addr×Obj)}{σ:St}{H:Hp}{s:Shared}{Q:VK}{us:List Value}{vs:List V}(M:Mk X.K C f)(F:iV X.prog X.w X.K X.mg X.base CX k f fd ps sp)(hr:fB (k+1) X.A)(hb:Binds X.K fd ps ds)(hd:Vals dvs ds)
  (hx:gW CX X E) (I:Inv X pins σ H s) (r:Vals vs us)
  (h:∀x dx,H x=none->H dx=none->dx≠x->sp (.ref x::(vs++dvs)) (upd (upd H dx (.own x)) x (.ins C dx [])) (λv H2=>v= .non/\Q (.ref x) H2) E) :
  wpAny (model X.prog X.w) X.A (call (.ref C) us) (EP X pins σ Q) X.xe s:=by
 have c:=h (s.heap.objs.size+1) s.heap.objs.size (I.hok.fresh (XM _)) (I.hok.fresh (Yd _)) (YI (Xi _))
 have b:=Inv.made (C:=C) I
 have d:Vals (V.ref (s.heap.objs.size+1)::(vs++dvs)) (Value.ref (s.heap.objs.size+1)::(us++ds)):= .cons rfl (r.append hd)
 have g:(Value.ref (s.heap.objs.size+1)::us++ds).length=ps.length:=by
  have e:=d.length
  rw[F.len _ _ _ _ c]at e
  exact e.symm
 refine wpAny_call (b0H (f:=f) I.kIn M.makes M.init (Jb.mp M.fn) (codeAny_mono (F.run _ X.stack _ _ ⟨Value.ref (s.heap.objs.size+1)::us, []⟩ (Value.ref (s.heap.objs.size+1)::(us++ds)) _ _ E (hr.make C us [])
  (b.env0.make C us []) (hb _ (Value.ref (s.heap.objs.size+1)::us) b.kIn g) d c) λr i a=>?_))
 cases r with
 |error e=>exact hx pins σ _ _ e i b a
 | ok fl=>
  cases fl with
  | ret u=>
   obtain⟨v,j,l,m,n,o⟩:=b.after a
   subst n
   exact⟨m,⟨V.ref (s.heap.objs.size+1),j,l,rfl,o⟩⟩
  |next=>exact False.elim a
  |brk=>exact False.elim a
  |cont=>exact False.elim a
theorem cN (M:Mk X.K C f)(F:iV X.prog X.w X.K X.mg X.base CX k f fd ps sp)(g:fB (k+1) X.A)(i:Gl X x)(j:X.mg x=some (.ref C))(l:Binds X.K fd ps ds)(hd:Vals dvs ds)(m:gW CX X E)
  (n:PA X (e::es) t) (b:(x == ("__debug__":Str))=false:=by decide) (o:starEach (e::es) X.env=(false,eval e X.env)::starEach es X.env:=by rfl) (c:(backTo pos (starEach es X.env)).any (·.1)=false:=by rfl) :
  PE X (.Call (.Name x p) (e::es) [] pos) (b6B C sp dvs E t):=by
 intro a s u H Q I h
 refine Xu (nA I i j ?_ b)
 refine JC (h₀:=X.base) I.ok.mod.kin M.kp (thn (n pos a s u H _ I h) λv y ⟨z,B,d,r,q⟩=>⟨d.kIn,?_⟩) o c
 exact zF M F g l hd m d r q
theorem oJ (M:Mk X.K C f)(F:iV X.prog X.w X.K X.mg X.base CX k f fd ps sp)(c:fB (k+1) X.A)(d:Gl X x)(e:X.mg x=some (.ref C))(g:Binds X.K fd ps ds)(hd:Vals dvs ds)(i:gW CX X E)
  (a:(x == ("__debug__":Str))=false:=by decide):PE X (.Call (.Name x p) [] [] pos) (b6B C sp dvs E a5K):=by
 intro b s j H Q I h
 refine Xu (nA I d e ?_ a)
 exact W.callWith_K0 I.kIn M.kp (zF (us:=[]) M F c g hd i I .nil h)
end
section
variable {ks:List Str}{E:XK}{m:Str}{apos kpos:Pos}{o:Expr}{kws:List Keyword}{tk:TA}{nm:Option Str}{g:List Value->List Value->List Value}{gV:List V->List V->List V}
end
structure jO (N P:List Str)(sc:Scope):Prop where
 kind:sc.kind= .function
 co:sc.isCoroutine=false
 gen:sc.isGenerator=false
 nd:N.Nodup
 pre:N.take P.length=P
 par:∀x∈P,sc.names.lookup x=some .local\/sc.names.lookup x=some .cell
 nofree:∀y∈sc.names,y.2≠ .free
theorem vQ:∀{binds:List (Str×Value)}{m:Str->Option Value},(∀v,(x,v)∉binds)->bindL kindOf binds m x=m x
 |[],_,_=>rfl
 | (n,v)::r,m,h=>by
  unfold bindL
  rw[vQ λw hw=>h w (Yv _ hw)]
  split
  ·have:x≠n:=by rintro rfl;exact h v YC
   simp[this]
  ·rfl
theorem vV:∀{binds:List (Str×Value)}{m:Str->Option Value},(∀v,(x,v)∉binds)->bindC kindOf binds m x=m x
 |[],_,_=>rfl
 | (n,v)::r,m,h=>by
  unfold bindC
  rw[vV λw hw=>h w (Yv _ hw)]
  split
  ·rfl
  ·have:x≠n:=by rintro rfl;exact h v YC
   simp[this]
theorem vU:∀{P:List Str}{vs:List Value}{i:Nat}{m:Str->Option Value},P.Nodup->P[i]? =some x->vs[i]? =some v->kindOf x=some .local->
  bindL kindOf (P.zip vs) m x=some v
 |[],_,_,_,_,h,_,_=>by simp at h
 |_::_, [],_,_,_,_,h,_=>by simp at h
 | p::P,w::vs,0,m,nd,h1,h2,hk=>by
  simp at h1 h2;subst h1;subst h2
  show bindL kindOf ((p,w)::P.zip vs) m p=_
  unfold bindL
  rw[vQ λv hv=>(YQ.mp nd).1 (Jq hv).1,if_pos hk]
  simp
 | p::P,w::vs,i+1,m,nd,h1,h2,hk=>by
  show bindL kindOf ((p,w)::P.zip vs) m x=_
  unfold bindL
  exact vU (i:=i) (YQ.mp nd).2 (by simpa using h1) (by simpa using h2) hk
theorem vW:∀{P:List Str}{vs:List Value}{i:Nat}{m:Str->Option Value},P.Nodup->P[i]? =some x->vs[i]? =some v->kindOf x≠some .local->
  bindC kindOf (P.zip vs) m x=some v
 |[],_,_,_,_,h,_,_=>by simp at h
 |_::_, [],_,_,_,_,h,_=>by simp at h
 | p::P,w::vs,0,m,nd,h1,h2,hk=>by
  simp at h1 h2;subst h1;subst h2
  show bindC kindOf ((p,w)::P.zip vs) m p=_
  unfold bindC
  rw[vV λv hv=>(YQ.mp nd).1 (Jq hv).1,if_neg hk]
  simp
 | p::P,w::vs,i+1,m,nd,h1,h2,hk=>by
  show bindC kindOf ((p,w)::P.zip vs) m x=_
  unfold bindC
  exact vW (i:=i) (YQ.mp nd).2 (by simpa using h1) (by simpa using h2) hk
def start (N:List Str)(vs:List V):St:=vs.map some++List.replicate (N.length-vs.length) none
def tK (CX:CXT)(P:Program)(w:World)(K:W.Frag)(mg:Str->Option Value)(base:Heap)(N:List Str)(qual:Str)(scope:Scope)(f:Addr)(cd:Value)(A:Around)(outer:List Env)(s:Shared)(H:Hp)(E:XK):Cx where
 prog:=P
 w:=w
 K:=K
 mg:=mg
 base:=base
 A:=A.deeper (envOfC qual scope s.heap.objs.size f cd)
 N:=N
 s₀:=s
 H₀:=H
 env:=envOfC qual scope s.heap.objs.size f cd
 outer:=outer
 stack:=envOfC qual scope s.heap.objs.size f cd::outer
 ex:=[]
 calm:=true
 fn:=λ_=>true
 pn:=[]
 xe:=λe s'=>wpAny (model P w) (A.deeper (envOfC qual scope s.heap.objs.size f cd)) (leaving (envOfC qual scope s.heap.objs.size f cd) e) (λ_ s''=>CX outer H s E e s'') (λe' s''=>CX outer H s E e' s'') s'
def a0T {a:Scope}{n:Nat}(h:a.names.lookup x=some .cell):∃c,(cellsFrom n a.names []).lookup x=some c:=by
 have q:=W.cellsFrom_some a.names n [] (.inl h)
 exact Option.isSome_iff_exists.mp q
theorem vH {CX:CXT}{P:Program}{w:World}{K:W.Frag}{mg:Str->Option Value}{base:Heap}{N ps:List Str}{qual:Str}{scope:Scope}{f:Addr}{cd:Value}{A:Around}{outer:List Env}{s s1:Shared}{H:Hp}{E:XK}{us:List Value}{vs:List V}
  (S:jO N ps scope) (hd:A.handled=none) (e0:uF P w K mg base A outer s H) (hl:vs.length=ps.length) (r:Vals vs us)
  (x:InCallC s s.heap.objs.size (bindL (envOfC qual scope s.heap.objs.size f cd).kindOf (ps.zip us) λ_=>none) (cellsFrom (s.heap.objs.size+1) scope.names []) (bindC (envOfC qual scope s.heap.objs.size f cd).kindOf (ps.zip us) λ_=>none) s1) :
  Inv (tK CX P w K mg base N qual scope f cd A outer s H E) [] (start N vs) H s1:=by
 have C:ps.length<=N.length:=by have:=YU List.length S.pre;rw[Yj]at this;lia
 obtain⟨m,G,rfl,t⟩:=x.done
 have g:∀b:Addr,b∉(tK CX P w K mg base N qual scope f cd A outer s H E).ex:=λb z=>absurd (show b∈([]:List Addr) from z) (by simp)
 refine⟨⟨e0.mod,S.kind,rfl,rfl,Yd _,λy z c m d=>?_,λy hy=>?_,λy c _ h=>?_,λ_=>hd,Around.frames_deeper e0.frames,.inr ⟨rfl,rfl⟩,λb z=>absurd z (g b),e0.bs,e0.bsz,λb _ _=>g b,λb z=>absurd z (g b),e0.funs,e0.frf⟩,
  rfl,e0.bare,Un.kept t,⟨_,x.toInCall.ns,λi y v m d I=>?_⟩,λy c h=>⟨_,x.cell y c h⟩,e0.hok.fresh (Yd _),λy c h=>?_,λp j=>absurd (show p∈([]:List (Addr×Obj)) from j) (by simp),e0.hok.kept t,?_⟩
 ·exact name_of_addr x.apart (Xa m) (Xa d)
 ·have hy:scope.names.lookup y=some .cell\/scope.names.lookup y=some .free:=hy
  rcases hy with hy | hy
  ·exact a0T hy
  ·exact absurd rfl (S.nofree _ (Xa hy))
 ·exact XD (x.above y c (Xa h))
 ·have o:i<vs.length:=by
   unfold start at d
   by_cases o:i<vs.length
   ·exact o
   ·rw[Yy (by simpa using o)]at d
    rw[List.getElem?_replicate]at d
    split at d <;> cases d
  have D:vs[i]? =some v:=by
   unfold start at d
   rw[YF (by simpa using o),Yl]at d
   cases e:vs[i]? with
   |none=>rw[e]at d;cases d
   |some a=>rw[e]at d;cases d;rfl
  obtain⟨u,B,F⟩:=r.get D
  have j:ps[i]? =some y:=by
   rw[<-S.pre,Y9 (by lia)];exact m
  have l:ps.Nodup:=by rw[<-S.pre];exact S.nd.sublist (List.take_sublist _ _)
  refine⟨u,F,?_⟩
  rcases S.par y (Yx j) with k | k
  ·exact .inl ⟨k,vU l j B k⟩
  ·obtain⟨c,e⟩:=a0T (n:=s.heap.objs.size+1) k
   refine .inr ⟨.inl k,c,e,?_⟩
   have q:=x.cell y c e
   rw[vW l j B (by show scope.names.lookup y≠_;rw[k];decide)]at q
   exact q
 ·exact e0.hok.fresh (XD (x.above y c (Xa h)))
 ·unfold start
  show _=N.length
  rw[Yc,Ya,YA]
  lia
theorem c2R {CX:CXT}{P:Program}{w:World}{K:W.Frag}{mg:Str->Option Value}{base:Heap}{k:Nat}{f:Addr}{name qual:Str}{params:Arguments}{body:List Stmt}{scope:Scope}{dV kV doc pm cdv ct oc:Value}{an od:Option Addr}
  {osl:Array (Option Value)} {N ps:List Str} {sp:Sp} (lk:K.lookup f=some ⟨oc,od,.func (W.fnOf name qual params body scope dV kV doc pm an cdv ct),osl⟩) (hcd:W.codeIn K cdv qual=true) (S:jO N ps scope)
  (len:∀vs H Q E,sp vs H Q E->vs.length=ps.length)
  (hbody:∀(A:Around)(outer:List Env)(s:Shared)(H:Hp)(vs:List V)(Q:VK)(E:XK),fB k (A.deeper (envOfC qual scope s.heap.objs.size f cdv))->sp vs H Q E->
   ∃t,PSs (tK CX P w K mg base N qual scope f cdv A outer s H E) body t/\t { nx:=λ_ H'=>Q .non H',rt:=Q } (start N vs) H) :
  iV P w K mg base CX (k+1) f (W.fnOf name qual params body scope dV kV doc pm an cdv ct) ps sp:=by
 refine⟨len,λA outer s H p C vs Q E i g D r h=>?_⟩
 have F:=len _ _ _ _ h
 have z:K.In s.heap:=g.mod.kin.keeps λb o e=>(g.bs b o e).1
 have j:s.heap.NoLimit:=g.mod.nolimit.keeps λb o e=>(g.bs b o e).1
 have c:∀y∈ps.zip C,scope.names.lookup y.1=some .local\/(scope.names.lookup y.1=some .cell/\((cellsFrom (s.heap.objs.size+1) scope.names []).lookup y.1).isSome=true):=λ⟨n,v⟩ G=>by
  rcases S.par n (Jq G).1 with q | q
  ·exact .inl q
  ·exact .inr ⟨q,W.cellsFrom_some _ _ _ (.inl q)⟩
 refine codeAny_call_function i.depth (z _ _ lk) rfl S.co S.gen rfl (W.codeRec_of z hcd) (D _ _ _ _ ?_)
 refine wpAny_newFunctionEnv_cells S.kind c λL M B x=>?_
 subst M
 refine⟨j.keeps x.toInCall.keep,codeAny_func ?_⟩
 obtain⟨t,O,R⟩:=hbody A outer s H vs Q E (i.deeper _) h
 have I:Inv (tK CX P w K mg base N qual scope f cdv A outer s H E) [] (start N vs) H B:=vH S i.hd g F r x
 refine Y6 (O [] B (start N vs) H _ I R) (λfl l d=>?_) λe l d=>d
 have fin:∀{a:St}{H':Hp}{v:V}{u:Value},Inv (tK CX P w K mg base N qual scope f cdv A outer s H E) [] a H' l->RelV v u->Q v H'->CE outer P w H s Q u l:=
  λ{a H' v u} J m q=>⟨v,H',J.os,J.bare,J.base,J.hok,m,q⟩
 cases fl with
 | ret u=>
  obtain⟨v,a,H',J,m,q⟩:=d
  exact fin J m q
 | next=>
  obtain⟨a,H',J,q⟩:=d
  exact fin (v:=V.non) (u:=Value.none) J rfl q
 | brk=>
  obtain⟨_,_,_,q⟩:=d
  exact False.elim q
 | cont=>
  obtain⟨_,_,_,q⟩:=d
  exact False.elim q
section
variable {id T:String}{r:List V->Hp->VK->Prop}
def tCB (r:List V->Hp->VK->Prop)(t:TA):TE:=λa H Q=>t a H λb c=>r b c Q
theorem aX (f:fY X (.builtin id) r)(g:Gl X x)(i:X.mg x=none)(j:bootBuiltins x=some (.builtin id))(k:PA X (e::es) t)(l:x≠"__name__":=by decide)(b:(x == ("__debug__":Str))=false:=by decide)
  (m:starEach (e::es) X.env=(false,eval e X.env)::starEach es X.env:=by rfl) (c:(backTo pos (starEach es X.env)).any (·.1)=false:=by rfl):PE X (.Call (.Name x p) (e::es) [] pos) (tCB r t):=by
 intro a s d H Q I h
 refine Xu (pU I g i j ?_ l b)
 exact PyProof.Rows.callWith_builtin1 (thn (k pos a s d H _ I h) λn o ⟨q,u,v,w,y⟩=>f a o d u q n Q v w y) m c
theorem jP (f:fY X (.type T) r)(g:Gl X x)(i:X.mg x=none)(j:bootBuiltins x=some (.type T))(k:PA X (e::es) t)(l:x≠"__name__":=by decide)(b:(x == ("__debug__":Str))=false:=by decide)
  (m:starEach (e::es) X.env=(false,eval e X.env)::starEach es X.env:=by rfl) (c:(backTo pos (starEach es X.env)).any (·.1)=false:=by rfl):PE X (.Call (.Name x p) (e::es) [] pos) (tCB r t):=by
 intro a s d H Q I h
 refine Xu (pU I g i j ?_ l b)
 exact XV (thn (k pos a s d H _ I h) λn o ⟨q,u,v,w,y⟩=>f a o d u q n Q v w y) m c
end
end L2
namespace HT
open PySem PyProof.Rows
section
open PySem.SeqAt
open PySem.AutoSeq1 (wpAny_loadPart')
open PySem.MeetsSeq PySem.MeetsSeq2 PySem.MeetsSeq3
end
section
variable {prog:Program}{w:World}{A:Around}{E:Value->Shared->Prop}{s:Shared}
def sIx (n d:Nat):Option Int->Nat
 |none=>d
 |some v=>if v<0 then (v+(n:Int)).toNat else min v.toNat n
def sIx_none (n d:Nat):sIx n d none=d:=rfl
def sIx_nat (n d k:Nat):sIx n d (some (k:Int))=min k n:=by
 show (if (k:Int)<0 then ((k:Int)+(n:Int)).toNat else min (k:Int).toNat n)=min k n
 rw[if_neg (by lia),YR]
end
end HT
namespace L2
open PySem PySem.Spec PyProof.Rows
variable {α:Type}{pins:List (Addr×Obj)}{σ:St}{H:Hp}{s:Shared}{xs:List V}{A:Around}{x:V}{v:Value}{X:Cx}
abbrev TO:=St->Hp->(Option Int->Hp->Prop)->Prop
def PO (X:Cx)(e:Option Expr)(t:TO):Prop:=
 ∀ (pins:List (Addr×Obj))(s:Shared)(σ:St)(H:Hp)(Q:Option Int->Hp->Prop),Inv X pins σ H s->t σ H Q->
  wpAny (model X.prog X.w) X.A (evalPart e X.env) (λu a=>∃o H',Inv X pins σ H' a/\IsPart u o/\Q o H') X.xe s
def b2P:TO:=λ_ H Q=>Q none H
def c1A (t:TE):TO:=λa H Q=>t a H λx b=>∃i,x= .int i/\Q (some i) b
def intsAre_of {ns:List Int}:∀{us:List Value},Vals (ns.map V.int) us->IntsAre us ns:=by
 induction ns with
 |nil=>intro us r;rw[List.map_nil]at r;cases r;exact .nil
 | cons n ns ih=>
  intro us r
  rw[YK]at r
  cases r with
  | cons r1 r2=>
   obtain⟨t,e⟩:=r1
   subst e
   exact .cons n t (ih r2)
section
variable {e:Expr}{te:TE}{lo hi:Option Expr}{tl th:TO}{pos p2:Pos}
def qQ:PO X none b2P:=by
 intro a s b H Q I h
 rw[evalPart_none]
 exact Xc ⟨none,H,I,.none,h⟩
def b3Z (h:PE X e te):PO X (some e) (c1A te):=by
 intro a s c H Q I d
 rw[evalPart_some]
 refine thn (h a s c H _ I d) λu l b=>?_
 obtain⟨x,f,g,j,k⟩:=b
 obtain⟨i,rfl,q⟩:=k
 obtain⟨t,rfl⟩:=j
 exact⟨some i,f,g,.int i t,q⟩
def SlR (X:Cx)(r:V->Option Int->Option Int->Hp->VK->Prop):Prop:=
 ∀ (pins:List (Addr×Obj))(s:Shared)(σ:St)(H:Hp)(x:V)(v vl vu:Value)(lo hi:Option Int)(sl:Addr)(Q:VK),Inv X pins σ H s->RelV x v->s.heap.IsSliceOf sl vl vu .none->IsPart vl lo->IsPart vu hi->r x lo hi H Q->
  ∃T id,typeLookup (.type T) "__getitem__"=pure (some (.builtin id))/\s.TypeIs v T/\wpAny (model X.prog X.w) X.A (getItem v (.ref sl)) (EP X pins σ Q) X.xe s
def tSl (r:V->Option Int->Option Int->Hp->VK->Prop)(b:TE)(c d:TO):TE:=λa H Q=>b a H λx e=>c a e λl f=>d a f λu g=>r x l u g Q
def jU {r:V->Option Int->Option Int->Hp->VK->Prop}(k:SlR X r)(m:PE X e te)(n:PO X lo tl)(o:PO X hi th):PE X (.Subscript e (.Slice lo hi none p2) pos) (tSl r te tl th):=by
 intro a s d H Q I h
 refine Subscript_ (thn (m a s d H _ I h) λv p i=>?_)
 obtain⟨x,t,y,z,B⟩:=i
 refine wpAny_Slice (thn (n a p d t _ y B) λf C ⟨l,D,E,pl,F⟩=>thn (o a C d D _ E F) λg c ⟨u,j,G,J,K⟩=>?_)
 rw[evalPart_none]
 refine Xc ?_
 have L:Inv X a d j { c with heap:=c.heap.push { cls:= .type "slice",data:= .fields #[f,g,.none] } }:=G.kept (t':=c.toks) λb P q=>Yk _ q
 obtain⟨T,R,M,N,O⟩:=k a { c with heap:=c.heap.push { cls:= .type "slice",data:= .fields #[f,g,.none] } } d j x v f g l u c.heap.objs.size Q L z (Heap.IsSliceOf.new ..) pl J K
 show wpAny (model X.prog X.w) X.A (subscriptTail e (.Slice lo hi none p2) v (.ref c.heap.objs.size)) (EP X a d Q) X.xe { c with heap:=c.heap.push { cls:= .type "slice",data:= .fields #[f,g,.none] } }
 exact tail_any (ops:=[.ref c.heap.objs.size,v]) N M O (by with_unfolding_all rfl)
def kZ (xs:List V)(lo a:Option Int):List V:=(xs.drop (HT.sIx xs.length 0 lo)).take (HT.sIx xs.length xs.length a-HT.sIx xs.length 0 lo)
def a0R (xs:List V)(lo a:Option Int):(kZ xs lo a).length<=xs.length:=by
 unfold kZ
 rw[Yj,Xp]
 lia
end
def ixN (n:Nat)(i:Int):Option Nat:=if 0<=i then (if i<n then some i.toNat else none) else if -(n:Int)<=i then some (i+n).toNat else none
def atI {a:Type}(xs:List a)(i:Int):Option a:=(ixN xs.length i).bind λj=>xs[j]?
def a4K {n:Nat}{i:Int}{j:Nat}(h:ixN n i=some j):seqIndex? i n=some j/\j<n/\ -(n:Int)<=i/\i<n:=by
 unfold ixN at h
 by_cases h0:0<=i
 ·rw [if_pos h0]at h
  by_cases h1:i<n
  ·rw[if_pos h1]at h
   have e:i.toNat=j:=Yp h
   exact⟨by rw[seqIndex_of h0 h1,e],by lia,by lia,h1⟩
  ·rw[if_neg h1]at h;cases h
 ·rw [if_neg h0]at h
  by_cases h1: -(n:Int)<=i
  ·rw[if_pos h1]at h
   have e:(i+n).toNat=j:=Yp h
   exact⟨by rw[seqIndex_neg (by lia) h1,e],by lia,h1,by lia⟩
  ·rw[if_neg h1]at h;cases h
def a5C {xs:List α}{i:Int}{v:α}(h:atI xs i=some v):∃j,seqIndex? i xs.length=some j/\xs[j]? =some v/\j<xs.length/\ -(xs.length:Int)<=i/\i<xs.length:=by
 unfold atI at h
 cases e:ixN xs.length i with
 |none=>rw[e]at h;cases h
 | some j=>
  rw[e]at h
  obtain⟨a,b,c,d⟩:=a4K e
  exact⟨j,a,h,b,c,d⟩
def eV {xs:List α}{j:Nat}{v:α}(h:xs[j]? =some v):atI xs (j:Int)=some v:=by
 have a:j<xs.length:=(Ye.mp h).1
 have e:ixN xs.length (j:Int)=some j:=by
  unfold ixN
  rw[if_pos (by lia),if_pos (by lia)];simp
 unfold atI;rw[e];exact h
def b5R (b:Expr):Prop:=∀o i,subscripted b false o i=operate [o,i] (getItem o i)
def IxR (X:Cx)(r:R2):Prop:=
 ∀ (value slice:Expr)(pins:List (Addr×Obj))(s:Shared)(σ:St)(H:Hp)(x y:V)(v u:Value)(Q:VK),Inv X pins σ H s->RelV x v->RelV y u->r x y H Q->
  subscripted slice false v u=operate [v,u] (getItem v u)->wpAny (model X.prog X.w) X.A (subscriptTail value slice v u) (EP X pins σ Q) X.xe s
def MtR (X:Cx)(a:String)(r:V->List V->Hp->VK->Prop):Prop:=
 ∀ (pins:List (Addr×Obj))(s:Shared)(σ:St)(H:Hp)(x:V)(xs:List V)(v:Value)(us:List Value)(Q:VK),Inv X pins σ H s->RelV x v->Vals xs us->r x xs H Q->
  wpAny (model X.prog X.w) X.A (call (.builtin a) (v::us)) (EP X pins σ Q) X.xe s
section
variable {a b:Expr}{ta tb:TE}{pos:Pos}
def bL {r:R2}(d:IxR X r)(e:PE X a ta)(f:PE X b tb)(g:b5R b):PE X (.Subscript a b pos) (tOp r ta tb):=by
 intro c s i H Q I h
 exact Subscript_ (c0L e f I h λv u j x y k l m n q=>d a b c j i k x y v u Q l m n q (g _ _))
def c4E (K:W.Frag):R2:=λx y H Q=>∃p xs i v,x= .ref p/\y= .int i/\SqL K H p xs/\atI xs i=some v/\Q v H
def c4D (K:W.Frag):R2:=λx y H Q=>∃p xs i v,x= .ref p/\y= .int i/\SqT K H p xs/\atI xs i=some v/\Q v H
def b4V:IxR X (c4E X.K):=by
 intro c d a s k H x y v u Q I n o h l
 obtain⟨p,xs,i,z,rfl,rfl,A,B,q⟩:=h
 cases n
 obtain⟨t,rfl⟩:=o
 obtain⟨e,r,pl,J⟩:=I.list A
 obtain⟨j,b,C,L,D,E⟩:=a5C B
 obtain⟨w,m,f⟩:=r.get C
 have F:=r.length
 have M:=wZ
 have fin:EP X a k Q w s:=⟨z,H,I,f,q⟩
 by_cases h0:0<=i
 ·have g:i.toNat=j:=by
   rw[seqIndex_of h0 E]at b
   exact Yp b
  exact item_listR pl.isList h0 (by lia) (by rw[g];simpa using m) fin l
 ·have g:(i+(e.toArray.size:Int)).toNat=j:=by
   rw[seqIndex_neg (by lia) D]at b
   rw[YB,<-F]
   exact Yp b
  exact subscriptTail_builtinR (x:=w) pl.isList.typeIs slot_list_getitem.lookup
   (wpAny_getItem_list_neg (Q:=λr G=>r=w/\EP X a k Q r G) pl.isList (by lia) (by rw[YB] <;> lia) (by lia) (by rw[g];simpa using m) ⟨rfl,fin⟩) l
def b9O:IxR X (c4D X.K):=by
 intro b c a s e H x y v u Q I f g h k
 obtain⟨p,xs,i,z,rfl,rfl,l,m,q⟩:=h
 cases f
 obtain⟨t,rfl⟩:=g
 obtain⟨n,r,pl,E⟩:=I.tuple l
 obtain⟨j,o,A,F,G,J⟩:=a5C m
 obtain⟨w,B,d⟩:=r.get A
 have C:=r.length
 have L:=wZ
 have fin:EP X a e Q w s:=⟨z,H,I,d,q⟩
 exact subscriptTail_builtinR (x:=w) pl.typeIs slot_tuple_getitem.lookup
  (getItem_tuple (j:=j) (Q:=λr D=>r=w/\EP X a e Q r D) pl (by lia) (by lia) (by rw[YB,<-C];exact o) (by simpa using B) ⟨rfl,fin⟩) k
def a2G (a:List Value)(n j:Nat)(u:Value):Obj.mapSeq (·.setIfInBounds j u) { cls:= .type "list",data:= .seq a.toArray n }={ cls:= .type "list",data:= .seq (a.set j u).toArray n }:=by
 simp[Obj.mapSeq]
def Inv.lst {p:Addr}(I:Inv X pins σ H s)(h:H p=some (.lst xs)):
  ∃(its:List Value)(n:Nat),Vals xs its/\s.heap.get? p=some { cls:= .type "list",data:= .seq its.toArray n }/\xs.length<=sizeLine:=by
 obtain⟨z,its,n,r,e⟩:=I.hok p _ h
 exact⟨its,n,r,e,z⟩
theorem Inv.lstUpd {a:List (Addr×Obj)}{σ:St}{H:Hp}{s:Shared}{p:Addr}{xs ys:List V}{c its':List Value}{n d:Nat}{f:Obj->Obj}(I:Inv X a σ H s)(h:H p=some (.lst xs))
  (i:s.heap.get? p=some { cls:= .type "list",data:= .seq c.toArray n }) (g:f { cls:= .type "list",data:= .seq c.toArray n }={ cls:= .type "list",data:= .seq its'.toArray d }) (r:Vals ys its') (j:ys.length<=sizeLine) (t:Nat) :
  Inv X a σ (upd H p (.lst ys)) { s with heap:=s.heap.update p f,toks:=t }:=by
 have e:(s.heap.update p f).get? p=some { cls:= .type "list",data:= .seq its'.toArray d }:=by
  rw[Heap.get?_update_self f i (by rw[g] <;> rfl),g]
 refine I.write (x:=p) (e:=p) (by rw[h];trivial) (.inl rfl) (λb u k q=>(Heap.get?_update_other _ _ (Va k)).trans q) ⟨_,e⟩ ?_
 exact⟨j,its',d,r,e⟩
def c1M:V->V->V->Hp->(Hp->Prop)->Prop:=λo i v H Q=>∃p xs k j,o= .ref p/\i= .int k/\H p=some (.lst xs)/\ixN xs.length k=some j/\Q (upd H p (.lst (xs.set j v)))
def set_list:c0Q X c1M:=by
 intro a s x H o i v D E u Q I y z A h
 obtain⟨p,xs,k,j,rfl,rfl,g,B,q⟩:=h
 cases y
 obtain⟨t,rfl⟩:=z
 obtain⟨b,n,r,d,C⟩:=I.lst g
 obtain⟨c,F,l,m⟩:=a4K B
 have e:=r.length
 have G:=wZ
 have w:Inv X a x (upd H p (.lst (xs.set j v))) { s with heap:=s.heap.update p (Obj.mapSeq (·.setIfInBounds j u)) }:=
  I.lstUpd g d (a2G b n j u) (r.set A j) (by rw[Y8];exact C) s.toks
 by_cases h0:0<=k
 ·have f:k.toNat=j:=by
   rw[seqIndex_of h0 m]at c
   exact Yp c
  exact W.ki_setAt d h0 (by lia) (by rw[YB,<-e];exact m) (by rw[f];exact⟨_,w,q⟩)
 ·have f:(k+(b.toArray.size:Int)).toNat=j:=by
   rw[seqIndex_neg (by lia) l]at c
   rw[YB,<-e]
   exact Yp c
  exact W.ki_setBack d (by lia) (by rw[YB,<-e];exact l) (by lia) (by rw[f];exact⟨_,w,q⟩)
def wI (lo hi:Option Int)(n:Nat):(sliceBounds lo hi none n).1=((HT.sIx n 0 lo:Nat):Int)/\(sliceBounds lo hi none n).2.1=((HT.sIx n n hi:Nat):Int)/\(sliceBounds lo hi none n).2.2=1:=by
 refine⟨?_,?_,rfl⟩
 ·cases lo with
  |none=>simp[sliceBounds,HT.sIx]
  | some i=>
   simp only[sliceBounds,HT.sIx,Option.getD_none,show (1:Int) > 0 by decide,if_true]
   by_cases h:i<0
   ·simp only[h,if_true] <;> lia
   ·simp only[h,if_false] <;> lia
 ·cases hi with
  |none=>simp[sliceBounds,HT.sIx]
  | some i=>
   simp only[sliceBounds,HT.sIx,Option.getD_none,show (1:Int) > 0 by decide,if_true]
   by_cases h:i<0
   ·simp only[h,if_true] <;> lia
   ·simp only[h,if_false] <;> lia
def tY (a:List Value)(lo b:Option Int):slicePick a.toArray lo b none=((a.drop (HT.sIx a.length 0 lo)).take (HT.sIx a.length a.length b-HT.sIx a.length 0 lo)).toArray:=by
 obtain⟨c,d,e⟩:=wI lo b a.toArray.size
 unfold slicePick
 rw[c,d,e]
 simp only[sliceRange_one,pick_run,YB] <;> rfl
def c4B (K:W.Frag):V->Option Int->Option Int->Hp->VK->Prop:=λx b c H Q=>∃a xs,x= .ref a/\SqL K H a xs/\∀p,H p=none->Q (.ref p) (upd H p (.lst (kZ xs b c)))
def b3J:SlR X (c4B X.K):=by
 intro f s p H x v t u d e w Q I i j pl k h
 obtain⟨a,xs,rfl,l,q⟩:=h
 cases i
 obtain⟨m,r,g,n⟩:=I.list l
 have c:=r.length
 refine⟨"list",_,slot_list_getitem.lookup,g.isList.typeIs,?_⟩
 refine wpAny_getItem_list_slice g.isList j pl k .none (by simp) ?_ (by rw[YB] <;> lia)
 rw[tY,<-c]
 refine⟨.ref s.heap.objs.size,_,I.laid (t':=s.toks) (o:= .lst (kZ xs d e)) (λb y q=>Yk _ q) (Yd _) ?_,rfl,q _ (I.hok.fresh (Yd _))⟩
 exact⟨YS (a0R xs d e) n,_,0,(r.drop (HT.sIx xs.length 0 d)).take (HT.sIx xs.length xs.length e-HT.sIx xs.length 0 d),YG _ rfl⟩
def oZ:V->Bool
 |.non=>true
 |.bl _=>true
 |.int _=>true
 |.str _=>true
 |_=>false
def eqV:V->V->Bool
 |.non,.non=>true
 |.bl a,.bl b=>a == b
 |.bl a,.int b=>(if a then 1 else 0) == b
 |.int a,.bl b=>a == (if b then 1 else 0)
 |.int a,.int b=>a == b
 |.str a,.str b=>a == b
 |_,_=>false
def b9U {y:V}{u:Value}(ry:RelV y u)(rx:RelV x v)(fy:oZ y=true)(fx:oZ x=true):SeqAt.EqAt A s u v (eqV y x):=by
 cases y with
 | non=>
  cases ry
  cases x with
  |non=>cases rx;exact SeqAt.EqAt.same _
  |bl b=>cases rx;exact SeqAt.EqAt.none_bool b
  |int b=>obtain⟨t,rfl⟩:=rx;exact SeqAt.EqAt.none_int b t
  |str b=>obtain⟨t,rfl⟩:=rx;exact SeqAt.EqAt.none_str b t
  |_=>exact absurd (show false=true from fx) Yr
 | bl a=>
  cases ry
  cases x with
  |non=>cases rx;exact SeqAt.EqAt.bool_none a
  |bl b=>cases rx;exact SeqAt.EqAt.bool_bool a b
  |int b=>obtain⟨t,rfl⟩:=rx;exact SeqAt.EqAt.bool_int a b t
  |str b=>obtain⟨t,rfl⟩:=rx;exact SeqAt.EqAt.bool_str a b t
  |_=>exact absurd (show false=true from fx) Yr
 | int a=>
  obtain⟨c,rfl⟩:=ry
  cases x with
  |non=>cases rx;exact SeqAt.EqAt.int_none a c
  |bl b=>cases rx;exact SeqAt.EqAt.int_bool a c b
  |int b=>obtain⟨t,rfl⟩:=rx;exact SeqAt.EqAt.int_int a c b t
  |str b=>obtain⟨t,rfl⟩:=rx;exact SeqAt.EqAt.int_str a c b t
  |_=>exact absurd (show false=true from fx) Yr
 | str a=>
  obtain⟨c,rfl⟩:=ry
  cases x with
  |non=>cases rx;exact SeqAt.EqAt.str_none a c
  |bl b=>cases rx;exact SeqAt.EqAt.str_bool a c b
  |int b=>obtain⟨t,rfl⟩:=rx;exact SeqAt.EqAt.str_int a c b t
  |str b=>obtain⟨t,rfl⟩:=rx;exact SeqAt.EqAt.str_str a c b t
  |_=>exact absurd (show false=true from fx) Yr
 |_=>exact absurd (show false=true from fy) Yr
def eqU (x:V)(u:Value):Bool:=match u with
 |.none=>eqV .non x
 |.bool b=>eqV (.bl b) x
 |.int i _=>eqV (.int i) x
 |.str z _=>eqV (.str z) x
 |_=>false
def b1E {y:V}{u:Value}(r:RelV y u)(f:oZ y=true):eqU x u=eqV y x:=by
 cases y with
 |non=>cases r;rfl
 |bl b=>cases r;rfl
 |int i=>obtain⟨t,rfl⟩:=r;rfl
 |str z=>obtain⟨t,rfl⟩:=r;rfl
 |_=>exact absurd (show false=true from f) Yr
theorem xW:∀{xs:List V}{us:List Value},Vals xs us->xs.all oZ=true->us.any (eqU x)=xs.any λy=>eqV y x
 |_,_,.nil,_=>rfl
 | y::xs,u::us,.cons r t,f=>by
  rw[X7,XF]at f
  rw[Jo,Jo,b1E r f.1,xW t f.2]
theorem sV (rx:RelV x v)(fx:oZ x=true):∀{xs:List V}{us:List Value},Vals xs us->xs.all oZ=true->∀u∈us,SeqAt.EqAt A s u v (eqU x u)
 |_,_,.nil,_=>λu hu=>by cases hu
 | y::xs,u::us,.cons r t,f=>λu' hu=>by
  rw[X7,XF]at f
  rcases YL.mp hu with rfl | hu
  ·rw[b1E r f.1];exact b9U r rx f.1 fx
  ·exact sV rx fx t f.2 u' hu
def inV (x:V)(xs:List V):Bool:=xs.any λy=>eqV y x
def rIn (K:W.Frag)(a:Bool):R2:=λx y H Q=>∃p xs,y= .ref p/\(SqL K H p xs\/SqT K H p xs)/\oZ x=true/\xs.all oZ=true/\Q (.bl (if a then !inV x xs else inV x xs)) H
def wR:OpR X (compareOp .NotIn) (rIn X.K true):=by
 intro c s i H x y v u Q I d f h
 obtain⟨p,xs,rfl,hq,e,fs,q⟩:=h
 cases f
 rcases hq with hq | hq
 ·obtain⟨a,r,pl,g⟩:=I.list hq
  refine SeqAt.notIn_listAt (eqU x) pl.isList (λw b=>sV d e r fs w (by simpa using b)) ⟨.bl _,H,I,rfl,?_⟩
  rw[show a.toArray.any (eqU x)=a.any (eqU x) by simp,xW r fs]
  exact q
 ·obtain⟨a,r,pl,g⟩:=I.tuple hq
  refine SeqAt.notIn_tupleAt (eqU x) pl (λw b=>sV d e r fs w (by simpa using b)) ⟨.bl _,H,I,rfl,?_⟩
  rw[show a.toArray.any (eqU x)=a.any (eqU x) by simp,xW r fs]
  exact q
def xQ:fY X (.builtin "len") (λxs H Q=>∃p ys,xs= [.ref p]/\(SqL X.K H p ys\/SqT X.K H p ys)/\Q (.int ys.length) H):=by
 intro d s g H xs i Q I r h
 obtain⟨p,ys,rfl,hq,q⟩:=h
 obtain⟨u,rfl,e⟩:=vals1 r
 cases e
 have j:=wZ
 rcases hq with hq | hq
 ·obtain⟨b,c,pl,f⟩:=I.list hq
  have a:=c.length
  exact Calls.call_len_list pl.isList (by simp only[YB] <;> lia) ⟨.int ys.length,H,I.tok _,⟨s.toks+1,by rw[YB,a]⟩,q⟩
 ·obtain⟨b,c,pl,f⟩:=I.tuple hq
  have a:=c.length
  exact len_tuple pl (by simp only[YB] <;> lia) ⟨.int ys.length,H,I.tok _,⟨s.toks+1,by rw[YB,a]⟩,q⟩
def xP:fY X (.type "list") (λxs H Q=>∃p ys,xs= [.ref p]/\(SqL X.K H p ys\/SqT X.K H p ys)/\∀l,H l=none->Q (.ref l) (upd H l (.lst ys))):=by
  intro g s t H xs x Q I r h
  obtain⟨p,ys,rfl,hq,q⟩:=h
  obtain⟨u,rfl,v⟩:=vals1 r
  cases v
  have fin:∀(a:List Value),Vals ys a->ys.length<=sizeLine->∀(c:Heap)(d:Nat),(∀b o',s.heap.get? b=some o'->c.get? b=some o')->
      c.get? s.heap.objs.size=some { cls:= .type "list",dict:=none,data:= .seq a.toArray d,slots:=#[] }->EP X g t Q (.ref s.heap.objs.size) { s with heap:=c }:=λa f i c d kp e=>
    ⟨.ref s.heap.objs.size,_,I.laid (t':=s.toks) kp (Yd _) (show fC X.prog X.w _ c _ (.lst ys) from ⟨i,a,d,f,e⟩),rfl,q _ (I.hok.fresh (Yd _))⟩
  rcases hq with hq | hq
  · obtain⟨a,f,pl,i⟩:=I.list hq
    have j:=f.length
    obtain⟨o,k,m,n,hd⟩:=pl.isList
    exact call_list_seq p (.inl rfl) k m hd (λc d kp e=>fin a f i c d kp e) (by simp only[YB] <;> lia)
  · obtain⟨a,f,pl,i⟩:=I.tuple hq
    have j:=f.length
    obtain⟨o,k,m,n,hd⟩:=pl
    exact call_list_seq p (.inr rfl) k m hd (λc d kp e=>fin a f i c d kp e) (by simp only[YB] <;> lia)
def tyV (K:W.Frag)(T:String)(x:V)(H:Hp):Prop:=match x with
  |.str _=>T="str"
  |.int _=>T="int"
  | .ref p=>(T="list"/\∃xs,SqL K H p xs)\/(T="tuple"/\∃o,K.lookup p=some o/\o.cls= .type "tuple"/\o.dict=none)\/
      (T="dict"/\((∃kvs,H p=some (.dK kvs))\/∃kvs,H p=some (.dT kvs)))\/(T="set"/\∃S n,H p=some (.set S n))
  |_=>False
def a7O {T:String}(I:Inv X pins σ H s)(r:RelV x v)(ty:tyV X.K T x H):
  s.TypeIs v T/\∀a,v= .ref a->∃ob,s.heap.get? a=some ob/\ob.dict=none:=by
 cases x with
 | str z=>
  obtain⟨t,rfl⟩:=r
  cases (show T="str" from ty)
  exact⟨typeIs_str s z t,λ_ e=>nomatch e⟩
 | int i=>
  obtain⟨t,rfl⟩:=r
  cases (show T="int" from ty)
  exact⟨typeIs_int s i t,λ_ e=>nomatch e⟩
 | ref p =>
  cases r
  rcases ty with ⟨rfl,xs,g⟩ | ⟨rfl,o,b,h,hd⟩ | ⟨rfl,b⟩ | ⟨rfl,S,n,b⟩
  ·obtain⟨j,_,pl,_⟩:=I.list g
   refine⟨pl.isList.typeIs,λa e=>?_⟩
   cases e
   obtain⟨o,n,e,c,hd,_⟩:=pl
   exact⟨o,e,hd⟩
  ·refine⟨⟨o,I.kIn p o b,h⟩,λa e=>?_⟩
   cases e
   exact⟨o,I.kIn _ o b,hd⟩
  ·have z:∃o,s.heap.get? p=some o/\o.ExactDict:=by
    rcases b with ⟨d,b⟩ | ⟨d,b⟩
    ·obtain⟨_,_,_,_,o,_,_,e,ex,_⟩:=I.hok p _ b
     exact⟨o,e,ex⟩
    ·obtain⟨_,_,_,_,o,_,_,e,ex,_⟩:=I.hok p _ b
     exact⟨o,e,ex⟩
   obtain⟨o,e,ex⟩:=z
   refine⟨⟨o,e,ex.1⟩,λa f=>?_⟩
   cases f
   exact⟨o,e,ex.2.1⟩
  ·obtain⟨o,_,_,_,e,ex,_⟩:=I.hok p _ b
   refine⟨⟨o,e,ex.1⟩,λa f=>?_⟩
   cases f
   exact⟨o,e,ex.2.1⟩
 |_=>exact False.elim ty
def c3W (K:W.Frag)(T:String)(r:V->List V->Hp->VK->Prop)(to:TE):TE:=λb H Q=>to b H λx a=>tyV K T x a/\r x [] a Q
def tBM (K:W.Frag)(T:String)(r:V->List V->Hp->VK->Prop)(to:TE)(t:TA):TE:=λa H Q=>to a H λx b=>tyV K T x b/\t a b λxs c=>r x xs c Q
variable {o e:Expr}{es:List Expr}{to:TE}{t:TA}{name:Str}{apos cpos:Pos}{T id:String}{r:V->List V->Hp->VK->Prop}
theorem b8L (k:PlainAttrs T)(d:Slot T name id)(e:typeOf (.builtin id)=pure (.type "method_descriptor"))(l:MtR X id r)(m:PE X o to)
  (b:attributeBase o name X.env (eval o X.env)=eval o X.env:=by rfl) (c:(apos.endLine == cpos.line)=true:=by rfl):PE X (.Call (.Attribute o name apos) [] [] cpos) (c3W X.K T r to):=by
 intro a s g H Q I h
 refine wpAny_Call_method0_late b c (thn (m a s g H _ I h) λv n f=>?_)
 obtain⟨x,p,i,j,q,t⟩:=f
 obtain⟨u,w⟩:=a7O i j q
 exact⟨T,id,k,d,e,u,w,Calls.callWith_builtin rfl (PySem.evalArgs_none (l a n g p x [] v [] Q i j .nil t))⟩
theorem a9R (p:PlainAttrs T)(f:Slot T name id)(i:typeOf (.builtin id)=pure (.type "method_descriptor"))(q:MtR X id r)(u:PE X o to)(w:PA X (e::es) t)
  (c:attributeBase o name X.env (eval o X.env)=eval o X.env:=by rfl)
  (g:((backTo cpos (starEach (e::es) X.env)).all (λx=>!x.1) && (backToKw cpos (keywordEach [] X.env)).all (λx=>x.1.isSome)
   && decide ((e::es).length+([]:List Keyword).length+(if ([]:List Keyword).isEmpty then 0 else 1)<30))=true:=by rfl)
  (d:(apos.endLine == cpos.line)=true:=by rfl) (y:starEach (e::es) X.env=(false,eval e X.env)::starEach es X.env:=by rfl) (b:(backTo cpos (starEach es X.env)).any (·.1)=false:=by rfl) :
  PE X (.Call (.Attribute o name apos) (e::es) [] cpos) (tBM X.K T r to t):=by
 intro a s j H Q I h
 refine wpAny_Call_method_late c g d rfl (thn (u a s j H _ I h) λv z k=>?_)
 obtain⟨x,A,l,m,B,C⟩:=k
 obtain⟨D,E⟩:=a7O l m B
 refine⟨T,id,p,f,i,D,E,?_⟩
 have n:=w cpos a z j A _ l C
 rw[y]at n ⊢
 refine Calls.callWith_builtin (by show (false || (backTo cpos (starEach es X.env)).any (·.1))=false;rw[b] <;> rfl) (Calls.evalArgs_plain ?_)
 exact thn n λF G ⟨J,L,M,N,O⟩=>q a G j L x J v F Q M m N O
end
def MtM (X:Cx)(a:String)(r:V->List V->Hp->VK->Prop):Prop:=
 ∀ (pins:List (Addr×Obj))(s:Shared)(σ:St)(H:Hp)(x:V)(xs:List V)(v:Value)(us:List Value)(Q:VK),Inv X pins σ H s->RelV x v->Vals xs us->r x xs H Q->
  wpAny (model X.prog X.w) X.A (call (.builtin a) (v::us)) (EP X pins σ Q) X.xe s
theorem Vals.one:∀{x:V}{us:List Value},Vals [x] us->∃u,us= [u]/\RelV x u
 |_,_,.cons r .nil=>⟨_,rfl,r⟩
theorem Vals.two:∀{x y:V}{us:List Value},Vals [x,y] us->∃u v,us= [u,v]/\RelV x u/\RelV y v
 |_,_,_,.cons r (.cons q .nil)=>⟨_,_,rfl,r,q⟩
theorem Vals.eraseIdx:∀{xs:List V}{us:List Value}(i:Nat),Vals xs us->Vals (xs.eraseIdx i) (us.eraseIdx i)
 |_,_,_,.nil=> .nil
 |_,_,0,.cons _ t=>t
 |_,_,i+1,.cons r t=> .cons r (Vals.eraseIdx i t)
theorem Vals.rep {us:List Value}(h:Vals xs us):∀k:Nat,Vals (List.replicate k xs).flatten (List.replicate k us).flatten
 |0=> .nil
 | k+1=>by
  rw[Xg,Xg,Xv,Xv]
  exact Vals.append h (Vals.rep h k)
theorem vC:∀(l:List α)(i:Nat),(l.eraseIdx i).length<=l.length
 |[],_=>Yd _
 |_::_,0=>XM _
 |_::r,i+1=>Nat.succ_le_succ (vC r i)
theorem foldl_rep (its:List Value):∀(k:Nat)(acc:List Value),
  List.foldl (λx1 x2=>x1++x2) acc.toArray (List.replicate k its.toArray)=(acc++(List.replicate k its).flatten).toArray
 |0,acc=>by simp
 | k +1,acc=>by
  have e:acc.toArray++its.toArray=(acc++its).toArray:=by simp
  have e2:(acc++its)++(List.replicate k its).flatten=acc++(List.replicate (k+1) its).flatten:=by
   rw[Xg,Xv,Ys]
  rw[<-e2,<-foldl_rep its k (acc++its),<-e,Xg,Y0]
section
variable {l b:Addr}{ys zs:List V}
theorem Inv.lset {a its':List Value}{n:Nat}{f:Array Value->Array Value}{t':Nat}(I:Inv X pins σ H s)(b:H l=some (.lst xs))
  (e:s.heap.get? l=some { cls:= .type "list",data:= .seq a.toArray n }) (c:f a.toArray=its'.toArray) (d:Vals ys its') (g:ys.length<=sizeLine) :
  Inv X pins σ (upd H l (.lst ys)) { s with heap:=s.heap.update l (Obj.mapSeq f),toks:=t' }:=by
 have q:=PySem.IsL.update e f
 rw[c]at q
 refine I.write (x:=l) (e:=l) (by rw[b];exact trivial) (.inl rfl) (λj u h i=>(Heap.get?_update_other s.heap (Obj.mapSeq f) (Va h)).trans i) ⟨_,q⟩ ?_
 exact⟨g,its',_,d,q⟩
def Inv.lnew {a:List Value}{t':Nat}(I:Inv X pins σ H s)(b:Vals ys a)(c:ys.length<=sizeLine):
  Inv X pins σ (upd H s.heap.objs.size (.lst ys)) { s with heap:=s.heap.push { cls:= .type "list",data:= .seq a.toArray },toks:=t' }:=
 I.laid (λ_ _ q=>Yk _ q) (Yd _) ⟨c,a,0,b,YG _ rfl⟩
def Inv.fresh (I:Inv X pins σ H s):H s.heap.objs.size=none:=I.hok.fresh (Yd _)
def Inv.lstM (I:Inv X pins σ H s)(a:H l=some (.lst xs)):xs.length<=sizeLine/\∃(its:List Value)(n:Nat),Vals xs its/\xs.length=its.length/\s.heap.get? l=some { cls:= .type "list",data:= .seq its.toArray n }:=by
 obtain⟨z,its,n,r,e⟩:=I.hok l _ a
 exact⟨z,its,n,r,r.length,e⟩
def zP {n:Nat}(h:n<=sizeLine):Builtin.List.listTooLong n=false:=by
 unfold Builtin.List.listTooLong
 exact Yu (by lia)
end
def b3S:V->List V->Hp->VK->Prop:=λx a H Q=>∃l xs y,x= .ref l/\a= [y]/\H l=some (.lst xs)/\xs.length<sizeLine/\Q .non (upd H l (.lst (xs++[y])))
def a6F:MtM X "list.append" b3S:=by
 intro b s i H x j v k Q I d f h
 obtain⟨l,xs,y,rfl,rfl,c,m,q⟩:=h
 cases d
 obtain⟨u,rfl,g⟩:=f.one
 obtain⟨z,a,n,r,o,e⟩:=I.lstM c
 refine call_meets F.slot_list_append ⟨_,e,rfl⟩ F.entry_list_append (F.args_list_append_2 _ _) (PySem.list_append l a.toArray n u (by rw[YB];lia)) ⟨e,?_⟩
 refine⟨.non,_,I.lset (its':=a++[u]) c e (by simp) (r.append (.cons g .nil)) ?_,rfl,q⟩
 rw[Yc,Yw]
 lia
def b3R:V->List V->Hp->VK->Prop:=λx a H Q=>∃l b xs zs,x= .ref l/\a= [.ref b]/\H l=some (.lst xs)/\H b=some (.lst zs)/\xs.length+zs.length<=sizeLine/\Q .non (upd H l (.lst (xs++zs)))
def a6E:MtM X "list.extend" b3R:=by
 intro g s A H x B v C Q I j k h
 obtain⟨l,b,xs,zs,rfl,rfl,i,m,D,q⟩:=h
 cases j
 obtain⟨u,rfl,o⟩:=k.one
 cases o
 obtain⟨z,c,n,r,E,e⟩:=I.lstM i
 obtain⟨G,a,p,t,w,y⟩:=I.lstM m
 have f:c.toArray.size+a.toArray.size<=sizeLine:=by rw[YB,YB];lia
 have d:¬ (!c.toArray.isEmpty && Builtin.List.listTooLong (c.toArray.size+a.toArray.size))=true:=by
  rw[zP f,Bool.and_false]
  exact Yr
 refine call_meets F.slot_list_extend ⟨_,e,rfl⟩ F.entry_list_extend (F.args_list_extend_2 _ _)
  (AutoSeq1.list_extend_list_list_0 l c.toArray n b a.toArray p d (by rw[YB];lia) (by lia)) ⟨e,y,?_⟩
 refine⟨.non,_,I.lset (its':=c++a) i e (by simp) (r.append t) ?_,rfl,q⟩
 rw[Yc]
 lia
def b8C:V->List V->Hp->VK->Prop:=λx a H Q=>∃l xs i k y,x= .ref l/\a= [.int i]/\H l=some (.lst xs)/\ -(2 ^ 63)<=i/\i<2 ^ 63/\seqIndex? i xs.length=some k/\xs[k]? =some y/\Q y (upd H l (.lst (xs.eraseIdx k)))
def b0D:MtM X "list.pop" b8C:=by
 intro c s D H x E v G Q I f g h
 obtain⟨l,xs,i,k,y,rfl,rfl,d,j,m,o,p,q⟩:=h
 cases f
 obtain⟨u,rfl,A⟩:=g.one
 obtain⟨t,rfl⟩:=A
 obtain⟨z,a,n,r,B,e⟩:=I.lstM d
 obtain⟨w,C,b⟩:=r.get p
 refine call_meets F.slot_list_pop ⟨_,e,rfl⟩ F.entry_list_pop (F.args_list_pop_2 _ _)
  (MeetsSeq.list_pop_at l a.toArray n i t k w (fitsIndex_both j m) (by rw[YB,<-B];exact o) (by rw[<-Array.getElem?_toList];exact C) (by rw[YB];lia)) ⟨e,?_⟩
 refine⟨y,_,I.lset (its':=a.eraseIdx k) d e ?_ (r.eraseIdx k) ?_,b,q⟩
 ·show a.toArray.eraseIdxIfInBounds k=(a.eraseIdx k).toArray
  rw[List.eraseIdxIfInBounds_toArray]
 ·have:=vC xs k
  lia
def c4F:R2:=λx y H Q=>∃l b xs zs,x= .ref l/\y= .ref b/\H l=some (.lst xs)/\H b=some (.lst zs)/\xs.length+zs.length<=sizeLine/\∀p,H p=none->Q (.ref p) (upd H p (.lst (xs++zs)))
def b8X:OpR X (binaryOp .Add) c4F:=by
 intro d s t H x y v u Q I f g h
 obtain⟨l,b,xs,zs,rfl,rfl,i,j,w,q⟩:=h
 cases f
 cases g
 obtain⟨z,c,n,r,A,e⟩:=I.lstM i
 obtain⟨B,a,C,k,m,o⟩:=I.lstM j
 refine PySem.P.add_list e o ?_ (by rw[YB,YB];lia)
 have p:c.toArray++a.toArray=(c++a).toArray:=by simp
 rw[p]
 exact⟨.ref _,_,I.lnew (t':=s.toks) (r.append k) (by rw[Yc];lia),rfl,q _ I.fresh⟩
def c4C:R2:=λx y H Q=>∃l k xs,x= .ref l/\y= .int k/\H l=some (.lst xs)/\ -(2 ^ 63)<=k/\k<2 ^ 63/\xs.length*k.toNat<=sizeLine/\
 ∀p,H p=none->Q (.ref p) (upd H p (.lst (List.replicate k.toNat xs).flatten))
def len_rep (xs:List α)(k:Nat):(List.replicate k xs).flatten.length=k*xs.length:=by
 induction k with
 |zero=>simp
 |succ k ih=>rw[Xg,Xv,Yc,ih,Nat.succ_mul,Nat.add_comm]
def b8U:OpR X (binaryOp .Mult) c4C:=by
 intro p s L H x y v u Q I A B h
 obtain⟨l,k,xs,rfl,rfl,C,D,E,w,q⟩:=h
 cases A
 obtain⟨t,rfl⟩:=B
 obtain⟨z,b,n,r,G,e⟩:=I.lstM C
 have d:b.toArray.size*k.toNat<=sizeLine:=by rw[YB,<-G];exact w
 have f:¬ b.toArray.size*k.toNat > (2 ^ 63-1) / 8:=by
  have:(sizeLine:Nat)<=(2 ^ 63-1) / 8:=by decide
  lia
 have g:¬ (!Builtin.List.listFitsIndex k)=true:=by
  rw[fitsIndex_both D E]
  exact Yr
 have c:¬ Builtin.List.listTooLong (b.toArray.size*k.toNat)=true:=by
  rw[zP d]
  exact Yr
 have i:List.foldl (λj o=>j++o) #[] (List.replicate (if b.toArray.isEmpty=true then 0 else k.toNat) b.toArray)=(List.replicate k.toNat b).flatten.toArray:=by
  have J:∀m:Nat,List.foldl (λj o=>j++o) #[] (List.replicate m b.toArray)=(List.replicate m b).flatten.toArray:=λm=>by
   have:=foldl_rep b m []
   rw[List.nil_append]at this
   exact this
  rw[J]
  cases b with
  |nil=>simp
  |cons a r'=>rw[if_neg (by simp)]
 refine wpAny_binaryOp_repeat_ref (T:="list") (U:="int") (by decide) ⟨_,e,rfl⟩ (λK=>typeIs_int K k t) noFill_list_mul F.fills_int_mul F.slot_int_rmul repeat_list F.slot_int_index.lookup
  (call_meets F.slot_int_rmul (typeIs_int s k t) F.entry_int_rmul (F.args_int_rmul_2 _ _) (int___rmul___int_list k t l b.toArray n)
   ⟨e,rfl,⟨_,e,rfl⟩,call_meets F.slot_list_mul ⟨_,e,rfl⟩ F.entry_list_mul (F.args_list_mul_2 _ _) (AutoListH.list___mul___list_int_3 l b.toArray n k t g f c) ⟨e,?_⟩⟩)
 rw[i]
 exact⟨.ref _,_,I.lnew (t':=s.toks) (r.rep k.toNat) (by rw[len_rep,Jg];exact w),rfl,q _ I.fresh⟩
section
variable {prog:Program}{w:World}{E:Value->Shared->Prop}
end
end L2
namespace Att
open PySem PySem.W PySem.Calls PyProof.Rows
def qJ {P:Params}{h:Heap}:∀(ns:List Int)(vs:List Value),WellAll P h vs (ns.map WData.int)->IntsAre vs ns:=by
 intro ns
 induction ns with
 | nil=>
  intro vs w
  rw[List.map_nil]at w
  cases w
  exact .nil
 | cons n ns ih=>
  intro vs w
  rw[YK]at w
  cases w with
  | cons a b=>
   cases a
   exact .cons _ _ (ih _ b)
theorem a5W {l:OpenLaw}{n:Nat}(hn:l.most=some n){P:Params}{h:Heap}{args:List WData}{vals:List Value}
  (hpre:l.row.toRowW.claim.pre args=true) (hwl:WellAll P h vals args) :
  ∃a vs ns,vals= [Value.ref a]/\args= [WData.list (ns.map WData.int)]/\h.get? a=some { cls:= .type "list",data:= .seq vs.toArray }/\IntsAre vs ns/\ns.length<=n:=by
 have f:WShape.hasAll [] args [.list .int]=true:=(pre_splitW hpre).1
 have g:l.pre.holds [] { args:=args }=true:=(pre_splitW hpre).2
 obtain⟨d,r,rfl,i,j⟩:=hasAllW_cons f
 obtain rfl:=hasAllW_nil j
 obtain⟨xs,rfl,k⟩:=hasW_list i
 obtain⟨ns,rfl⟩:=items_int k
 have b:ns.length<=n:=by
  unfold OpenLaw.pre at g
  have c:(WTm.not (.lt (.lit (.int (n:Int))) (.len (.arg 0)))).holds [] { args:=[.list (ns.map .int)] }=true:=by
   have c:=(holds_andW g).1
   rw[hn]at c
   exact c
  have e:=condW_of c (w_not (w_lt w_lit (w_len_list (w_arg rfl))))
  rw[Ya]at e
  refine Nat.le_of_not_lt λq=>?_
  have m:(n:Int)<((ns.length:Nat):Int):=by lia
  first
   |(rw[Yq m]at e;exact absurd e (by decide))
   |(simp at e;lia)
 cases hwl with
 | cons w1 w2=>
  cases w2
  cases w1 with
  |list ho hall=>exact⟨_,_,ns,rfl,rfl,ho,qJ ns _ hall,b⟩
def a5Z (l:OpenLaw)(args:List WData):l.row.toRowW.claim.post args (.bool true) args=true:=
 postW_of (r:=l.row.toRowW) (X:=(true == true))
  (show WShape.has [] (.bool true) .bool=true by first | rfl | decide | simp[WShape.has,WShape.arms,WShape.armsAll])
  (show (WTm.eq .res (.lit (.bool true))).value [] { args:=args,res:=some (.bool true),after:=args }=some (.bool (true == true)) from w_eq_bool (w_res rfl) w_lit) rfl
theorem attach_call {l:OpenLaw}{n:Nat}{q:Program}{loose:List Str}{XP:(Str->Option Value)->Heap->Prop}{YP:World->Heap->Prop}{d:DefRec}
  (B:l.most=some n) (m:d.params.defaults= [])
  (call:∀(w:World)(c b:Shared)(mg p:Str->Option Value)(h:Addr)(o:Obj)(s cd e:Value)(a:Addr)(vs:List Value)(ns:List Int),
   Ground q loose [] XP w c mg p b.heap->YP w b.heap->
   b.heap.get? h=some o->o.data= .func (docDef d.name d.params d.body d.scope s cd e)->b.heap.CodeRec cd d.name->mg d.name=some (.ref h)->
   b.heap.get? a=some { cls:= .type "list",data:= .seq vs.toArray }->IntsAre vs ns->ns.length<=n->b.gens=#[]->
   codeAny (model l.prog w) callerA (.call (.ref h) ⟨[.ref a], []⟩) (λr s'=>r= .ok (.ret (.bool true))/\OldK b.heap s'.heap/\s'.os=b.os/\AllBare s'.gens) b) :
  WalkO q loose XP YP l.row.toRowW d [] (λf vs=>PySem.call f vs):=by
 intro w c b mg p G Y h o s cd e C kV D hd t x u E y z as i A hrd v F
 obtain rfl:C= .none:=Dflts.none x m
 obtain rfl:kV= .none:=Dflts.noKw x
 obtain⟨a,vs,ns,rfl,rfl,j,g,k⟩:=a5W B i v
 refine enter_call (codeAny_mono (call w c b mg p h o s cd e a vs ns G Y D (fd_plain hd) t u j g k E) λr s' H=>?_)
 obtain⟨rfl,I,J,K⟩:=H
 exact⟨.inl ⟨.bool true,.bool true, [],rfl,λ_=>rfl,.bool true,a5Z l _,λ_=>⟨List.Pairwise.nil,λ_ L=>(nomatch L)⟩⟩,I,J,K⟩
section
variable {prog:Program}{w:World}{A:Around}{E:Value->Shared->Prop}{s:Shared}{K:Frag}
end
end Att
namespace L2
open PySem PySem.Spec PyProof.Rows
variable {X:Cx}{A:Around}{n:Nat}{B:Prop}{H:Hp}{K:W.Frag}{a:Nat}{i:Int}{b:Nat}{z:Int}{e:Expr}{r:R2}{x:V}{es:List Expr}{t:TA}{pos:Pos}{scope:Scope}{env:Env}{y:Str}{s:Shared}{N:List Str}{ix:List Nat}{P:Program}{w:World}{mg:Str->Option Value}{base:Heap}{outer:List Env}{f:Addr}{E:XK}{C:Addr}
theorem uI:∀{vs:List Value}{ns:List Int},IntsAre vs ns->Vals (ns.map V.int) vs
 |_,_,.nil=> .nil
 |_,_,.cons n t h=> .cons ⟨t,rfl⟩ (uI h)
def jA (s:Stmt):Arguments:=match s with
 |.FunctionDef _ a _ _ _ _ _ _ _ _=>a
 |_=>{ posonlyargs:=[],args:=[],vararg:=none,kwonlyargs:=[],kw_defaults:=[],kwarg:=none,defaults:=[] }
def fD (s:Stmt):List Stmt:=match s with
 |.FunctionDef _ _ b _ _ _ _ _ _ _=>b
 |_=>[]
def aZ (s:Stmt):Scope:=match s with
 |.FunctionDef _ _ _ _ _ _ sc _ _ _=>sc
 |_=>{ kind:= .function,names:=[],isGenerator:=false,isCoroutine:=false }
abbrev CX0:CXT:=λ_ _ _ _ _ _=>False
abbrev E0:XK:=λ_ _ _=>False
def aJ:gW CX0 X E0:=λ_ _ _ _ _ _ _ h=>h.elim
structure Fun (K:W.Frag)(x qual:Str)(st:Stmt)(f:Addr)(fd:FuncData):Prop where
 ex :∃(oc:Value)(od:Option Addr)(kV doc pm:Value)(an:Option Addr)(cdv ct:Value)(osl:Array (Option Value)),
  fd=W.fnOf x qual (jA st) (fD st) (aZ st) .none kV doc pm an cdv ct/\K.lookup f=some ⟨oc,od,.func fd,osl⟩/\W.codeIn K cdv qual=true
 kp:W.keepIn K (.ref f)=true
theorem Fun.ok {x qual:Str}{st:Stmt}{f:Addr}{g:FuncData}{N ps:List Str}{k:Nat}{sp:Sp}(F:Fun K x qual st f g)(S:jO N ps (aZ st))(len:∀vs H Q E,sp vs H Q E->vs.length=ps.length)
  (c:∀(b:Value)(A:Around)(a:List Env)(s:Shared)(H:Hp)(vs:List V)(Q:VK)(E:XK),fB k (A.deeper (envOfC qual (aZ st) s.heap.objs.size f b))->sp vs H Q E->
   ∃t,PSs (tK CX0 P w K mg base N qual (aZ st) f b A a s H E).nox (fD st) t/\t { nx:=λ_ H'=>Q .non H',rt:=Q } (start N vs) H):iV P w K mg base CX0 (k+1) f g ps sp:=by
 obtain⟨n,o,kV,i,p,r,b,u,j,rfl,l,d⟩:=F.ex
 refine c2R l d S len λA a s H vs Q E m e=>?_
 obtain⟨t,h,q⟩:=c b A a s H vs Q E m e
 exact⟨t,h.nox,q⟩
theorem Fun.binds {x qual:Str}{st:Stmt}{f:Addr}{g:FuncData}{ps:List Str}(F:Fun K x qual st f g)
  (h:∀(kV a c:Value)(d:Option Addr)(b e:Value)(us:List Value),us.length=ps.length->bindArgs (W.fnOf x qual (jA st) (fD st) (aZ st) .none kV a c d b e) ⟨us, []⟩=pure (ps.zip us)):Binds K g ps []:=by
 obtain⟨k,l,kV,a,c,d,b,e,i,rfl,m,j⟩:=F.ex
 exact .all (h kV a c d b e)
theorem a2O {x qual:Str}{st:Stmt}{f:Addr}{i:Value}{j e:Option Addr}{d:Array (Option Value)}{kV b g a h:Value}(l:K.lookup f=some ⟨i,j,.func (W.fnOf x qual (jA st) (fD st) (aZ st) .none kV b g e a h),d⟩)
  (c:W.codeIn K a qual=true) (k:W.keepIn K (.ref f)=true):Fun K x qual st f (W.fnOf x qual (jA st) (fD st) (aZ st) .none kV b g e a h):=⟨⟨i,j,kV,b,g,e,a,h,d,rfl,l,c⟩,k⟩
def a4L {k:Nat}(a:fB k A):A.units+1<cLine:=XQ (Nat.add_le_add_left (by decide:1<=64) _) a.units
def uT (h:n<=1000):n<sizeLine:=XQ h (by decide)
theorem pv (i:Nat){x:Str}{pos:Pos}(b:X.N[i]? =some x:=by rfl)(c:Vis X.env.scope x:=by first | exact Or.inl rfl | exact Or.inr (Or.inl rfl) | exact Or.inr (Or.inr rfl))(hd:(x == ("__debug__":Str))=false:=by decide)
  (a:(x == ("__classdict__":Str))=false:=by decide):PE X (.Name x pos) (b7F i):=a2E b c hd a
def a0E {A:Prop}(h:B):if false=true then A else B:=by
 rw[if_neg Yr]
 exact h
def c4N {A:Prop}(h:A):if true=true then A else B:=by
 rw[if_pos rfl]
 exact h
def bQ {c A:Prop}[Decidable c](a:c->A)(b:¬ c->B):if c then A else B:=by
 by_cases h:c
 ·rw[if_pos h]
  exact a h
 ·rw[if_neg h]
  exact b h
def c2M {c A:Prop}[Decidable c](a:c)(h:B):if (!decide c)=true then A else B:=by
 rw[Yq a]
 exact a0E h
def Same (H H':Hp):Prop:=∀b o,H b=some o->H' b=some o
def Same.refl (H:Hp):Same H H:=λ_ _ h=>h
def Vd:=@Same.refl
def Same.trans {d e:Hp}(a:Same H d)(b:Same d e):Same H e:=λc o h=>b c o (a c o h)
def Same.seq {H':Hp}{a:Addr}{xs:List V}(e:Same H H')(h:SqL K H a xs):SqL K H' a xs:=by
 rcases h with (h | ⟨o,h⟩) | h
 ·exact .inl (.inl (e _ _ h))
 ·exact .inl (.inr ⟨o,e _ _ h⟩)
 ·exact .inr h
def cG:bootBuiltins "len"=some (.builtin "len"):=by decide +kernel
def b1W:bootBuiltins "min"=some (.builtin "min"):=by decide +kernel
def b1X:bootBuiltins "max"=some (.builtin "max"):=by decide +kernel
def b1V:bootBuiltins "sum"=some (.builtin "sum"):=by decide +kernel
def jB:bootBuiltins "isinstance"=some (.builtin "isinstance"):=by decide +kernel
def kO:bootBuiltins "list"=some (.type "list"):=by decide +kernel
def b5M:bootBuiltins "bool"=some (.type "bool"):=by decide +kernel
def b1U:bootBuiltins "tuple"=some (.type "tuple"):=by decide +kernel
def tM (a:Nat):Builtin.Int.intBits (a:Int)=if a=0 then 0 else a.log2+1:=by
 unfold Builtin.Int.intBits
 by_cases h:a=0
 ·subst h;rfl
 ·have b:¬ ((a:Int) == 0)=true:=by
   intro q
   have:=Jb.mp q
   lia
  rw[if_neg b,if_neg h]
  rfl
def bits_le (h:a<2 ^ n):Builtin.Int.intBits (a:Int)<=n:=by
 rw[tM]
 split
 ·exact YV _
 ·rename_i h0
  exact(Nat.log2_lt h0).mpr h
def b5N (a:Nat):a<2 ^ Builtin.Int.intBits (a:Int):=by
 rw[tM]
 split
 ·rename_i h;subst h;exact Nat.one_pos
 ·exact Nat.lt_log2_self
def tO (h:i.natAbs<2 ^ n):Builtin.Int.intBits i<=n:=by
 unfold Builtin.Int.intBits
 split
 ·exact YV _
 ·rename_i h0
  have a:i.natAbs≠0:=by
   intro q
   apply h0
   have:i=0:=by lia
   subst this;rfl
  exact(Nat.log2_lt a).mpr h
def a5H {X Y:Nat}(e:a / 2+b / 2=X / 2+2*(Y / 2))(c:X % 2=(a % 2+b % 2) % 2)(f:Y % 2=(a % 2)*(b % 2)):a+b=X+2*Y:=by
 have d:=Nat.div_add_mod
 rw[<-d a 2,<-d b 2,<-d X 2,<-d Y 2,c,f]
 generalize a / 2=p at *
 generalize b / 2=q at *
 generalize X / 2=x at *
 generalize Y / 2=y at *
 clear c f d
 rcases XY a with h | h <;> rcases XY b with h' | h' <;> rw[h,h'] <;> clear h h' <;> simp only[Nat.reduceMul,Nat.reduceAdd,Nat.reduceMod] <;> lia
theorem tU:∀(n a b:Nat),a<2 ^ n->b<2 ^ n->a+b=(a ^^^ b)+2*(a &&& b)
 |0,a,b,ha,hb=>by rw[Nat.lt_one_iff.mp ha,Nat.lt_one_iff.mp hb];rfl
 | n+1,a,b,ha,hb=>by
  have e:=tU n (a / 2) (b / 2) (Nat.div_lt_of_lt_mul (by rw[Jg,<-Xw];exact ha)) (Nat.div_lt_of_lt_mul (by rw[Jg,<-Xw];exact hb))
  rw[<-Nat.xor_div_two,<-Nat.and_div_two]at e
  have x1:=Nat.xor_mod_two_pow (a:=a) (b:=b) (n:=1)
  have x2:=Nat.and_mod_two_pow (a:=a) (b:=b) (n:=1)
  rw[Nat.pow_one]at x1 x2
  refine a5H e (x1.trans ?_) (x2.trans ?_) <;> (rcases XY a with h | h <;> rcases XY b with h' | h' <;> rw[h,h'] <;> rfl)
def b2H (h:a<2 ^ (n+1))(j:b<2 ^ (n+1))(c:2 ^ n<=a)(d:2 ^ n<=b):a ^^^ b<2 ^ n:=by
 apply Nat.lt_pow_two_of_testBit
 intro i k
 rw[XR]
 by_cases e:i=n
 ·subst e
  have f:a.testBit i=true:=by
   rw[Y5]
   have:a / 2 ^ i=1:=by
    apply Js
    ·simpa using c
    ·rw[Xw]at h;lia
   rw[this];rfl
  have g:b.testBit i=true:=by
   rw[Y5]
   have:b / 2 ^ i=1:=by
    apply Js
    ·simpa using d
    ·rw[Xw]at j;lia
   rw[this];rfl
  rw[f,g];rfl
 ·have f:a.testBit i=false:=Xe (Yh h (Yz (by decide) (by lia)))
  have g:b.testBit i=false:=Xe (Yh j (Yz (by decide) (by lia)))
  rw[f,g];rfl
def band (a b:Nat):Builtin.bitAnd (a:Int) (b:Int)=((a &&& b:Nat):Int):=by
 rw[PyProof.Rows.bitAnd_pp (by lia) (by lia)];rfl
def bxor (a b:Nat):Builtin.bitXor (a:Int) (b:Int)=((a ^^^ b:Nat):Int):=by
 have h:=tU (a+b) a b (XQ (Nat.le_add_right a b) Nat.lt_two_pow_self) (XQ (Nat.le_add_left b a) Nat.lt_two_pow_self)
 unfold Builtin.bitXor
 rw[PyProof.Rows.bitOr_and,band]
 lia
def sJ (k:Nat):(2:Int) ^ ((k:Int)).toNat=((2 ^ k:Nat):Int):=by
 rw[YR];simp
def c4P (a k:Nat):(a:Int)*2 ^ ((k:Int)).toNat=((a <<< k:Nat):Int):=by
 rw[sJ,Xq];simp
def c4O (a k:Nat):(a:Int) / 2 ^ ((k:Int)).toNat=((a >>> k:Nat):Int):=by
 rw[sJ,Nat.shiftRight_eq_div_pow];rfl
def bit_at (b k:Nat):(((b >>> k:Nat) &&& 1:Nat):Int)=1↔b.testBit k=true:=by
 unfold Nat.testBit
 rw[Nat.and_comm]
 have h:1 &&& b >>> k=(b >>> k) % 2:=by rw[Nat.and_comm];exact Nat.and_one_is_mod _
 rw[h]
 have:(b >>> k) % 2=0\/(b >>> k) % 2=1:=by lia
 rcases this with h | h <;> rw[h] <;> decide
def rN (C:Nat->Nat->Prop)(g:Nat->Nat->Nat):R2:=λx y H Q=>∃a b:Nat,x= .int a/\y= .int b/\C a b/\Q (.int ((g a b:Nat):Int)) H
theorem opN {f:Value->Value->Sem Value}{C:Nat->Nat->Prop}{g:Nat->Nat->Nat}
  (a:∀(i j:Nat)(t u:Tok)(s:Shared)(Q:Value->Shared->Prop)(E:Value->Shared->Prop),C i j->Q (.int ((g i j:Nat):Int) s.toks) { s with toks:=s.toks+1 }->wpAny (model X.prog X.w) X.A (f (.int i t) (.int j u)) Q E s) :
  OpR X f (rN C g):=by
 intro b s l H x y v u Q I c d h
 obtain⟨i,j,rfl,rfl,e,q⟩:=h
 obtain⟨t,rfl⟩:=c
 obtain⟨k,rfl⟩:=d
 exact a i j t k s _ _ e ⟨.int ((g i j:Nat):Int),H,I.tok _,⟨_,rfl⟩,q⟩
def a3Y:OpR X (binaryOp .BitXor) (rN (λ_ _=>True) λa b=>a ^^^ b):=opN λi j _ _ _ _ _ _ q=>by
 refine xor_int ?_
 rw[bxor];exact q
def a3Z:OpR X (binaryOp .LShift) (rN (λa k=>a<2 ^ 4000/\k<=4000) λa k=>a <<< k):=opN λa k _ _ _ _ _ b q=>by
 refine lshift_int (by lia) ?_ ?_
 ·have:=bits_le b.1
  lia
 ·rw[c4P];exact q
def c3I (i j:Int):Prop:=0<=j/\j<=4000/\i.natAbs<2 ^ 4000
def b4F:OpR X (binaryOp .LShift) (rI c3I λi j=> .int (i*2 ^ j.toNat)):=opI λi j _ _ _ _ _ a q=>by
 refine lshift_int a.1 ?_ q
 have:=tO a.2.2
 have:=a.2.1
 lia
def a5E (i j:Int):Prop:=i.natAbs<2 ^ 4000/\j.natAbs<2 ^ 4000
def a5E.ok {j:Int}(h:a5E i j):IntMulOk i j:=by
 unfold IntMulOk
 have b:=tO h.1
 have c:=tO h.2
 have a:Builtin.Int.intTooBig ((Builtin.Int.intBits i:Int)+(Builtin.Int.intBits j:Int))=false:=by
  unfold Builtin.Int.intTooBig
  apply Yu
  have:(8000:Int)<=bitsLine:=by decide
  lia
 simp only[a,Bool.and_false]
 decide
def b4G:OpR X (binaryOp .Mult) (rI a5E λi j=> .int (i*j)):=opI λ_ _ _ _ _ _ _ a q=>mul_int q a.ok
def c2A:MtR X "int.bit_length" (λx vs H Q=>∃i,x= .int i/\vs= []/\Q (.int ((Builtin.Int.intBits i:Nat):Int)) H):=by
 intro a s d H x xs v e Q I b c h
 obtain⟨i,rfl,rfl,q⟩:=h
 obtain⟨t,rfl⟩:=b
 cases c
 exact call_int_bit_length ⟨.int _,H,I.tok _,⟨_,rfl⟩,q⟩
def c0F:V->Option Value
 |.ref a=>some (.ref a)
 |.ty n=>some (.type n)
 |_=>none
def b5L {c:V}{a u:Value}(e:c0F c=some a)(r:RelV c u):u=a:=by
 cases c <;> simp only[c0F]at e <;> first | (cases e;exact r) | cases e
def b1T:fY X (.builtin "isinstance") (λxs H Q=>∃x c cv t b,xs= [x,c]/\c0F c=some cv/\pI X.K H x t/\W.kitOne X.K t cv=some b/\Q (.bl b) H):=by
 intro a s k H xs l Q I d h
 obtain⟨x,c,cv,t,b,rfl,f,g,e,q⟩:=h
 obtain⟨u,v,rfl,i,j⟩:=d.two
 cases b5L f j
 exact a6R I i g e λm=>⟨.bl b,H,I.tok _,rfl,q⟩
def xM:W.kitOne K (.type "int") (.type "bool")=some false:=by first | rfl | decide +kernel
def uD:W.kitOne K (.type "bool") (.type "bool")=some true:=by rfl
def uB:W.kitOne K (.type "list") (.type "list")=some true:=by rfl
def qI:W.kitOne K (.type "tuple") (.type "tuple")=some true:=by rfl
section
variable {te:TE}{st:Stmt}{ts:TS}
def c3V (t:TE):TE:=λa H Q=>∃P:VK,t a H P/\∀x H',P x H'->Q x H'
def cR (h:PE X e te):PE X e (c3V te):=by
 intro a s c H Q I d
 obtain⟨P,f,g⟩:=d
 exact thn (h a s c H P I f) λv j ⟨x,b,i,r,q⟩=>⟨x,b,i,r,g x b q⟩
def c1D (t:TS):TS:=λD a H=>∃N:St->Hp->Prop,t { D with nx:=N } a H/\∀σ' H',N σ' H'->D.nx σ' H'
def jT (h:PS X st ts):PS X st (c1D ts):=by
 intro a s d H D I e
 obtain⟨N,g,i⟩:=e
 refine thn (h a s d H { D with nx:=N } I g) λf k q=>?_
 cases f with
 |next=>obtain⟨b,c,j,q⟩:=q;exact⟨b,c,j,i b c q⟩
 |ret v=>exact q
 |brk=>exact q
 |cont=>exact q
end
def dec_true {p:Prop}[Decidable p](h:decide p=true):p:=Y2 h
def dec_false {p:Prop}[Decidable p](h:¬ decide p=true):¬ p:=λq=>h (Yq q)
def a6D (a:0<=z)(b:z<2 ^ n):z.natAbs<2 ^ n:=by
 obtain⟨k,rfl⟩:=YJ a
 have:(k:Int)<((2 ^ n:Nat):Int):=by simpa using b
 lia
def tR (h:z.natAbs<2 ^ n)(a:n<=4000:=by decide):z.natAbs<2 ^ 4000:=Yh h (Yz (by decide) a)
def jE (a: -18446744073709551616<z)(b:z<18446744073709551616):z.natAbs<2 ^ 4000:=tR (n:=64) (by lia)
def a1M (h:a<=b):(2:Int) ^ a<=2 ^ b:=by
 have:=Yz (n:=2) (by decide) h
 exact_mod_cast this
def b0M (h:a<2 ^ n)(b:n<=4000:=by decide):a<2 ^ 4000:=Yh h (Yz (by decide) b)
def c0M {ns:List Int}{k:Int}(h:0<ns.length):∃v:Int,atI (ns.map V.int) (k % (((ns.map V.int).length:Nat):Int))=some (.int v):=by
 rw[Ya]
 have a:0<=k % ((ns.length:Nat):Int):=Int.emod_nonneg _ (by lia)
 have b:k % ((ns.length:Nat):Int)<((ns.length:Nat):Int):=Jz _ (by lia)
 generalize k % ((ns.length:Nat):Int)=j at a b
 have c:j.toNat<ns.length:=by lia
 refine⟨ns[j.toNat],?_⟩
 have q:atI (ns.map V.int) ((j.toNat:Nat):Int)=some (.int ns[j.toNat]):=eV (by rw[Yl,Yb c] <;> rfl)
 have e:((j.toNat:Nat):Int)=j:=by lia
 rw[e]at q
 exact q
def b7U (K:W.Frag):Sp:=λb H Q _=>∃(a:Addr)(ns:List Int)(k m:Int),b= [.ref a,.int k,.int m]/\SqL K H a (ns.map V.int)/\ns.length<=63/\0<=k/\k<=100000/\0<m/\∀d:Int,0<=d->d<m->Q (.int d) H
section
variable {M:Model}{E:Value->Shared->Prop}{B:Heap}{l:List Env}{L e:Addr}{k a0:Value}{od:Option Addr}
end
section
variable {qual:Str}{cd:Value}
end
section
variable {qual:Str}{cd:Value}
end
section
variable {tx:St->Hp->VK->XK->Prop}{p1 np hpos:Pos}{n:Str}{i:Nat}{b₀:Stmt}{suite:List Stmt}{ts:TS}
end
section
variable {CX:CXT}{k:Nat}{fd:FuncData}{ps:List Str}{sp:Sp}{dvs:List V}{ds:List Value}{x m:Str}{p apos:Pos}{o:Expr}{ta:TE}
end
def PE.imp {t t':TE}(h:PE X e t)(i:∀σ H Q,t' σ H Q->t σ H Q):PE X e t':=λa s σ H Q I q=>h a s σ H Q I (i σ H Q q)
def PS.imp {e:Stmt}{t t':TS}(h:PS X e t)(i:∀D σ H,t' D σ H->t D σ H):PS X e t':=λa s σ H D I q=>h a s σ H D I (i D σ H q)
def OpR.imp {f:Value->Value->Sem Value}{b:R2}(h:OpR X f r)(i:∀x y H Q,b x y H Q->r x y H Q):OpR X f b:=λa s c H x y v u Q I d e q=>h a s c H x y v u Q I d e (i x y H Q q)
def UnR.imp {f:Value->Sem Value}{r b:V->Hp->VK->Prop}(h:UnR X f r)(i:∀x H Q,b x H Q->r x H Q):UnR X f b:=λa s c H x v Q I d q=>h a s c H x v Q I d (i x H Q q)
def fY.imp {f:Value}{r b:List V->Hp->VK->Prop}(h:fY X f r)(i:∀xs H Q,b xs H Q->r xs H Q):fY X f b:=λa s c H xs d Q I e q=>h a s c H xs d Q I e (i xs H Q q)
def IxR.imp {b:R2}(h:IxR X r)(i:∀x y H Q,b x y H Q->r x y H Q):IxR X b:=λc d a s e H x y v u Q I f g q j=>h c d a s e H x y v u Q I f g (i x y H Q q) j
def oV (o:Option (Option V))(k:V->Prop):Prop:=@Option.rec (Option V) (λ_=>Prop) False (λo=>@Option.rec V (λ_=>Prop) False k o) o
def vI (x:V)(k:Int->Prop):Prop:=@V.rec (λ_=>Prop) False (λ_=>False) k (λ_=>False) (λ_=>False) (λ_=>False) (λ_=>False) (λ_=>False) x
def vB (x:V)(k:Bool->Prop):Prop:=@V.rec (λ_=>Prop) False k (λ_=>False) (λ_=>False) (λ_=>False) (λ_=>False) (λ_=>False) (λ_=>False) x
def vR (x:V)(k:Addr->Prop):Prop:=@V.rec (λ_=>Prop) False (λ_=>False) (λ_=>False) (λ_=>False) (λ_=>False) (λ_=>False) k (λ_=>False) x
def l1 (vs:List V)(k:V->Prop):Prop:=@List.rec V (λ_=>Prop) False (λx r _=>@List.rec V (λ_=>Prop) (k x) (λ_ _ _=>False) r) vs
def l2 (vs:List V)(k:V->V->Prop):Prop:=@List.rec V (λ_=>Prop) False (λx r _=>l1 r λy=>k x y) vs
def oV.ex {o:Option (Option V)}{k:V->Prop}(h:oV o k):∃v,o=some (some v)/\k v:=by
 cases o with
 |none=>exact h.elim
 | some o=>cases o with
  |none=>exact h.elim
  |some v=>exact⟨v,rfl,h⟩
def vI.ex {k:Int->Prop}(h:vI x k):∃i,x= .int i/\k i:=by
 cases x with
 |int i=>exact⟨i,rfl,h⟩
 |_=>exact h.elim
def vB.ex {k:Bool->Prop}(h:vB x k):∃i,x= .bl i/\k i:=by
 cases x with
 |bl i=>exact⟨i,rfl,h⟩
 |_=>exact h.elim
def vR.ex {k:Addr->Prop}(h:vR x k):∃i,x= .ref i/\k i:=by
 cases x with
 |ref i=>exact⟨i,rfl,h⟩
 |_=>exact h.elim
def l1.ex {vs:List V}{k:V->Prop}(h:l1 vs k):∃x,vs= [x]/\k x:=by
 match vs,h with
 |[x],h=>exact⟨x,rfl,h⟩
def l2.ex {vs:List V}{k:V->V->Prop}(h:l2 vs k):∃x y,vs= [x,y]/\k x y:=by
 match vs,h with
 |[x,y],h=>exact⟨x,y,rfl,h⟩
def c4X (i:Nat):TE:=λa H Q=>oV a[i]? λv=>Q v H
theorem dv (i:Nat){x:Str}{pos:Pos}(b:X.N[i]? =some x:=by rfl)(c:Vis X.env.scope x:=by first | exact Or.inl rfl | exact Or.inr (Or.inl rfl) | exact Or.inr (Or.inr rfl))(hd:(x == ("__debug__":Str))=false:=by decide)
  (a:(x == ("__classdict__":Str))=false:=by decide):PE X (.Name x pos) (c4X i):=(a2E b c hd a).imp λd H Q h=>h.ex
def mI (C:Int->Int->Prop)(g:Int->Int->V):R2:=λx y H Q=>vI x λi=>vI y λj=>C i j/\Q (g i j) H
def mI0 (g:Int->Int->V):R2:=λx y H Q=>vI x λi=>vI y λj=>Q (g i j) H
def mI.to {C:Int->Int->Prop}{g:Int->Int->V}:∀x y H Q,mI C g x y H Q->rI C g x y H Q:=λx y H Q h=>by
 obtain⟨i,rfl,a⟩:=vI.ex h
 clear h
 obtain⟨j,rfl,h⟩:=vI.ex a
 exact⟨_,_,rfl,rfl,h.1,h.2⟩
def mI0.to {g:Int->Int->V}:∀x y H Q,mI0 g x y H Q->rI0 g x y H Q:=λx y H Q h=>by
 obtain⟨i,rfl,a⟩:=vI.ex h
 clear h
 obtain⟨j,rfl,h⟩:=vI.ex a
 exact⟨_,_,rfl,rfl,h⟩
def mU (g:Int->V):V->Hp->VK->Prop:=λx H Q=>vI x λi=>Q (g i) H
def mU.to {g:Int->V}:∀x H Q,mU g x H Q->rU g x H Q:=λx H Q h=>vI.ex h
def cC:OpR X (binaryOp .Add) (mI0 λi j=> .int (i+j)):=b8Z.imp mI0.to
def lB:OpR X (binaryOp .Sub) (mI0 λi j=> .int (i-j)):=b8S.imp mI0.to
def jQ:OpR X (binaryOp .Mult) (mI a5E λi j=> .int (i*j)):=b4G.imp mI.to
def b6Z:OpR X (binaryOp .FloorDiv) (mI c3J λi j=> .int (i / j)):=b4H.imp mI.to
def rE:OpR X (binaryOp .Mod) (mI (λ_ j=>0<j) λi j=> .int (i % j)):=b8V.imp mI.to
def c0T:OpR X (binaryOp .LShift) (mI c3I λi j=> .int (i*2 ^ j.toNat)):=b4F.imp mI.to
def a3C:OpR X (binaryOp .RShift) (mI (λ_ j=>0<=j) λi j=> .int (i / 2 ^ j.toNat)):=b8T.imp mI.to
def uH:OpR X (binaryOp .BitAnd) (mI0 λi j=> .int (Builtin.bitAnd i j)):=b8Y.imp mI0.to
def c0S:OpR X (binaryOp .BitXor) (mI0 λi j=> .int (Builtin.bitXor i j)):=b8R.imp mI0.to
def a3D:UnR X (unaryOp .USub) (mU λi=> .int (-i)):=b7C.imp mU.to
def yE:OpR X (compareOp .Lt) (mI0 λi j=> .bl (decide (i<j))):=c1Q.imp mI0.to
def a1D:OpR X (compareOp .LtE) (mI0 λi j=> .bl (decide (i<=j))):=c1R.imp mI0.to
def tX:OpR X (compareOp .Gt) (mI0 λi j=> .bl (decide (j<i))):=c1S.imp mI0.to
def a7J:OpR X (compareOp .GtE) (mI0 λi j=> .bl (decide (j<=i))):=c1T.imp mI0.to
def dI {j:Int}:decide (V.int i=V.int j)=decide (i=j):=by
 by_cases h:i=j
 ·rw[Yq h,Yq (YU V.int h)]
 ·rw[Yu h,Yu λz=>h (V.int.inj z)]
def dS {i j:Str}:decide (V.str i=V.str j)=decide (i=j):=by
 by_cases h:i=j
 ·rw[Yq h,Yq (YU V.str h)]
 ·rw[Yu h,Yu λz=>h (V.str.inj z)]
def dB {i j:Bool}:decide (V.bl i=V.bl j)=decide (i=j):=by
 by_cases h:i=j
 ·rw[Yq h,Yq (YU V.bl h)]
 ·rw[Yu h,Yu λz=>h (V.bl.inj z)]
def eqW (f:Bool->Prop)(x y:V):Prop:=@V.rec (λ_=>Prop)
 (@V.rec (λ_=>Prop) (f true) (λ_=>False) (λ_=>f false) (λ_=>f false) (λ_=>False) (λ_=>False) (λ_=>False) (λ_=>False) y)
 (λi=>@V.rec (λ_=>Prop) False (λj=>f (decide (i=j))) (λ_=>False) (λ_=>False) (λ_=>False) (λ_=>False) (λ_=>False) (λ_=>False) y)
 (λi=>@V.rec (λ_=>Prop) (f false) (λ_=>False) (λj=>f (decide (i=j))) (λ_=>f false) (λ_=>False) (λ_=>False) (λ_=>False) (λ_=>False) y)
 (λi=>@V.rec (λ_=>Prop) (f false) (λ_=>False) (λ_=>f false) (λj=>f (decide (i=j))) (λ_=>False) (λ_=>False) (λ_=>False) (λ_=>False) y)
 (λ_=>False) (λ_=>False) (λ_=>False) (λ_=>False) x
def eqW.ex {f:Bool->Prop}{y:V}(h:eqW f x y):b7W x y=true/\f (decide (x=y)):=by
 cases x with
 |non=>cases y <;> first | exact h.elim | exact⟨rfl,h⟩
 |bl i=>cases y <;> first | exact h.elim | (exact⟨rfl,by rw[dB];exact h⟩)
 |int i=>cases y <;> first | exact h.elim | exact⟨rfl,h⟩ | (exact⟨rfl,by rw[dI];exact h⟩)
 |str i=>cases y <;> first | exact h.elim | exact⟨rfl,h⟩ | (exact⟨rfl,by rw[dS];exact h⟩)
 |_=>exact h.elim
def mEq:R2:=λx y H Q=>eqW (λb=>Q (.bl b) H) x y
def mNe:R2:=λx y H Q=>eqW (λb=>Q (.bl (!b)) H) x y
def fG:OpR X (compareOp .Eq) mEq:=c1U.imp λx y H Q h=>eqW.ex (f:=λb=>Q (.bl b) H) h
def a1B:OpR X (compareOp .NotEq) mNe:=c1P.imp λx y H Q h=>eqW.ex (f:=λb=>Q (.bl (!b)) H) h
def vN (x:V)(k:Prop):Prop:=@V.rec (λ_=>Prop) k (λ_=>False) (λ_=>False) (λ_=>False) (λ_=>False) (λ_=>False) (λ_=>False) (λ_=>False) x
def vN.ex {k:Prop}(h:vN x k):x= .non/\k:=by
 cases x with
 |non=>exact⟨rfl,h⟩
 |_=>exact h.elim
def c4H:R2:=λx y H Q=>vN y (Q (.bl (decide (x= .non))) H)
def c0W:OpR X (compareOp .Is) c4H:=b8W.imp λx y H Q h=>vN.ex h
section
variable {a b c:Expr}{ta tb tc:TE}{rest:List Expr}
def rJ {k:Bool->Prop}:vB x k=∃i,x= .bl i/\k i:=propext ⟨vB.ex,λ⟨i,e,h⟩=>by subst e;exact h⟩
def tH (t:TE):TT:=λa H Q=>t a H λx b=>vB x λk=>Q k b
def a0Q (t:TE):tH t=a3J t:=by
 funext σ H Q
 unfold tH a3J
 simp only[rJ]
def a7B (t:TE):tH t=tB t:=by
 funext σ H Q
 unfold tH tB
 simp only[rJ]
def aY {op:CmpOp}(c:OpR X (compareOp op) r)(d:PE X a ta)(e:PE X b tb)(f:behindInMarks op b=false):PT X (.Compare a [op] [b] pos) (tH (tOp r ta tb)):=by
 rw[a0Q];exact b3U c d e f
def cT {t:TE}(h:PE X e t)(a:∀whole,isTrue e X.env whole=(do let v<-whole;standAt e.pos;holding [v] (truthy v)):=by intro _;rfl):PT X e (tH t):=by
 rw[a7B];exact b8E h a
def c0D (d e:TE):TE:=λa H Q=>d a H λx b=>vB x λc=>if c=true then e a b Q else Q (.bl false) b
def c0A (a:TE):TE:=λb H Q=>a b H λx d=>vB x λc=>Q (.bl (!c)) d
def b5J:c0D ta tb=a7T ta tb:=by
 funext σ H Q
 unfold c0D a7T
 simp only[rJ]
def b5G:c0A ta=a7R ta:=by
 funext σ H Q
 unfold c0A a7R
 simp only[rJ]
def b0G (c:PE X a ta)(d:PE X (.BoolOp .And (b::rest) pos) tb):PE X (.BoolOp .And (a::b::rest) pos) (c0D ta tb):=by
 rw[b5J];exact b8M c d
def b9H (b:PE X a ta):PE X (.UnaryOp .Not a pos) (c0A ta):=by
 rw[b5G];exact b8K b
end
def SqA (K:W.Frag)(H:Hp)(a:Addr)(xs:List V):Prop:=SqL K H a xs\/SqT K H a xs
def c2I (K:W.Frag):R2:=λx y H Q=>vR x λp=>vI y λi=>∃xs v,SqL K H p xs/\atI xs i=some v/\Q v H
def c2H (K:W.Frag):R2:=λx y H Q=>vR x λp=>vI y λi=>∃xs v,SqT K H p xs/\atI xs i=some v/\Q v H
def dX:IxR X (c2I X.K):=b4V.imp λx y H Q h=>by
 obtain⟨p,rfl,h⟩:=vR.ex h
 obtain⟨i,rfl,xs,v,a,b,c⟩:=vI.ex h
 exact⟨_,xs,_,v,rfl,rfl,a,b,c⟩
def iI:IxR X (c2H X.K):=b9O.imp λx y H Q h=>by
 obtain⟨p,rfl,h⟩:=vR.ex h
 obtain⟨i,rfl,xs,v,a,b,c⟩:=vI.ex h
 exact⟨_,xs,_,v,rfl,rfl,a,b,c⟩
def c2G (K:W.Frag):List V->Hp->VK->Prop:=λxs H Q=>l1 xs λx=>vR x λp=>∃ys,SqA K H p ys/\Q (.int ys.length) H
def dW:fY X (.builtin "len") (c2G X.K):=xQ.imp λxs H Q h=>by
 obtain⟨x,rfl,h⟩:=l1.ex h
 obtain⟨p,rfl,a,b,c⟩:=vR.ex h
 exact⟨_,a,rfl,b,c⟩
def a4E (K:W.Frag):List V->Hp->VK->Prop:=λxs H Q=>l1 xs λx=>vR x λp=>∃ys,SqA K H p ys/\∀l,H l=none->Q (.ref l) (upd H l (.lst ys))
def lC:fY X (.type "list") (a4E X.K):=xP.imp λxs H Q h=>by
 obtain⟨x,rfl,h⟩:=l1.ex h
 obtain⟨p,rfl,a,b,c⟩:=vR.ex h
 exact⟨_,a,rfl,b,c⟩
def c2F:List V->Hp->VK->Prop:=λxs H Q=>l2 xs λx y=>vI x λi=>vI y λj=>Q (.int (max i j)) H
def b6X (a:X.calm=true):fY X (.builtin "max") c2F:=(a7D a).imp λxs H Q h=>by
 obtain⟨x,y,rfl,h⟩:=l2.ex h
 obtain⟨i,rfl,h⟩:=vI.ex h
 obtain⟨j,rfl,h⟩:=vI.ex h
 refine⟨_,_,rfl,?_⟩
 have e:(if j > i then j else i)=max i j:=by lia
 rw[e];exact h
def b4X (T:String)(f:V->Hp->VK->Prop):List V->Hp->VK->Prop:=λxs H Q=>l2 xs λx c=>c= .ty T/\f x H Q
def b0K:V->Hp->VK->Prop:=λx H Q=>@V.rec (λ_=>Prop) False (λ_=>Q (.bl true) H) (λ_=>Q (.bl false) H) (λ_=>False) (λ_=>False) (λ_=>False) (λ_=>False) (λ_=>False) x
def b0J:V->Hp->VK->Prop:=λx H Q=>@V.rec (λ_=>Prop) False (λ_=>False) (λ_=>Q (.bl false) H) (λ_=>Q (.bl false) H) (λ_=>False) (λ_=>False) (λp=>(∃xs,H p=some (.lst xs))/\Q (.bl true) H) (λ_=>False) x
def a6J:V->Hp->VK->Prop:=λx H Q=>@V.rec (λ_=>Prop) False (λ_=>False) (λ_=>Q (.bl false) H) (λ_=>False) (λ_=>False) (λ_=>False) (λp=>(∃xs,H p=some (.tup xs))/\Q (.bl true) H) (λ_=>False) x
def xK:W.kitOne K (.type "int") (.type "list")=some false:=by first | rfl | decide +kernel
def uC:W.kitOne K (.type "int") (.type "tuple")=some false:=by first | rfl | decide +kernel
def xJ:W.kitOne K (.type "str") (.type "list")=some false:=by first | rfl | decide +kernel
def a2K {T:String}{f:V->Hp->VK->Prop}(h:∀x H Q,f x H Q->∃t b,pI X.K H x t/\W.kitOne X.K t (.type T)=some b/\Q (.bl b) H):fY X (.builtin "isinstance") (b4X T f):=b1T.imp λxs H Q q=>by
 obtain⟨x,c,rfl,q⟩:=l2.ex q
 obtain⟨a,d⟩:=q
 subst a
 obtain⟨t,b,e,g,i⟩:=h x H Q d
 exact⟨_,_,_,t,b,rfl,rfl,e,g,i⟩
def a1E:fY X (.builtin "isinstance") (b4X "bool" b0K):=a2K λx H Q q=>by
 cases x with
 |int i=>exact⟨_,_,.int _,xM,q⟩
 |bl i=>exact⟨_,_,.bl _,uD,q⟩
 |_=>exact q.elim
def rG:fY X (.builtin "isinstance") (b4X "list" b0J):=a2K λx H Q q=>by
 cases x with
 |int i=>exact⟨_,_,.int _,xK,q⟩
 |str i=>exact⟨_,_,.str _,xJ,q⟩
 | ref p=>
  obtain⟨⟨xs,a⟩,q⟩:=q
  exact⟨_,_,.lst a,uB,q⟩
 |_=>exact q.elim
def yF:fY X (.builtin "isinstance") (b4X "tuple" a6J):=a2K λx H Q q=>by
 cases x with
 |int i=>exact⟨_,_,.int _,uC,q⟩
 | ref p=>
  obtain⟨⟨xs,a⟩,q⟩:=q
  exact⟨_,_,.tup a,qI,q⟩
 |_=>exact q.elim
def c1E (t:TA):TA:=λa H Q=>∃P:List V->Hp->Prop,t a H P/\∀x H',P x H'->Q x H'
def sO (h:PA X es t):PA X es (c1E t):=by
 intro pos a s c H Q I d
 obtain⟨P,e,f⟩:=d
 exact thn (h pos a s c H P I e) λv i ⟨x,b,g,r,q⟩=>⟨x,b,g,r,f x b q⟩
section
variable {o:Expr}{to:TE}{apos cpos:Pos}
def dBl (to:TE):TE:=λa H Q=>to a H λx b=>vI x λi=>Q (.int ((Builtin.Int.intBits i:Nat):Int)) b
def a4D (c:PE X o to)(a:attributeBase o "bit_length" X.env (eval o X.env)=eval o X.env:=by rfl)(b:(apos.endLine == cpos.line)=true:=by rfl):
  PE X (.Call (.Attribute o "bit_length" apos) [] [] cpos) (dBl to):=
 (b8L PySem.F.plainAttrs_int PySem.F.slot_int_bit_length PySem.F.type_int_bit_length c2A (cR c) a b).imp λd H Q h=>⟨_,h,λx e q=>by
  obtain⟨i,rfl,q⟩:=vI.ex q
  exact⟨rfl,i,rfl,rfl,q⟩⟩
def b5I (K:W.Frag)(to:TE)(t:TA):TE:=λa H Q=>to a H λx b=>vR x λl=>(∃xs,SqL K b l xs)/\t a b λd c=>l1 d λy=>∃xs,c l=some (.lst xs)/\xs.length<sizeLine/\Q .non (upd c l (.lst (xs++[y])))
theorem dO (f:PE X o to)(g:PA X [e] t)(b:attributeBase o "append" X.env (eval o X.env)=eval o X.env:=by rfl)
  (d:((backTo cpos (starEach [e] X.env)).all (λx=>!x.1) && (backToKw cpos (keywordEach [] X.env)).all (λx=>x.1.isSome)
   && decide (([e]:List Expr).length+([]:List Keyword).length+(if ([]:List Keyword).isEmpty then 0 else 1)<30))=true:=by rfl)
  (c:(apos.endLine == cpos.line)=true:=by rfl) (i:starEach [e] X.env=(false,eval e X.env)::starEach [] X.env:=by rfl) (a:(backTo cpos (starEach [] X.env)).any (·.1)=false:=by rfl) :
  PE X (.Call (.Attribute o "append" apos) [e] [] cpos) (b5I X.K to t):=
 (a9R PySem.F.plainAttrs_list PySem.F.slot_list_append PySem.F.type_list_append a6F (cR f) (sO g) b d c i a).imp λs H Q h=>⟨_,h,λx u q=>by
  obtain⟨l,rfl,j,k⟩:=vR.ex q
  refine⟨.inl ⟨rfl,j⟩,_,k,λv w m=>?_⟩
  obtain⟨y,rfl,xs,n,p,r⟩:=l1.ex m
  exact⟨l,xs,y,rfl,rfl,n,p,r⟩⟩
def c2X (t:TE):TO:=λa H Q=>t a H λx b=>vI x λi=>Q (some i) b
def PO.imp {e:Option Expr}{t t':TO}(h:PO X e t)(i:∀σ H Q,t' σ H Q->t σ H Q):PO X e t':=λa s σ H Q I q=>h a s σ H Q I (i σ H Q q)
def iZ (h:PE X e to):PO X (some e) (c2X to):=(b3Z (cR h)).imp λa H Q q=>⟨_,q,λx b z=>vI.ex z⟩
def c2D (K:W.Frag):V->Option Int->Option Int->Hp->VK->Prop:=λx b c H Q=>vR x λa=>∃xs,SqL K H a xs/\∀p,H p=none->Q (.ref p) (upd H p (.lst (kZ xs b c)))
def SlR.imp {r b:V->Option Int->Option Int->Hp->VK->Prop}(h:SlR X r)(i:∀x lo hi H Q,b x lo hi H Q->r x lo hi H Q):SlR X b:=by
 intro a s c H x v d e lo hi f Q I g j pl k q
 exact h a s c H x v d e lo hi f Q I g j pl k (i _ _ _ _ _ q)
def uG:SlR X (c2D X.K):=b3J.imp λx d e H Q h=>by
 obtain⟨a,rfl,xs,b,c⟩:=vR.ex h
 exact⟨_,xs,rfl,b,c⟩
variable {tg:Expr}
def PI.imp {a:Expr}{w w':TI}(h:PI X tg a w)(i:∀σ H R,w' σ H R->w σ H R):PI X tg a w':=λb s σ H R I q=>h b s σ H R I (i σ H R q)
def b6O (K:W.Frag)(c:TE):TI:=λd H R=>c d H λx b=>vR x λa=>(∃xs,SqL K b a xs)/\R (Itl K a) b
def dN {l:Expr}{a:TE}(b:PE X l a):PI X tg l (b6O X.K a):=(b4A (cR b)).imp λc H R h=>⟨_,h,λx d q=>vR.ex q⟩
def c2W (a:TA):TI:=λb H R=>a b H λc d=>l1 c λx=>vI x λj=>(-(2 ^ 62)<=j/\j<2 ^ 62)/\R (Itr 0 j.toNat) d
def dH {a:Expr}{b:TA}{p:Pos}(c:Gl X "range")(d:X.mg "range"=none)(e:PA X [a] b)(f:starEach [a] X.env= [(false,eval a X.env)]:=by rfl):PI X tg (.Call (.Name "range" p) [a] [] pos) (c2W b):=
 (a6A c d (sO e) f).imp λg H R h=>⟨_,h,λi k q=>by
  obtain⟨x,rfl,q⟩:=l1.ex q
  obtain⟨j,rfl,q⟩:=vI.ex q
  exact⟨j,rfl,q.1.1,q.1.2,q.2⟩⟩
def c2E:V->V->V->Hp->(Hp->Prop)->Prop:=λo i v H Q=>vR o λp=>vI i λk=>∃xs j,H p=some (.lst xs)/\ixN xs.length k=some j/\Q (upd H p (.lst (xs.set j v)))
def b6V:c0Q X c2E:=λa s b H o i v c d e Q I f g l h=>set_list a s b H o i v c d e Q I f g l (by
 obtain⟨p,rfl,h⟩:=vR.ex h
 obtain⟨k,rfl,xs,j,m,n,q⟩:=vI.ex h
 exact⟨_,xs,_,j,rfl,rfl,m,n,q⟩)
end
section
variable {M:Model}{E:Value->Shared->Prop}{B:Heap}{l:List Env}{L e:Addr}{k a0 fl:Value}{od:Option Addr}
end
def lE (N:List Str)(ix:List Nat):List Str:=ix.map λi=>N.getD i ""
def gM (σ:St)(ix:List Nat):St:=ix.map λi=>σ.getD i none
def a2U (X:Cx)(a:Scope)(cl:List (Str×Addr))(C:Addr):Value->Shared->Prop:=notedBy (model X.prog X.w) X.A (compEnvC a cl C X.env) λe b=>
 ∃m,b.heap.Ns C m/\∀h',Heap.SameBut C b.heap h'->∀cenv:Env,cenv.locals=C->wpAny (model X.prog X.w) X.A (PySem.passOn "comprehension.variables-let-go" e cenv:Sem Value) (λ_ _=>False) X.xe { b with heap:=h' }
def dU (X:Cx)(a:Scope)(cl:List (Str×Addr))(x:Str)(ix:List Nat)(C:Addr)(b:List Addr)(s₀:Shared)(H₀:Hp):Cx:=
 { X with N:=x::lE X.N ix,s₀:=s₀,H₀:=H₀,env:=compEnvC a cl C X.env,outer:=X.stack,ex:=b,fn:=λ_=>false,pn:=[],xe:=a2U X a cl C }
structure fP (X:Cx)(scope:Scope)(cl:List (Str×Addr))(x:Str)(ix:List Nat):Prop where
 clos:closureFor scope X.env=pure cl
 kind:scope.kind= .function
 loc:scope.names.lookup x=some .local
 one:∀y∈scope.names,y.2= .local->y.1=x\/y.1=".0"
 locs:∀y∈scope.names,y.2= .local->scope.names.lookup y.1=some .local
 nocell:∀y∈scope.names,y.2≠ .cell
 free:∀y∈scope.names,y.2= .free->(X.env.kindOf y.1=some .cell\/X.env.kindOf y.1=some .free)
 cells:∀y∈scope.names,y.2= .free->∃c,cl.lookup y.1=some c
 same:∀y∈cl,X.env.cells.lookup y.1=some y.2
 nd:((".0":Str)::x::lE X.N ix).Nodup
theorem lookup_mem {α β:Type}[BEq α][LawfulBEq α]{a:α}{b:β}:∀{l:List (α×β)},l.lookup a=some b->(a,b)∈l
 |[],h=>by simp at h
 | (c,d)::r,h=>by
  rw[Y4]at h
  cases e:a == c with
  | true=>
   rw[e]at h
   cases h
   rw[eq_of_beq e];exact YC
  | false=>
   rw[e]at h
   exact Yv _ (lookup_mem h)
def cW {k:NameKind}(h:(relabel scope env).names.lookup y=some k):∃k0,scope.names.lookup y=some k0/\(k=k0\/(k0= .free/\k= .cell)):=by
  have b :∀(a:List (Str×NameKind)),(a.map λ(n,k)=>if (k == NameKind.free && env.scope.kind == .function && env.kindOf n == some .cell) then (n,NameKind.cell) else (n,k)).lookup y=some k->
      ∃k0,a.lookup y=some k0/\(k=k0\/(k0= .free/\k= .cell)):=by
    intro a
    induction a with
    |nil=>intro h;simp at h
    | cons p r ih=>
      obtain⟨n,c⟩:=p
      intro h
      rw[YK]at h
      dsimp only at h
      cases hc:(c == NameKind.free && env.scope.kind == .function && env.kindOf n == some .cell) with
      | true=>
        rw[hc,if_pos rfl,Y4]at h
        rw[Y4]
        cases e:y == n with
        | true=>
          rw[e]at h
          cases h
          simp only[XF]at hc
          exact⟨c,rfl,.inr ⟨eq_of_beq hc.1.1,rfl⟩⟩
        | false=>
          rw[e]at h
          exact ih h
      | false=>
        rw[hc,if_neg Yr,Y4]at h
        rw[Y4]
        cases e:y == n with
        | true=>
          rw[e]at h
          cases h
          exact⟨k,rfl,.inl rfl⟩
        | false=>
          rw[e]at h
          exact ih h
  exact b scope.names h
section
variable {cl:List (Str×Addr)}{x:Str}{fp:List Addr}
def fP.look (S:fP X scope cl x ix){c:Addr}(h:cl.lookup y=some c):X.env.cells.lookup y=some c:=S.same _ (lookup_mem h)
theorem fP.ok (S:fP X scope cl x ix){pins:List (Addr×Obj)}{σ:St}(I:Inv X pins σ H s)(hf:∀b∈fp,nH X pins H b)(hfl:∀b∈fp,b<s.heap.objs.size)(hC:s.heap.objs.size<=C):
  (dU X scope cl x ix C fp s H).Ok where
 mod:=I.ok.mod
 kind:=S.kind
 glob:=I.ok.glob
 blt:=I.ok.blt
 above:=hC
 inj:=λy z c h1 h2=>I.ok.inj y z c (S.look h1) (S.look h2)
 has := λy h=>by
  have h':(relabel scope X.env).names.lookup y=some .cell\/(relabel scope X.env).names.lookup y=some .free:=h
  have fr:scope.names.lookup y=some .free:=by
   rcases h' with h' | h'
   ·obtain⟨k0,e,q | q⟩:=cW h'
    ·exact absurd rfl (q▸S.nocell _ (lookup_mem e))
    ·rw[e,q.1]
   ·obtain⟨k0,e,q | q⟩:=cW h'
    ·rw[e,<-q]
    ·cases q.2
  exact S.cells _ (lookup_mem fr) rfl
 cab:=λy c h=>absurd h Yr
 hd:=I.ok.hd
 frames:=I.ok.frames
 stk:= .inl rfl
 exf:=λb hb=>⟨YI (Yh (hfl b hb) hC),λy c e=>(hf b hb).2.2.2.2.1 y c (S.look e)⟩
 bs:=I.bs
 bsz:=YS I.ok.bsz I.sz
 noex:=λb o e hb=>by
  rcases (hf b hb).2.2.2.1 with z | z
  ·exact I.ok.noex b o e z
  ·exact absurd (Yh (Yt e) (YS I.ok.bsz z)) (YT _)
 exfs:=λb hb z=>by
  rcases YL.mp (I.stkSub b z) with e | e
  ·exact(hf b hb).2.1 e
  ·exact(hf b hb).2.2.1 e
 funs:=I.stack
 frf:=I.stkFree
def yV {j:Nat}(h:(lE N ix)[j]? =some y):∃i,ix[j]? =some i/\y=N.getD i "":=by
 unfold lE at h
 rw[Yl]at h
 cases e:ix[j]? with
 |none=>rw[e]at h;cases h
 |some i=>rw[e]at h;cases h;exact⟨i,rfl,rfl⟩
def yU {σ:St}{j:Nat}{v:V}(h:(gM σ ix)[j]? =some (some v)):∃i,ix[j]? =some i/\σ[i]? =some (some v):=by
 unfold gM at h
 rw[Yl]at h
 cases e:ix[j]? with
 |none=>rw[e]at h;cases h
 | some i=>
  rw[e]at h
  have a:σ.getD i none=some v:=by simpa using h
  refine⟨i,rfl,?_⟩
  rw[Yf]at a
  cases e2:σ[i]? with
  |none=>rw[e2]at a;cases a
  |some u=>rw[e2]at a;exact YU some a
theorem fP.inv (S:fP X scope cl x ix){pins:List (Addr×Obj)}{σ:St}{H:Hp}{s s1:Shared}{m:Str->Option Value}(I:Inv X pins σ H s)(hf:∀b∈fp,nH X pins H b)(hfl:∀b∈fp,b<s.heap.objs.size)
  (hC:s.heap.objs.size<=C) (os:s1.os=s.os) (bare:AllBare s1.gens) (k:∀b o,s.heap.get? b=some o->s1.heap.get? b=some o) (hn:s1.heap.Ns C m) :
  Inv (dU X scope cl x ix C fp s H) [] (none::gM σ ix) H s1 where
 ok:=S.ok I hf hfl hC
 os:=os
 bare:=bare
 base:=Un.kept k
 loc := ⟨m, hn,λi y v h1 h2 h3=>by
  cases i with
  |zero=>cases (show none=some v from Yp h2)
  | succ j =>
   obtain⟨i,e1,e2⟩:=yV (N:=X.N) (show (lE X.N ix)[j]? =some y from h1)
   obtain⟨i',e1',e3⟩:=yU (σ:=σ) (show (gM σ ix)[j]? =some (some v) from h2)
   rw[e1]at e1';cases e1'
   have hi:i<X.N.length:=by rw[<-I.len];exact(Ye.mp e3).1
   have hy:X.N[i]? =some y:=by rw[e2,Yf,Yb hi];rfl
   have ne:y≠x:=by
    rintro rfl
    have nd:=(YQ.mp S.nd).2
    exact(YQ.mp nd).1 (Yx (show (lE X.N ix)[j]? =some y from h1))
   have h3':(relabel scope X.env).names.lookup y=some .local\/(relabel scope X.env).names.lookup y=some .cell\/(relabel scope X.env).names.lookup y=some .free:=h3
   have fr :scope.names.lookup y=some .free/\((relabel scope X.env).names.lookup y=some .cell\/(relabel scope X.env).names.lookup y=some .free):=by
    rcases h3' with z | z | z
    ·obtain⟨k0,e,q | q⟩:=cW z
     ·rcases S.one _ (lookup_mem e) q.symm with z | z
      ·exact absurd z ne
      ·have z':y=".0":=z
       exact absurd (Yv _ (Yx (show (lE X.N ix)[j]? =some y from h1))) (z'▸(YQ.mp S.nd).1)
     ·cases q.2
    ·obtain⟨k0,e,q | q⟩:=cW z
     ·exact absurd rfl (q▸S.nocell _ (lookup_mem e))
     ·exact⟨by rw[e,q.1],.inl z⟩
    ·obtain⟨k0,e,q | q⟩:=cW z
     ·exact⟨by rw[e,<-q],.inr z⟩
     ·cases q.2
   have vis:=S.free _ (lookup_mem fr.1) rfl
   obtain⟨m0,_,l0⟩:=I.loc
   obtain⟨u,r,l⟩:=l0 i y v hy e3 (vis.elim (λz=> .inr (.inl z)) λz=> .inr (.inr z))
   refine⟨u,r,.inr ⟨fr.2,?_⟩⟩
   rcases l with ⟨k1,_⟩ | ⟨_,c,ec,oc,hoc,hd⟩
   ·rcases vis with z | z
    ·have:=k1.symm.trans z;cases this
    ·have:=k1.symm.trans z;cases this
   ·obtain⟨c',e'⟩:=S.cells _ (lookup_mem fr.1) rfl
    have:some c'=some c:=(S.look e').symm.trans ec
    cases this
    exact⟨c,e',oc,k _ _ hoc,hd⟩⟩
 cell:=λy c e=>by
  obtain⟨v,oc,hoc,hd⟩:=I.cell y c (S.look e)
  exact⟨v,oc,k _ _ hoc,hd⟩
 free:=I.hok.fresh hC
 freeC:=λy c e=>I.freeC y c (S.look e)
 pin:=λp hp=>absurd (show p∈([]:List (Addr×Obj)) from hp) (by simp)
 hok:=I.hok.kept k
 len:=by show (none::gM σ ix).length=(x::lE X.N ix).length;simp[gM,lE]
end
def PTs (X:Cx)(a:List Expr)(t:TT):Prop:=
 ∀ (pins:List (Addr×Obj))(s:Shared)(σ:St)(H:Hp)(Q:Bool->Hp->Prop),Inv X pins σ H s->t σ H Q->
  wpAny (model X.prog X.w) X.A (forIn a true λc r=>if r=true then do let ok<-isTrue c X.env (eval c X.env);pure (ForInStep.yield ok) else pure (ForInStep.yield r)) (TP X pins σ Q) X.xe s
def c3L:TT:=λ_ H Q=>Q true H
def eG:PTs X [] c3L:=λ_ _ _ H _ I h=>wpAny_tests_nil ⟨H,I,h⟩
def qP {c:Expr}{t:TT}(h:PT X c t):PTs X [c] t:=λa s b H Q I d=>wpAny_tests_one (h a s b H Q I d)
section
variable {prog:Program}{R:Result->Shared->Prop}
theorem pC {elt target iter:Expr}{ifs:List Expr}{scope:Scope}{pos:Pos}{it acc:Value}{env:Env}(I:Nat->Shared->Prop)
    (turn : ∀ n s,I n s->wpAny (model prog w) A (pyNext it) (λr s₁=>match r with
      |none=>R (.ok .next) s₁
      | some v =>wpAny (model prog w) A (letOwnedTupleGo target it v) (λ_ s₀=>wpAny (model prog w) A (assign target env v) (λ_ s₂=>
          wpAny (model prog w) A (forIn ifs true λc r=>if r=true then do let ok<-isTrue c env (eval c env);pure (ForInStep.yield ok) else pure (ForInStep.yield r)) (λok s₃=>
            if ok=true then wpAny (model prog w) A (eval elt env) (λx s₄=>
              wpAny (model prog w) A (call (.builtin "list.append") [acc,x]) (λ_ s₅=>∃m,m<n/\I m s₅) (notedBy (model prog w) A env λe s'=>R (.error e) s') s₄) (notedBy (model prog w) A env λe s'=>R (.error e) s') s₃
            else ∃m,m<n/\I m s₃) (notedBy (model prog w) A env λe s'=>R (.error e) s') s₂) (notedBy (model prog w) A env λe s'=>R (.error e) s') s₀) (notedBy (model prog w) A env λe s'=>R (.error e) s') s₁) (notedBy (model prog w) A env λe s'=>R (.error e) s') s)
    (n:Nat) (h:I n s) :
    codeAny (model prog w) A (.compLoop (.ListComp elt [⟨target,iter,ifs,0⟩] scope pos) 0 it acc env) R s:=by
  refine codeAny_loop rfl I (λn s hI=>?_) n h
  show wpAny _ A ((compTurn (.ListComp elt [⟨target,iter,ifs,0⟩] scope pos) 0 it acc env).onRaise (λx=>do noteFrame x env;theTreesLotGoes x)) _ _ s
  refine wpAny_noted ?_
  rw[compTurn_list]
  refine YX (wpAny_standAt (YX (Y6 (turn n s hI) (λr s₁ h₁=>?_) λ_ _ h'=>h')))
  cases r with
  |none=>exact Xc h₁
  | some v=>
    refine YX (Y6 h₁ (λ_ s₀ h₀=>?_) λ_ _ h'=>h')
    refine YX (Y6 h₀ (λ_ s₂ h₂=>YX (Y6 h₂ (λok s₃ h₃=>?_) λ_ _ h'=>h')) λ_ _ h'=>h')
    cases ok with
    |false=>exact Xc ⟨rfl,h₃⟩
    | true=>
      exact YX (YX (Y6 h₃ (λx s₄ h₄=>YX (Y6 h₄ (λ_ s₅ h₅=>Xc (Xc ⟨rfl,h₅⟩)) λ_ _ h'=>h')) λ_ _ h'=>h'))
end
def qG (J:It)(d:TT)(e:TE)(a:V->St)(f:Hp)(Q:VK):Prop:=∃W:Nat->Nat->List V->Hp->Prop,(∃m,W 0 m [] f)/\∀i m ys H,W i m ys H->ys.length<sizeLine/\
  ((J.stop i H/\∀p,H p=none->Q (.ref p) (upd H p (.lst ys)))\/
   (J.go i H/\∃N:List V->Hp->Prop,(∀ys' H',N ys' H'->∃m',m'<m/\W (i+1) m' ys' H')/\∀x H',J.yld i H x H'->d (a x) H' λb c=>if b=true then e (a x) c λy g=>N (ys++[y]) g else N ys c))
structure jJ (X:Cx)(C:Addr)(fp:List Addr)(s:Shared)(H:Hp):Prop where
 inv:∃pins σ,Inv X pins σ H s/\∀b∈fp,nH X pins H b
 low:∀b∈fp,b<s.heap.objs.size
 up:s.heap.objs.size<=C
def a7S (ix:List Nat)(b:TI)(c:TT)(d:TE):TE:=λa H Q=>b a H λJ e=>qG J c d (λx=>some x::gM a ix) e Q
section
variable {cl:List (Str×Addr)}{x:Str}{elt iter:Expr}{ifs:List Expr}{px:Pos}{wi:TI}{tt:TT}{te:TE}
theorem tL (S:fP X scope cl x ix)(hc:X.calm=true)
    (ht:∀C fp s H,jJ X C fp s H->PTs (dU X scope cl x ix C fp s H) ifs tt) (he:∀C fp s H,jJ X C fp s H->PE (dU X scope cl x ix C fp s H) elt te)
    {pins:List (Addr×Obj)} {σ:St} {Q:VK} {itv:Value} {s2:Shared} {E:Value->Shared->Prop} {RR:Value->Addr->Result->Shared->Prop} (h2:PIE X pins σ (.Name x px) (λJ H1=>qG J tt te (λx=>some x::gM σ ix) H1 Q) itv s2)
    (fin:∀(D C:Addr)(H:Hp)(s':Shared)(m:Str->Option Value),Inv X pins σ H s'->s'.heap.Ns C m->H C=none->s2.heap.objs.size<=C->(∀p∈X.pn++pins,p.1≠C)->X.env.locals≠C->(∀y c,X.env.cells.lookup y=some c->c≠C)->X.s₀.heap.objs.size<=C->Q (.ref D) H->RR (.ref D) C (.ok .next) s')
    (fex:∀(D C:Addr)(e:Value)(s':Shared),a2U X scope cl C e s'->notedBy (model X.prog X.w) X.A (compEnvC scope cl C X.env) (λe s'=>RR (.ref D) C (.error e) s') e s') :
    wpAny (model X.prog X.w) X.A (newList []) (λacc s₃=>wpAny (model X.prog X.w) X.A (newFunctionEnv scope X.env.globals cl [] X.env.qual none .none (some X.env)) (λcenv s₄=>
      codeAny (model X.prog X.w) X.A (.compStart (.ListComp elt [⟨.Name x px,iter,ifs,0⟩] scope pos) 0 itv acc { cenv with scope:=relabel scope X.env }) (RR acc cenv.locals) s₄) E s₃) E s2:=by
  obtain⟨it,fp,tn,J,F,rfl,L,T,b4,f2,W,⟨m0,w0⟩,turn⟩:=h2
  have M:∀b∈fp,b<s2.heap.objs.size:=λb a=>by
    obtain⟨o,e,_⟩:=T.obj _ _ b4 b a
    exact Yt e
  refine wpAny_newObj_type (wpAny_newFunctionEnv S.nocell (by intro y hy;simp at hy) (λG t k=>?_) S.kind)
  dsimp only at t k ⊢
  generalize hH2:s2.heap.push { cls:= .type "list",dict:=none,data:= .seq ([]:List Value).toArray }=G2 at t k ⊢
  have hC:G2.objs.size=s2.heap.objs.size+1:=by rw[<-hH2,X6]
  have R:s2.heap.objs.size≠G2.objs.size:=by rw[hC];exact YI (Xi _)
  have l:s2.heap.objs.size<=G2.objs.size:=by rw[hC];exact XM _
  have f:∀b,b<s2.heap.objs.size->b≠G2.objs.size/\b≠s2.heap.objs.size:=λb a=>⟨by rw[hC];exact YI (Jh a),YI a⟩
  have at0:jJ X G2.objs.size fp s2 F:=⟨⟨pins,σ,L,f2⟩,M,l⟩
  have b5:∀b o,s2.heap.get? b=some o->G.get? b=some o:=λb o e=>k.extBut b o (f b (Yt e)).1 (Yk _ (hH2▸Yk _ e))
  have b6:G.get? s2.heap.objs.size=some { cls:= .type "list",data:= .seq ([]:List Value).toArray 0 }:=k.extBut _ _ R (Yk _ (hH2▸YG _ rfl))
  have b7:tn 0 G:=T.keep _ _ _ b4 λb _ o e=>b5 b o e
  have a7:∀{H':Hp},(∀b∈fp,H' b=none)->∀b∈fp,nH (dU X scope cl x ix G2.objs.size fp s2 F) [] H' b:=λhn b a=>
    ⟨hn b a,(f b (M b a)).1,λz=>by
      rcases YL.mp (L.stkSub b z) with e | e
      · exact(f2 b a).2.1 e
      · exact(f2 b a).2.2.1 e,.inl a,λy c e=>(f2 b a).2.2.2.2.1 y c (S.look e),λp I=>absurd (show p∈([]:List (Addr×Obj)) from I) (by simp)⟩
  have I3:∀s₃:Shared,s₃={ s2 with heap:=G,toks:=s2.toks+([]:List (Str×Value)).length }->Inv (dU X scope cl x ix G2.objs.size fp s2 F) [] (none::gM σ ix) F s₃:=λs₃ e=>by
    subst e
    exact S.inv L f2 M l rfl L.bare b5 t
  let Acc:List V->Heap->Prop:=λU h=>∃g n,Vals U g/\h.get? s2.heap.objs.size=some { cls:= .type "list",data:= .seq g.toArray n }
  have a8 :∀s₃:Shared,s₃={ s2 with heap:=G,toks:=s2.toks+([]:List (Str×Value)).length }->
      codeAny (model X.prog X.w) X.A (.compLoop (.ListComp elt [⟨.Name x px,iter,ifs,0⟩] scope pos) 0 (.ref it) (.ref s2.heap.objs.size) (compEnvC scope cl G2.objs.size X.env)) (RR (.ref s2.heap.objs.size) G2.objs.size) s₃:=by
    intro s₃ Y
    refine pC (λn s'=>∃i U H',Inv (dU X scope cl x ix G2.objs.size fp s2 F) [] (none::gM σ ix) H' s'/\H' s2.heap.objs.size=none/\Acc U s'.heap/\tn i s'.heap/\(∀b∈fp,H' b=none)/\W i n U H') ?_ m0
      ⟨0, [],F,I3 s₃ Y,L.hok.fresh (Yd _),⟨[],0,.nil,by rw[Y];exact b6⟩,by rw[Y];exact b7,λb a=>(f2 b a).1,w0⟩
    rintro n s4 ⟨i,U,H4,I4,a0,⟨g,kk,rv,eD⟩,b9,c0,w4⟩
    obtain⟨hsz,q4⟩:=turn i n U H4 w4
    have d4:=rv.length
    rcases q4 with ⟨c1,qn⟩ | ⟨go,N,hN,step⟩
    · refine Y6 (T.done (dU X scope cl x ix G2.objs.size fp s2 F) rfl rfl rfl hc i [(s2.heap.objs.size,{ cls:= .type "list",data:= .seq g.toArray kk })] s4 (none::gM σ ix) H4 (λ_ _=>False) ?_ ?_ b9 c1) (λr s5 ⟨hr,I5⟩=>?_) λ_ _ z=>z.elim
      · refine I4.pins_of λp I=>?_
        rw[Ym.mp I]
        exact⟨eD,a0,R,λz=>by
          have:=JD L.stack z
          obtain⟨_,o,ho,_⟩:=this
          exact YT _ (Yt ho),λv z=>by cases z⟩
      · intro b a
        obtain⟨a1,a2,a3,a4,a5,_⟩:=a7 c0 b a
        exact⟨a1,a2,a3,a4,a5,λp I=>by
          rw[Ym.mp I]
          exact λz=>(f b (M b a)).2 z.symm⟩
      subst hr
      have c6:=(I5.pin _ (by simp:(s2.heap.objs.size,({ cls:= .type "list",data:= .seq g.toArray kk }:Obj))∈(dU X scope cl x ix G2.objs.size fp s2 F).pn++[(s2.heap.objs.size,{ cls:= .type "list",data:= .seq g.toArray kk })])).1
      have O:∀b u,H4 b=some u->b≠s2.heap.objs.size:=λb u e z=>by rw[z,a0]at e;cases e
      have c7:HOk X.prog X.w (upd H4 s2.heap.objs.size (.lst U)) s5.heap:=by
        intro b u e
        by_cases a:b=s2.heap.objs.size
        · subst a
          rw[aB]at e
          cases e
          exact⟨XD hsz,g,kk,rv,c6⟩
        · rw[aH a]at e
          exact(I5.hok b u e).stay (λc v _ q=>q) (λc q=>by rw[aH (O c _ q)];exact q) λc xs q=>by rw[aH (O c _ q)];exact q
      have un:Un (frs X.stack) fp F (upd H4 s2.heap.objs.size (.lst U)) s2.heap s5.heap:=by
        have B:=I5.base
        exact⟨B.keep,B.slot,λb o e n hx=>by rw[aH (f b (Yt e)).2];exact B.free b o e n hx,B.there,
          λb xs e=>by rw[aH (O b _ (B.tups b xs e))];exact B.tups b xs e,λb o u e=>by rw[aH (O b _ (B.frzs b o u e))];exact B.frzs b o u e,
          λb ps e=>by
            obtain⟨mm,z⟩:=B.tbls b ps e
            exact⟨mm,by rw[aH (O b _ z)];exact z⟩⟩
      have J5:Inv X pins σ (upd H4 s2.heap.objs.size (.lst U)) s5:=L.call' (ch:=fp) I5.os un c7 I5.bare λb a=>⟨(f2 b a).2.2.2.1,(f2 b a).2.1,(f2 b a).2.2.2.2.1,(f2 b a).2.2.2.2.2⟩
      obtain⟨mC,c8,_⟩:=I5.loc
      refine fin _ _ _ _ mC J5 c8 (by rw[aH (Va R)];exact I5.free) l (λp I z=>?_) (YI (Yh L.lt l)) (λy c e z=>?_) (YS L.sz l) (qn _ a0)
      · exact absurd (Yh (Yt (L.pin p I).1) l) (by rw[z];exact YT _)
      · obtain⟨v,oc,b1,_⟩:=L.cell y c e
        exact absurd (Yh (Yt b1) l) (by rw[z];exact YT _)
    · have c2:∀{pl:List (Addr×Obj)}{σ':St}{H':Hp}{s':Shared}{its':List Value}{k':Nat},Inv (dU X scope cl x ix G2.objs.size fp s2 F) pl σ' H' s'->s'.heap.get? s2.heap.objs.size=some { cls:= .type "list",data:= .seq its'.toArray k' }->H' s2.heap.objs.size=none->
          Inv (dU X scope cl x ix G2.objs.size fp s2 F) [(s2.heap.objs.size,{ cls:= .type "list",data:= .seq its'.toArray k' })] σ' H' s':=λI' e' n'=>I'.pins_of λp I=>by
        rw[Ym.mp I]
        exact⟨e',n',R,λz=>by
          obtain⟨_,o,ho,_⟩:=JD L.stack z
          exact YT _ (Yt ho),λv z=>by cases z⟩
      have Z:∀{H':Hp},(∀b∈fp,H' b=none)->∀b∈fp,nH (dU X scope cl x ix G2.objs.size fp s2 F) [(s2.heap.objs.size,{ cls:= .type "list",data:= .seq g.toArray kk })] H' b:=λhn b a=>by
        obtain⟨a1,a2,a3,a4,a5,_⟩:=a7 hn b a
        exact⟨a1,a2,a3,a4,a5,λp I=>by
          rw[Ym.mp I]
          exact λz=>(f b (M b a)).2 z.symm⟩
      refine Y6 (T.item (dU X scope cl x ix G2.objs.size fp s2 F) rfl rfl rfl hc i _ s4 _ H4 (λ_ _=>False) (c2 I4 eD a0) (Z c0) b9 go) (λr s5 K=>?_) λ_ _ z=>z.elim
      obtain⟨u,hr,h5⟩:=K
      subst hr
      refine Y6 h5 (λ_ s6 K=>?_) λ_ _ z=>z.elim
      obtain⟨y,H6,I6,r6,y6,b2,c9⟩:=K
      have d0:=I6.pinned (Z c9) (T.obj _ _ b2)
      have c3:(relabel scope X.env).names.lookup x=some .local:=lookup_relabel_local S.loc
      refine Jp (mF (X:=dU X scope cl x ix G2.objs.size fp s2 F) (i:=0) d0 (YQ.mp S.nd).2 rfl (.inl c3) r6 (λs7 I7=>?_) (.inr c3))
      have q7:=step y H6 y6
      refine Y6 (ht _ _ _ _ at0 _ s7 (some y::gM σ ix) H6 _ I7 q7) (λok s8 K=>?_) λ_ _ z=>fex _ _ _ _ z
      obtain⟨H8,I8,q8⟩:=K
      have kept:∀{c4:St}{P:Hp}{s9:Shared},Inv (dU X scope cl x ix G2.objs.size fp s2 F) ([(s2.heap.objs.size,{ cls:= .type "list",data:= .seq g.toArray kk })]++pO fp s6.heap) c4 P s9->
          s9.heap.get? s2.heap.objs.size=some { cls:= .type "list",data:= .seq g.toArray kk }/\P s2.heap.objs.size=none/\tn (i+1) s9.heap/\∀b∈fp,P b=none:=λ{c4 P s9} I9=>by
        have p0:=I9.pin (s2.heap.objs.size,{ cls:= .type "list",data:= .seq g.toArray kk }) (YM _ (Xr _ (Ym.mpr rfl)))
        refine⟨p0.1,p0.2.1,T.keep _ _ _ b2 λb a o e=>(I9.pin (b,o) (YM _ (YM _ (iK a e)))).1,λb a=>?_⟩
        obtain⟨o,e,d⟩:=T.obj _ _ b2 b a
        exact(I9.pin (b,o) (YM _ (YM _ (iK a e)))).2.1
      have a9:∀{pl:List (Addr×Obj)}{P:Hp}{s9:Shared},Inv (dU X scope cl x ix G2.objs.size fp s2 F) pl (some y::gM σ ix) P s9->Inv (dU X scope cl x ix G2.objs.size fp s2 F) [] (none::gM σ ix) P s9:=λ{pl P s9} I9=>
        (I9.weak (σ':=none::gM σ ix) rfl λj v e=>by
          cases j with
          |zero=>cases (show none=some v from Yp e)
          |succ j=>exact e).pins_of λp I=>nomatch I
      cases ok with
      | true=>
        rw[if_pos rfl]at q8 ⊢
        refine Y6 (he _ _ _ _ at0 _ s8 (some y::gM σ ix) H8 _ I8 q8) (λyv s9 K=>?_) λ_ _ z=>fex _ _ _ _ z
        obtain⟨yy,P,I9,r9,n9⟩:=K
        obtain⟨m',b3,w9⟩:=hN _ _ n9
        obtain⟨kD,kn,kt,kf⟩:=kept I9
        refine append_at (hsz:=by rw[YB];lia) kD λd1 b0 c5=>?_
        have O:∀b u,P b=some u->b≠s2.heap.objs.size:=λb u e z=>by rw[z,kn]at e;cases e
        have d2:=a9 I9
        have a6:∀y c,cl.lookup y=some c->c≠s2.heap.objs.size:=λy c e z=>by
          obtain⟨v,oc,b1,_⟩:=L.cell y c (S.look e)
          exact absurd (Yt b1) (by rw[z];exact YT _)
        have d3:Inv (dU X scope cl x ix G2.objs.size fp s2 F) [] (none::gM σ ix) P { s9 with heap:=d1 }:=d2.turned (t':=s9.toks) (it:=s2.heap.objs.size) (λb o a e=>b0.extBut b o a e) kn R (.inr (Yd _)) a6 λp I=>absurd (show p∈([]:List (Addr×Obj)) from I) (by simp)
        refine⟨m',b3,i+1,U++[yy],P,d3,kn,⟨g++[yv],kk+1,rv.append (.cons r9 .nil),?_⟩,T.keep _ _ _ kt λb a o e=>b0.extBut b o (f b (M b a)).2 e,kf,w9⟩
        refine c5.trans (YU some ?_)
        simp
      | false=>
        rw[if_neg Yr]at q8 ⊢
        obtain⟨m',b3,w9⟩:=hN _ _ q8
        obtain⟨kD,kn,kt,kf⟩:=kept I8
        exact⟨m',b3,i+1,U,H8,a9 I8,kn,⟨g,kk,rv,kD⟩,kt,kf,w9⟩
  exact codeAny_compStart_list (a8 _ rfl) (T.self _ 0 _ _ _ b7 (a8 _ rfl))
def bY (env:Env):List (Str×NameKind)->List (Str×Addr)->List (Str×Addr)
 |[],cs=>cs
 |(n,k)::r,cs=>bY env r (if k == .free then (n,(env.cells.lookup n).getD 0)::cs else cs)
theorem rC:∀(names:List (Str×NameKind))(cs:List (Str×Addr)),(∀y∈names,y.2= .free->∃c,env.cells.lookup y.1=some c)->
  (forIn names cs λ(p:Str×NameKind) (r:List (Str×Addr))=>match p with | (name,kind)=>if (kind == .free)=true then do let c<-cellOf env name;pure (ForInStep.yield ((name,c)::r)) else pure (ForInStep.yield r):Sem (List (Str×Addr)))=pure (bY env names cs)
 |[],cs,_=>rfl
 | (n, k)::r,cs,h=>by
  rw[List.forIn_cons]
  cases hk:k == NameKind.free with
  | true=>
   obtain⟨c,hc⟩:=h (n,k) YC (eq_of_beq hk)
   have e1:cellOf env n=pure c:=by unfold cellOf;rw[hc]
   have e2:bY env ((n,k)::r) cs=bY env r ((n,c)::cs):=by
    show bY env r (if (k == .free)=true then (n,(env.cells.lookup n).getD 0)::cs else cs)=_
    rw[hk,if_pos rfl,hc];rfl
   rw[e2,<-rC r ((n,c)::cs) λy hy=>h y (Yv _ hy)]
   dsimp only
   rw[if_pos hk,e1]
   rfl
  | false=>
   have e2:bY env ((n,k)::r) cs=bY env r cs:=by
    show bY env r (if (k == .free)=true then (n,(env.cells.lookup n).getD 0)::cs else cs)=_
    rw[hk,if_neg Yr]
   rw[e2,<-rC r cs λy hy=>h y (Yv _ hy)]
   dsimp only
   rw[if_neg (by rw[hk];exact Yr)]
   rfl
theorem lX {y:Str×Addr}:∀(names:List (Str×NameKind))(cs:List (Str×Addr)),y∈bY env names cs->y∈cs\/∃k∈names,k.2= .free/\k.1=y.1/\y.2=(env.cells.lookup y.1).getD 0
 |[],cs,h=> .inl h
 | (n, k)::r,cs,h=>by
  rcases lX r _ h with z | ⟨p,hp,e⟩
  ·cases hk:k == NameKind.free with
   | true=>
    rw[hk,if_pos rfl]at z
    rcases YL.mp z with z | z
    ·exact .inr ⟨(n,k),YC,eq_of_beq hk,by rw[z],by rw[z]⟩
    ·exact .inl z
   | false=>
    rw[hk,if_neg Yr]at z
    exact .inl z
  ·exact .inr ⟨p,Yv _ hp,e⟩
theorem gQ {c:Addr}:∀{l:List (Str×Addr)},(y,c)∈l->∃d,l.lookup y=some d
 |[],h=>by simp at h
 | (n, d)::r,h=>by
  rw[Y4]
  cases e:y == n with
  |true=>exact⟨d,rfl⟩
  | false=>
   rcases YL.mp h with z | z
   ·have:y=n:=(Prod.mk.inj z).1
    rw[this,Jm]at e;cases e
   ·exact gQ z
theorem lV:∀(names:List (Str×NameKind))(cs:List (Str×Addr)),((y,NameKind.free)∈names\/∃c,(y,c)∈cs)->∃c,(y,c)∈bY env names cs
 | [],cs,h=>by
  rcases h with h | h
  ·simp at h
  ·exact h
 | (n, k)::r,cs,h=>by
  refine lV r _ ?_
  rcases h with h | ⟨c,h⟩
  ·rcases YL.mp h with z | z
   ·obtain⟨e1,e2⟩:=Prod.mk.inj z
    subst e1 e2
    exact .inr ⟨(env.cells.lookup y).getD 0,by rw[if_pos (Jm _)];exact YC⟩
   ·exact .inl z
  ·refine .inr ⟨c,?_⟩
   split
   ·exact Yv _ h
   ·exact h
def a2V (a:Scope)(env:Env)(x:Str):Bool:=a.names.all λy=>(y.2 != .local || ((y.1 == x || y.1 == ".0") && a.names.lookup y.1 == some .local)) && y.2 != .cell && (y.2 != .free || env.kindOf y.1 == some .cell || env.kindOf y.1 == some .free)
def pB (ok:X.Ok)(g:scope.kind= .function)(h:scope.names.lookup x=some .local)(d:a2V scope X.env x=true)(i:((".0":Str)::x::lE X.N ix).Nodup):fP X scope (bY X.env scope.names []) x ix:=by
 have all:∀y∈scope.names,(y.2= .local->(y.1=x\/y.1=".0")/\scope.names.lookup y.1=some .local)/\y.2≠ .cell/\(y.2= .free->(X.env.kindOf y.1=some .cell\/X.env.kindOf y.1=some .free)):=λy a=>by
  have z:=Jn.mp d y a
  simp only[XF,Bool.or_eq_true,bne_iff_ne,Jb,ne_eq]at z
  refine⟨λe=>z.1.1.resolve_left λq=>q e,z.1.2,λe=>?_⟩
  rcases z.2 with (q | q) | q
  ·exact absurd e q
  ·exact .inl q
  ·exact .inr q
 have b:∀y∈scope.names,y.2= .free->∃c,X.env.cells.lookup y.1=some c:=λy a e=>ok.has y.1 ((all y a).2.2 e)
 refine⟨?_,g,h,λy a e=>((all y a).1 e).1,λy a e=>((all y a).1 e).2,λy a=>(all y a).2.1,λy a=>(all y a).2.2,λy a e=>?_,λy a=>?_,i⟩
 ·have q:=rC scope.names [] b
  unfold closureFor
  have j:(forIn scope.names [] λ(p:Str×NameKind) (r:List (Str×Addr))=>match p with | (name,kind)=>if (kind == .free)=true then do let c<-cellOf X.env name;pure (ForInStep.yield ((name,c)::r)) else pure (ForInStep.yield r):Sem (List (Str×Addr))) >>= (λl=>pure l)=pure (bY X.env scope.names []):=by
   rw[q];rfl
  exact j
 ·obtain⟨n,k⟩:=y
  have m:k= .free:=e
  subst m
  obtain⟨c,f⟩:=lV (env:=X.env) scope.names [] (.inl a)
  exact gQ f
 ·rcases lX scope.names [] a with z | ⟨p,o,s,t,u⟩
  ·simp at z
  ·obtain⟨c,f⟩:=b p o s
   rw[t]at f
   rw[u,f];rfl
theorem gA (k:X.calm=true)(l:PI X (.Name x px) iter wi)(n:∀C fp s H,jJ X C fp s H->PTs (dU X scope (bY X.env scope.names []) x ix C fp s H) ifs tt)(p:∀C fp s H,jJ X C fp s H->PE (dU X scope (bY X.env scope.names []) x ix C fp s H) elt te)
  (r:scope.kind= .function) (t:scope.names.lookup x=some .local) (a:a2V scope X.env x=true) (u:((".0":Str)::x::lE X.N ix).Nodup)
  (w:∀x,foldedSetIterable iter X.env x=pure x:=by intro _;rfl):PE X (.ListComp elt [⟨.Name x px,iter,ifs,0⟩] scope pos) (a7S ix wi tt te):=by
 intro c s y H Q I h
 have S:fP X scope (bY X.env scope.names []) x ix:=pB I.ok r t a u
 rw[eval_ListComp]
 refine wpAny_comprehension_free (use:=none) rfl w S.clos S.kind S.locs (thn (l c s y H _ I h) λv P A=>thn A λB R E=>?_)
 refine tL S k n p E (λD C F i m J G d j K L f g q=>?_) λD C e i z=>z
 exact⟨m,G,λT M=>⟨.ref D,F,J.turned (t':=i.toks) (λb o O e=>M.extBut b o O e) d (Va L) (.inr g) f K,rfl,q⟩⟩
theorem gP {j:Nat}{y:Str}{f c:Pos}(K:X.N.Nodup)(L:X.N[j]? =some y)(E:X.env.scope.names.lookup y=some .local)(M:X.calm=true)(O:PI X (.Name x px) iter wi)
  (P:∀C fp s H,jJ X C fp s H->PTs (dU X scope (bY X.env scope.names []) x ix C fp s H) ifs tt) (R:∀C fp s H,jJ X C fp s H->PE (dU X scope (bY X.env scope.names []) x ix C fp s H) elt te)
  (T:scope.kind= .function) (U:scope.names.lookup x=some .local) (g:a2V scope X.env x=true) (V:((".0":Str)::x::lE X.N ix).Nodup)
  (n:swapsWith (.ListComp elt [⟨.Name x px,iter,ifs,0⟩] scope pos) (some (.Name y f)) c.line X.env=pure true:=by rfl) (W:∀x,foldedSetIterable iter X.env x=pure x:=by intro _;rfl) :
  PS X (.Assign [.Name y f] (.ListComp elt [⟨.Name x px,iter,ifs,0⟩] scope pos) c) (b2Q (a7S ix wi tt te) (vK j)):=by
 intro d s p H D I h
 have S:fP X scope (bY X.env scope.names []) x ix:=pB I.ok T U g V
 rw[exec_Assign_Name_used _ _ _ _ n]
 refine YX (wpAny_standAt (YX ?_))
 show wpAny _ _ (do let _<-comprehension (.ListComp elt [⟨.Name x px,iter,ifs,0⟩] scope pos) scope X.env _ (newList []) false (eval iter X.env) (some (assign (.Name y f) X.env))) _ _ s
 refine YX (Y6 (wpAny_comprehension_free (use:=some (assign (.Name y f) X.env)) (Q:=λ_ k=>SP X d D .next k) rfl W S.clos S.kind S.locs
  (thn (O d s p H _ I h) λv s1 Y=>thn Y λZ s2 h2=>?_)) (λ_ k hq=>Xc (Xc hq)) λ_ _ e=>e)
 refine tL (Q:=λv H1=>D.nx (p.set j (some v)) H1) S M P R h2 (λl C H' k m J hn r F hp G i t q=>?_) λl C e k z=>z
 show wpAny _ _ (assign (.Name y f) X.env (.ref l)) _ _ _
 refine Jp (pM J K L (.inl E) (v:= .ref l) rfl (λu J' w=>?_) (.inr E))
 obtain⟨a,sb,ha⟩:=w
 have A:C≠a:=by
  rcases ha with e | e
  ·rw[e];exact Va G
  ·exact Va (i y a e)
 exact⟨m,hn.sameBut sb A,λh' B=>⟨p.set j (some (.ref l)),H',J'.turned (t':=u.toks) (λb o hb e=>B.extBut b o hb e) r (Va G) (.inr t) i hp,q⟩⟩
end
theorem fM {lo:Int}{n:Nat}{d:TT}{f:TE}{c:V->St}{H:Hp}{Q:VK}(a:Nat->List V->Hp->Prop)(g:∀i ys H,i<=n->a i ys H->ys.length<sizeLine)(h:a 0 [] H)
  (j:∀i ys H,i<n->a i ys H->d (c (.int (lo+i))) H λb H3=>if b=true then f (c (.int (lo+i))) H3 λy H4=>a (i+1) (ys++[y]) H4 else a (i+1) ys H3)
  (hd:∀ys H,a n ys H->∀p,H p=none->Q (.ref p) (upd H p (.lst ys))):qG (Itr lo n) d f c H Q:=by
 refine⟨λi m ys H=>m=n-i/\i<=n/\a i ys H,⟨n,by simp,YV _,h⟩,?_⟩
 rintro i m ys H ⟨rfl,k,p⟩
 refine⟨g i ys H k p,?_⟩
 by_cases hlt:i<n
 ·refine .inr ⟨hlt,a (i+1),λl o q=>⟨n-(i+1),by lia,rfl,hlt,q⟩,λx o y=>?_⟩
  obtain⟨e,y⟩:=y
  subst e y
  exact j i ys _ hlt p
 ·have e:i=n:=by lia
  subst e
  exact .inl ⟨Yd _,hd ys H p⟩
theorem eE {K:W.Frag}{a:Addr}{xs:List V}{f:TT}{g:TE}{d:V->St}{H:Hp}{Q:VK}(c:Nat->List V->Hp->Prop)(j:∀i ys H,i<=xs.length->c i ys H->ys.length<sizeLine)(k:c 0 [] H)
  (l:∀i ys H,i<=xs.length->c i ys H->SqL K H a xs)
  (n:∀i x ys H,xs[i]? =some x->c i ys H->f (d x) H λb H3=>if b=true then g (d x) H3 λy H4=>c (i+1) (ys++[y]) H4 else c (i+1) ys H3)
  (hd:∀ys H,c xs.length ys H->∀p,H p=none->Q (.ref p) (upd H p (.lst ys))):qG (Itl K a) f g d H Q:=by
 refine⟨λi m ys H=>m=xs.length-i/\i<=xs.length/\c i ys H,⟨xs.length,by simp,YV _,k⟩,?_⟩
 rintro i m ys H ⟨rfl,h,p⟩
 have q:=l i ys H h p
 refine⟨j i ys H h p,?_⟩
 by_cases hlt:i<xs.length
 ·refine .inr ⟨⟨xs,xs[i],q,by simp[hlt]⟩,c (i+1),λo r q=>⟨xs.length-(i+1),by lia,rfl,hlt,q⟩,λx r y=>?_⟩
  obtain⟨e,y⟩:=y
  subst e
  exact n i x ys _ (y xs q) p
 ·have e:i=xs.length:=by lia
  subst e
  exact .inl ⟨⟨xs,q,Yd _⟩,hd ys H p⟩
end L2
namespace L2
open PySem PySem.Spec PyProof.Rows PySem.W PySem.Builtin PySem.Builtin.ObjectAttr PySem.Builtin.Getset_descriptor
section
variable {prog:Program}{w:World}{A:Around}{E:Value->Shared->Prop}{K:W.Frag}{a C:Addr}
end
section
variable {X:Cx}
end
end L2
namespace L2
open PySem PySem.Spec PyProof.Rows
mutual
inductive DV (K:W.Frag)(H:Hp):V->PyData->Prop
 |non:DV K H .non .none
 |bl (b:Bool):DV K H (.bl b) (.bool b)
 |int (i:Int):DV K H (.int i) (.int i)
 |str (x:Str):DV K H (.str x) (.str x)
 |lst {a:Addr} {xs:List V} {ds:List PyData}:SqL K H a xs->DVs K H xs ds->DV K H (.ref a) (.list ds)
 |tup {a:Addr} {xs:List V} {ds:List PyData}:SqT K H a xs->DVs K H xs ds->DV K H (.ref a) (.tuple ds)
inductive DVs (K:W.Frag)(H:Hp):List V->List PyData->Prop
 |nil:DVs K H [] []
 |cons {x:V} {xs:List V} {d:PyData} {ds:List PyData}:DV K H x d->DVs K H xs ds->DVs K H (x::xs) (d::ds)
end
variable {K:W.Frag}{H:Hp}{bs:List Int}{a:Nat}{pos:Pos}{X:Cx}
theorem DVs.ints:∀ns:List Int,DVs K H (ns.map V.int) (ns.map PyData.int)
 |[]=> .nil
 |n::r=> .cons (.int n) (DVs.ints r)
def DV.ints {a:Addr}{ns:List Int}(h:SqL K H a (ns.map V.int)):DV K H (.ref a) (.list (ns.map .int)):= .lst h (DVs.ints ns)
section
variable {pins:List (Addr×Obj)}{σ:St}{s:Shared}
mutual
theorem Inv.reads (I:Inv X pins σ H s):∀{x:V}{d:PyData}{u:Value},DV X.K H x d->RelV x u->∃as,Reads s.heap u d as
 |_,_,_,.non,r=>by cases r;exact⟨_,Reads.none⟩
 |_,_,_,.bl b,r=>by cases r;exact⟨_,Reads.bool b⟩
 |_,_,_,.int i,r=>by obtain⟨t,rfl⟩:=r;exact⟨_,Reads.int i t⟩
 |_,_,_,.str x,r=>by obtain⟨t,rfl⟩:=r;exact⟨_,Reads.str x t⟩
 | _,_,_,.lst h r,rr=>by
  cases rr
  obtain⟨its,rv,⟨o,n,e,c,_,dt⟩,_⟩:=I.list h
  obtain⟨as,q⟩:=Inv.readsAll I r rv
  exact⟨_,reads_list_at e c dt (by simpa using q)⟩
 | _,_,_,.tup h r,rr=>by
  cases rr
  obtain⟨its,rv,⟨o,e,c,n,dt⟩,_⟩:=I.tuple h
  obtain⟨as,q⟩:=Inv.readsAll I r rv
  exact⟨_,reads_tuple_at e c dt (by simpa using q)⟩
theorem Inv.readsAll (I:Inv X pins σ H s):∀{xs:List V}{ds:List PyData}{us:List Value},DVs X.K H xs ds->Vals xs us->∃as,ReadsAll s.heap us ds as
 |_,_,_,.nil,.nil=>⟨_,ReadsAll.nil⟩
 | _,_,_,.cons h r,.cons q p=>by
  obtain⟨as,q1⟩:=Inv.reads I h q
  obtain⟨bs,q2⟩:=Inv.readsAll I r p
  exact⟨_,ReadsAll.cons q1 q2⟩
end
end
def c0V (b:X.A.units+64<cLine):OpR X (compareOp .NotEq) (λx y H Q=>∃d e,DV X.K H x d/\DV X.K H y e/\SeqAt.shaped d=true/\SeqAt.shaped e=true/\Q (.bl (!PyData.eqv d e)) H):=by
 intro a s m H x y v u Q I c f h
 obtain⟨d,e,hd,g,i,j,q⟩:=h
 obtain⟨as,k⟩:=I.reads hd c
 obtain⟨bs,l⟩:=I.reads g f
 exact ne_dataH k l i j b ⟨.bl _,H,I,rfl,q⟩
def b5W (b:X.A.units+64<cLine):OpR X (compareOp .NotEq) (λx y H Q=>∃d,DV X.K H x d/\DV X.K H y d/\SeqAt.shaped d=true/\Q (.bl false) H):=(c0V b).imp λx y H Q ⟨d,c,e,a,q⟩=>⟨d,d,c,e,a,a,by rw[SeqAt.eqv_refl d (SeqAt.canLay_of_shaped a)];exact q⟩
def b3L {ds:List PyData}(h:∀d∈ds,d.canLay0=true/\d.depth<=60):SeqAt.shaped (.list ds)=true:=by
 have all:∀ds:List PyData,(∀d∈ds,d.canLay0=true/\d.depth<=60)->PyData.canLayAll0 ds=true/\PyData.depthAll ds<=60:=by
  intro ds
  induction ds with
  |nil=>intro _;simp[PyData.canLayAll0,PyData.depthAll]
  | cons d r ih=>
   intro h
   have a:=h d YC
   have b:=ih λz c=>h z (Yv _ c)
   simp only[PyData.canLayAll0,PyData.depthAll,a.1,b.1,Bool.and_self,true_and]
   have:=a.2;have:=b.2;lia
 have z:=all ds h
 unfold SeqAt.shaped
 rw[XF]
 refine⟨by simp only[PyData.canLay0];exact z.1,Yq ?_⟩
 simp only[PyData.depth]
 have:=z.2;lia
def lay_ints (ns:List Int):(PyData.list (ns.map .int)).canLay0=true/\(PyData.list (ns.map .int)).depth<=60:=by
 refine⟨by simp only[PyData.canLay0];exact W.canLayAll0_ints ns,?_⟩
 have:=W.depthAll_ints ns
 simp only[PyData.depth];lia
def nR {a:List Value}{ns:List Int}(b:IntsAre a ns):∃xs:Array (Int×Tok),a.toArray=intItems xs/\ns=xs.toList.map (·.1):=by
 obtain⟨xs,c⟩:=b.allInts.items
 refine⟨xs,c,?_⟩
 rw[<-nums_intItems,<-c]
 exact(show numsOf a.toArray.toList=ns from b.numsOf).symm
def c2C (K:W.Frag):List V->Hp->VK->Prop:=λxs H Q=>l1 xs λx=>vR x λp=>∃ns:List Int,SqL K H p (ns.map V.int)/\Q (.int ns.sum) H
def b5V (c:X.calm=true):fY X (.builtin "sum") (c2C X.K):=by
 intro a s n H xs o Q I r h
 obtain⟨x,rfl,h⟩:=l1.ex h
 obtain⟨p,rfl,b,d,q⟩:=vR.ex h
 obtain⟨u,rfl,e⟩:=vals1 r
 cases e
 obtain⟨f,g,pl,_⟩:=I.list d
 obtain⟨zs,i,j⟩:=nR (intsAre_of g)
 have k:s.heap.IsList p (intItems zs):=i▸pl.isList
 refine sum_intListG (I.ok.hd c) k λt v w l=>?_
 have m:preSum (numAt zs) zs.size=b.sum:=by rw[preSum_eq,Yi (by simp),j]
 rw[m]
 exact⟨.int b.sum,H,I.kept l,⟨_,rfl⟩,q⟩
def b6K (K:W.Frag)(lt:Int->Int->Prop):List V->Hp->VK->Prop:=λxs H Q=>l1 xs λx=>vR x λp=>∃ns:List Int,SqL K H p (ns.map V.int)/\ns≠ []/\∀m,m∈ns->(∀z∈ns,lt m z)->Q (.int m) H
def a7I (i:X.calm=true):fY X (.builtin "min") (b6K X.K (·<= ·)):=by
 intro e s D H xs E Q I r h
 obtain⟨x,rfl,h⟩:=l1.ex h
 obtain⟨p,rfl,k,l,b,q⟩:=vR.ex h
 obtain⟨u,rfl,m⟩:=vals1 r
 cases m
 obtain⟨n,o,pl,_⟩:=I.list l
 obtain⟨zs,w,c⟩:=nR (intsAre_of o)
 have y:s.heap.IsList p (intItems zs):=w▸pl.isList
 have d:0<zs.size:=by
  have f:0<k.length:=Jt.mpr b
  rw[c,Ya,Xl]at f;exact f
 refine min_intList (I.ok.hd i) y d λv F G z A=>?_
 obtain⟨t,rfl⟩:=intItems_at z
 obtain⟨J,B⟩:=argBest_lt (numAt zs) (zs.size-1)
 refine⟨.int _,H,I.kept A,⟨_,rfl⟩,q _ ?_ λa g=>?_⟩
 ·rw[c,numAt_eq];exact getD_mem (by rw[Ya,Xl];lia)
 ·rw[c]at g
  obtain⟨j,C,rfl⟩:=mem_getD g
  rw[Ya,Xl]at C
  rw[<-numAt_eq];exact B j (by lia)
def c4J:R2:=λx y H Q=>vR x λl=>vR y λb=>∃xs zs,H l=some (.lst xs)/\H b=some (.lst zs)/\xs.length+zs.length<=sizeLine/\∀p,H p=none->Q (.ref p) (upd H p (.lst (xs++zs)))
def a3E:OpR X (binaryOp .Add) c4J:=b8X.imp λx y H Q h=>by
 obtain⟨l,rfl,a⟩:=vR.ex h
 clear h
 obtain⟨b,rfl,xs,zs,c,d,e,f⟩:=vR.ex a
 exact⟨l,b,xs,zs,rfl,rfl,c,d,e,f⟩
def b5K {n:Nat}(h:a+n<=bs.length):kZ (bs.map V.int) (some (a:Int)) (some ((a+n:Nat):Int))=((bs.drop a).take n).map V.int:=by
 unfold kZ
 rw[HT.sIx_nat,HT.sIx_nat,Ya,XB (by lia),XB (by lia),Nat.add_sub_cancel_left,List.map_take,List.map_drop]
def b1O (h:a<=bs.length):kZ (bs.map V.int) none (some (a:Int))=(bs.take a).map V.int:=by
 unfold kZ
 rw[HT.sIx_nat,HT.sIx_none,Ya,XB h,List.drop_zero,Nat.sub_zero,List.map_take]
def b1P (h:a<=bs.length):kZ (bs.map V.int) (some (a:Int)) none=(bs.drop a).map V.int:=by
 unfold kZ
 rw[HT.sIx_nat,HT.sIx_none,Ya,XB h,List.map_drop,Yi]
 rw[Xp,Ya];exact Yd _
def l3 (vs:List V)(k:V->V->V->Prop):Prop:=@List.rec V (λ_=>Prop) False (λx r _=>l2 r λy z=>k x y z) vs
def l3.ex {vs:List V}{k:V->V->V->Prop}(h:l3 vs k):∃x y z,vs= [x,y,z]/\k x y z:=by
 match vs,h with
 |[x,y,z],h=>exact⟨x,y,z,rfl,h⟩
def b2E (lo c:Int)(n:Nat):It:=⟨λi _=>i<n,λi H x a=>a=H/\x= .int (lo+i*c),λi _=>n<=i⟩
def yL {P:Program}{w:World}{tg:Expr}(it:Addr)(lo c:Int)(n:Nat):Turn P w K tg (b2E lo c n) [it] it (λi h=>IsRangeIter h it (lo+(i:Nat)*c) ((n:Int)-(i:Nat)) c) where
 mem:=by simp
 obj :=λi h st b hb=>by
  have e:b=it:=by simpa using hb
  subst e
  exact⟨_,st,λv z=>by
   have z':Data.fields _=Data.cell v:=z
   cases z'⟩
 keep:=λi h h' st k=>k it (by simp) _ st
 item:=by
  intro X hP hw hK hc i pins s σ H E I hf st hg
  subst hP hw hK
  obtain⟨f0,f1,f2,f3,f4,f5⟩:=hf it (by simp)
  have W:=Walks.range (prog:=X.prog) (w:=X.w) (I.ok.hd hc) it lo c n
  refine W.item i s _ _ hg st λv h' tk hv st' kk=>?_
  obtain⟨t,rfl⟩:=hv
  have I1:Inv X pins σ H { s with heap:=h',toks:=tk }:=I.turned (λb o hb e=>kk b o (by simpa using hb) e) f0 f1 f3 f4 f5
  exact⟨_,rfl,a4O (s:={ s with heap:=h',toks:=tk }) (n:="range_iterator") st' rfl rfl (by decide) ⟨.int (lo+i*c),H,I1,⟨t,rfl⟩,⟨rfl,rfl⟩,st',λb hb=>(hf b hb).1⟩⟩
 done:=by
  intro X hP hw hK hc i pins s σ H E I hf st hg
  subst hP hw hK
  obtain⟨f0,f1,f2,f3,f4,f5⟩:=hf it (by simp)
  exact wpAny_pyNext_range_end (I.ok.hd hc) st (by have:n<=i:=hg;lia) λh' eb=>⟨rfl,I.turned (t':=s.toks) (λb o hb e=>eb b o hb e) f0 f1 f3 f4 f5⟩
 self:=λ_ _ _ _ _ st h=>wpAny_pyIter_rangeiter st h
section
variable {tg:Expr}
def c2V (a:TA):TI:=λb H R=>a b H λd e=>l3 d λx y z=>vI x λi=>vI y λj=>vI z λc=>c≠0/\Builtin.divisionGoesByPylong (j-i) c=false/\∃n:Nat,Builtin.Range.small i j c=true/\Builtin.Range.rangeSize i j c=(n:Int)/\R (b2E i c n) e
def uY {a b c:Expr}{ta:TA}{p:Pos}(hg:Gl X "range")(hm:X.mg "range"=none)(ha:PA X [a,b,c] ta)(hs:starEach [a,b,c] X.env=(false,eval a X.env)::starEach [b,c] X.env:=by rfl)(hs2:(backTo pos (starEach [b,c] X.env)).any (·.1)=false:=by rfl):
  PI X tg (.Call (.Name "range" p) [a,b,c] [] pos) (c2V ta):=by
 intro f s u H R I h
 refine Call_ (pU I hg hm boot_range (XV (thn (ha pos f s u H _ I h) λN g k=>?_) hs hs2))
 obtain⟨O,v,w,A,B⟩:=k
 obtain⟨x,y,z,rfl,C⟩:=l3.ex B
 obtain⟨i,rfl,D⟩:=vI.ex C
 obtain⟨j,rfl,E⟩:=vI.ex D
 obtain⟨c,rfl,F,G,n,l,J,q⟩:=vI.ex E
 cases A with
 | cons r rr=>
  cases rr with
  | cons r' rr=>
   cases rr with
   | cons r'' rr=>
    cases rr
    obtain⟨t,rfl⟩:=r
    obtain⟨t',rfl⟩:=r'
    obtain⟨d,rfl⟩:=r''
    refine call_range_3 F ?_ (.inl G)
    refine wpAny_pyIter_range (IsRange.new ..) l ?_
    have m:Inv X f u v { g with heap:=g.heap.push { cls:= .type "range",data:= .fields #[.int i t,.int j t',.int c d] },toks:=g.toks }:=w.kept λb o e=>Yk _ e
    refine⟨(g.heap.push { cls:= .type "range",data:= .fields #[.int i t,.int j t',.int c d] }).objs.size, [(g.heap.push { cls:= .type "range",data:= .fields #[.int i t,.int j t',.int c d] }).objs.size],_,_,v,rfl,
     m.kept (t':=g.toks) λb o e=>Yk _ e,yL _ i c n,?_,λb K=>?_,q⟩
    ·show IsRangeIter _ _ (i+((0:Nat):Int)*c) ((n:Int)-((0:Nat):Int)) c
     have L:i+((0:Nat):Int)*c=i:=by simp
     have M:(n:Int)-((0:Nat):Int)=Builtin.Range.rangeSize i j c:=by rw[J];simp
     rw[L,M]
     exact YG _ rfl
    ·have e:b=(g.heap.push { cls:= .type "range",data:= .fields #[.int i t,.int j t',.int c d] }).objs.size:=by simpa using K
     subst e
     exact m.fpOk (Yd _) (m.hok.fresh (Yd _))
end
theorem tE {lo c:Int}{n:Nat}{g:TG}{b:TS}{D:Ends}{σ:St}{H:Hp}(a:Nat->St->Hp->Prop)(d:a 0 σ H)
  (f:∀i σ H,i<n->a i σ H->g (.int (lo+i*c)) σ H λσ2 H2=>b { D with nx:=a (i+1),ct:=a (i+1),bk:=D.nx } σ2 H2) (hd:∀σ H,a n σ H->D.nx σ H) :
  ∃ W:Nat->Nat->St->Hp->Prop,(∃m,W 0 m σ H)/\∀i m σ H,W i m σ H->
   ((b2E lo c n).stop i H/\D.nx σ H)\/((b2E lo c n).go i H/\∃N:St->Hp->Prop,(∀σ' H',N σ' H'->∃m',m'<m/\W (i+1) m' σ' H')/\∀x H',(b2E lo c n).yld i H x H'->g x σ H' λσ2 H2=>b { D with nx:=N,ct:=N,bk:=D.nx } σ2 H2):=by
 refine⟨λi m σ H=>m=n-i/\i<=n/\a i σ H,⟨n,by simp,YV _,d⟩,?_⟩
 rintro i m σ H ⟨rfl,j,p⟩
 by_cases hlt:i<n
 ·refine .inr ⟨hlt,a (i+1),λσ' H' h=>⟨n-(i+1),by lia,rfl,hlt,h⟩,λx H' y=>?_⟩
  obtain⟨e,y⟩:=y
  subst e y
  exact f i σ _ hlt p
 ·have e:i=n:=by lia
  subst e
  exact .inl ⟨Yd _,hd σ H p⟩
section
variable {a b c:Expr}{ta tb tc:TE}
def xO (r c:R2)(d e tc:TE):TE:=λa H Q=>d a H λx f=>e a f λy g=>r x y g λz b=>vB z λk=>if k=true then tc a b λu h=>c y u h Q else Q (.bl false) b
def vO (r a:R2)(b c tc:TE):xO r a b c tc=wH r a b c tc:=by
 funext σ H Q
 unfold xO wH
 simp only[rJ]
theorem a0B {op d:CmpOp}{r f:R2}(g:OpR X (compareOp op) r)(e:OpR X (compareOp d) f)(h:PE X a ta)(i:PE X b tb)(j:PE X c tc)
  (k:lastMarks [op,d] [b,c]=false:=by with_unfolding_all rfl):PE X (.Compare a [op,d] [b,c] pos) (xO r f ta tb tc):=by
 rw[vO];exact a9P g e h i j k
theorem zR {op d:CmpOp}{r f:R2}(g:OpR X (compareOp op) r)(e:OpR X (compareOp d) f)(h:PE X a ta)(i:PE X b tb)(j:PE X c tc)
  (k:lastMarks [op,d] [b,c]=false:=by with_unfolding_all rfl):PT X (.Compare a [op,d] [b,c] pos) (tH (xO r f ta tb tc)):=by
 rw[vO,a0Q];exact a9F g e h i j k
theorem a0F (z:Int):∀ns:List Int,inV (.int z) (ns.map V.int)=decide (z∈ns)/\(ns.map V.int).all oZ=true
 |[]=>⟨rfl,rfl⟩
 | n ::r=>by
  have ih:=a0F z r
  refine⟨?_,?_⟩
  ·unfold inV at ih ⊢
   rw[YK,Jo,ih.1]
   show ((n == z) || decide (z∈r))=decide (z∈n::r)
   rw[X8]
   simp only[Bool.or_eq_true,Jb,Jd,YL]
   exact⟨λh=>h.imp Eq.symm id,λh=>h.imp Eq.symm id⟩
  ·rw[YK,X7,ih.2];rfl
def c4I (K:W.Frag)(f:Bool->Bool):R2:=λx y H Q=>vI x λz=>vR y λp=>∃ns:List Int,SqA K H p (ns.map V.int)/\Q (.bl (f (decide (z∈ns)))) H
def a7H:OpR X (compareOp .NotIn) (c4I X.K not):=wR.imp λx y H Q h=>by
 obtain⟨z,rfl,b⟩:=vI.ex h
 clear h
 obtain⟨p,rfl,a,c,q⟩:=vR.ex b
 have e:=a0F z a
 exact⟨p,_,rfl,c,rfl,e.2,by show Q (.bl (!inV (.int z) (a.map V.int))) H;rw[e.1];exact q⟩
end
def b6Y (a:X.K=K:=by rfl):IxR X (c2I K):=by subst a;exact dX
def jG (a:X.K=K:=by rfl):IxR X (c2H K):=by subst a;exact iI
def a1C (a:X.K=K:=by rfl):fY X (.builtin "len") (c2G K):=by subst a;exact dW
def a5G (a:X.K=K:=by rfl):fY X (.type "list") (a4E K):=by subst a;exact lC
def a7G (a:X.K=K:=by rfl):SlR X (c2D K):=by subst a;exact uG
def b6U (a:X.calm=true)(b:X.K=K:=by rfl):fY X (.builtin "sum") (c2C K):=by subst b;exact b5V a
def c0I:bootBuiltins "all"=some (.builtin "all"):=by decide +kernel
def c4G:R2:=λx y H Q=>vR x λl=>vI y λk=>∃xs,H l=some (.lst xs)/\(-(2 ^ 63)<=k/\k<2 ^ 63)/\xs.length*k.toNat<=sizeLine/\∀p,H p=none->Q (.ref p) (upd H p (.lst (List.replicate k.toNat xs).flatten))
def c0U:OpR X (binaryOp .Mult) c4G:=b8U.imp λx y H Q h=>by
 obtain⟨l,rfl,h⟩:=vR.ex h
 obtain⟨k,rfl,xs,b,a,c,d⟩:=vI.ex h
 exact⟨l,k,xs,rfl,rfl,b,a.1,a.2,c,d⟩
section
variable {o e:Expr}{es:List Expr}{to:TE}{t:TA}{apos cpos:Pos}
def b5H (to:TE)(t:TA):TE:=λc H Q=>to c H λx d=>vR x λl=>(∃xs,d l=some (.lst xs))/\t c d λe a=>l1 e λy=>vR y λb=>∃xs zs,a l=some (.lst xs)/\a b=some (.lst zs)/\xs.length+zs.length<=sizeLine/\Q .non (upd a l (.lst (xs++zs)))
theorem a6H (i:PE X o to)(j:PA X [e] t)(c:attributeBase o "extend" X.env (eval o X.env)=eval o X.env:=by rfl)
  (f:((backTo cpos (starEach [e] X.env)).all (λx=>!x.1) && (backToKw cpos (keywordEach [] X.env)).all (λx=>x.1.isSome)
   && decide (([e]:List Expr).length+([]:List Keyword).length+(if ([]:List Keyword).isEmpty then 0 else 1)<30))=true:=by rfl)
  (d:(apos.endLine == cpos.line)=true:=by rfl) (k:starEach [e] X.env=(false,eval e X.env)::starEach [] X.env:=by rfl) (a:(backTo cpos (starEach [] X.env)).any (·.1)=false:=by rfl) :
  PE X (.Call (.Attribute o "extend" apos) [e] [] cpos) (b5H to t):=
 (a9R PySem.F.plainAttrs_list PySem.F.slot_list_extend PySem.F.type_list_extend a6E (cR i) (sO j) c f d k a).imp λv H Q h=>⟨_,h,λx w q=>by
  obtain⟨l,rfl,⟨xs,m⟩,n⟩:=vR.ex q
  refine⟨.inl ⟨rfl,xs,Vb m⟩,_,n,λz A g=>?_⟩
  obtain⟨y,rfl,g⟩:=l1.ex g
  obtain⟨b,rfl,xs,zs,p,r,s,u⟩:=vR.ex g
  exact⟨l,b,xs,zs,rfl,rfl,p,r,s,u⟩⟩
def b9Z (to:TE)(t:TA):TE:=λa H Q=>to a H λx b=>vR x λl=>(∃xs,b l=some (.lst xs))/\t a b λd c=>l1 d λy=>vI y λi=>∃xs k y,c l=some (.lst xs)/\(-(2 ^ 63)<=i/\i<2 ^ 63)/\seqIndex? i xs.length=some k/\xs[k]? =some y/\Q y (upd c l (.lst (xs.eraseIdx k)))
theorem b0F (j:PE X o to)(m:PA X [e] t)(b:attributeBase o "pop" X.env (eval o X.env)=eval o X.env:=by rfl)
  (d:((backTo cpos (starEach [e] X.env)).all (λx=>!x.1) && (backToKw cpos (keywordEach [] X.env)).all (λx=>x.1.isSome)
   && decide (([e]:List Expr).length+([]:List Keyword).length+(if ([]:List Keyword).isEmpty then 0 else 1)<30))=true:=by rfl)
  (c:(apos.endLine == cpos.line)=true:=by rfl) (n:starEach [e] X.env=(false,eval e X.env)::starEach [] X.env:=by rfl) (a:(backTo cpos (starEach [] X.env)).any (·.1)=false:=by rfl) :
  PE X (.Call (.Attribute o "pop" apos) [e] [] cpos) (b9Z to t):=
 (a9R PySem.F.plainAttrs_list PySem.F.slot_list_pop PySem.F.type_list_pop b0D (cR j) (sO m) b d c n a).imp λz H Q h=>⟨_,h,λx A q=>by
  obtain⟨l,rfl,⟨xs,p⟩,r⟩:=vR.ex q
  refine⟨.inl ⟨rfl,xs,Vb p⟩,_,r,λB C f=>?_⟩
  obtain⟨y,rfl,f⟩:=l1.ex f
  obtain⟨i,rfl,xs,k,y,s,g,u,v,w⟩:=vI.ex f
  exact⟨l,xs,i,k,y,rfl,rfl,s,g.1,g.2,u,v,w⟩⟩
end
theorem rH:∀{bs:List Bool}{us:List Value},Vals (bs.map V.bl) us->us=bs.map Value.bool
 |[],_,.nil=>rfl
 | b::r,_,.cons h t=>by
  cases (show _=Value.bool b from h)
  rw[rH t];rfl
def c4K (K:W.Frag):List V->Hp->VK->Prop:=λxs H Q=>l1 xs λx=>vR x λp=>∃bs:List Bool,SqL K H p (bs.map V.bl)/\Q (.bl (bs.all id)) H
def all_range (bs:List Bool):(List.range bs.length).all (λi=>bs.getD i false)=bs.all id:=by
 have e:(List.range bs.length).map (λi=>bs.getD i false)=bs:=by
  apply List.ext_getElem
  ·simp
  ·intro i b a
   simp[Yf,a]
 conv=>rhs;rw[<-e,List.all_map]
 rfl
def c0X (j:X.calm=true):fY X (.builtin "all") (c4K X.K):=by
 intro d s z H xs B Q I r h
 obtain⟨x,rfl,h⟩:=l1.ex h
 obtain⟨p,rfl,bs,k,q⟩:=vR.ex h
 obtain⟨u,rfl,l⟩:=vals1 r
 cases l
 obtain⟨m,n,pl,_⟩:=I.list k
 have o:=rH n
 subst o
 have a:=pl.isList
 have c:p<s.heap.objs.size:=by obtain⟨_,e,_⟩:=a;exact Yt e
 refine call_all_walk (wpAny_pyIter_list a ?_)
 refine⟨_,_,_,_,_,_,λi=>bs.getD i false,rfl,Walks.list (A:=X.A.in1) (I.ok.hd j) _ p (YI c) _,⟨⟨_,YG _ rfl,rfl,rfl⟩,a.push _⟩,?_,λC D t=>?_⟩
 ·intro i v E F G w f
  have g:(bs.map Value.bool)[i]? =some v:=by simpa using w
  rw[Yl]at g
  obtain⟨b,y,rfl⟩:=YH.mp g
  have:bs.getD i false=b:=by rw[Yf,y];rfl
  simp only[this]at f
  exact Xm f
 ·have e:(bs.map Value.bool).toArray.size=bs.length:=by simp
  rw[e,all_range]
  exact⟨.bl _,H,I.kept (old_kept t),rfl,q⟩
section
variable {P:Program}{w:World}{mg:Str->Option Value}{base:Heap}{N:List Str}{qual:Str}{scope:Scope}{f:Addr}{cd:Value}{A:Around}{outer:List Env}{s:Shared}{E:XK}
end
section
variable {np hpos:Pos}{y n:Str}{C:Addr}{i:Nat}{b₀:Stmt}{suite:List Stmt}{ts:TS}{hs:List ExceptHandler}{th:TH}
end
section
variable {o e value:Expr}{es:List Expr}{to ta tv:TE}{t:TA}{apos cpos pos':Pos}{C:Addr}{f m:Str}
def c5A (C:Addr)(c:TE)(f:Str):TE:=λd H Q=>c d H λx b=>vR x λa=>∃dx fs v,b a=some (.ins C dx fs)/\fs.lookup f=some v/\Q v b
def aP (c:Cls X.K C)(n:bM X.K C f)(b:PE X e ta)(d:attributeBase e f X.env (eval e X.env)=eval e X.env:=by rfl):PE X (.Attribute e f pos) (c5A C ta f):=
 (a9L (cR b) d).imp λl H Q h=>⟨_,h,λx m q=>by
  obtain⟨a,rfl,g,fs,v,i,j,k⟩:=vR.ex q
  exact⟨a,C,g,fs,v,rfl,i,c,n,j,k⟩⟩
def c4Y (C:Addr)(d e:TE)(f:Str):TS:=λD b H=>e b H λy g=>d b g λx c=>vR x λa=>∃dx fs,c a=some (.ins C dx fs)/\fs.length<1000/\D.nx b (upd c a (.ins C dx (gD f y fs)))
def bU (c:Cls X.K C)(n:bM X.K C f)(b:PE X o ta)(d:PE X value tv)(e:swapsWith value (some (.Attribute o f pos')) pos.line X.env=pure false:=by rfl):
  PS X (.Assign [.Attribute o f pos'] value pos) (c4Y C ta tv f):=
 (a9G (cR b) (cR d) e).imp λD m H h=>⟨_,h,λy p q=>⟨_,q,λx r g=>by
  obtain⟨a,rfl,i,fs,j,k,l⟩:=vR.ex g
  exact⟨a,C,i,fs,rfl,j,c,n,k,l⟩⟩⟩
variable {CX:CXT}{k:Nat}{fa:Addr}{fd:FuncData}{ps:List Str}{sp:Sp}{dvs:List V}{ds:List Value}{E:XK}
def b6N (C:Addr)(m:Str)(sp:Sp)(dvs:List V)(E:XK)(d:TE)(t:TA):TE:=λb H Q=>d b H λx c=>vR x λa=>(∃dx fs,c a=some (.ins C dx fs)/\fs.lookup m=none)/\t b c λe f=>sp (.ref a::(e++dvs)) f Q E
theorem cD {pl:Sem Bool}(c:Cls X.K C)(g:Meth X.K C m fa)(F:iV X.prog X.w X.K X.mg X.base CX k fa fd ps sp)(i:fB k X.A)(j:Binds X.K fd ps ds)(hd:Vals dvs ds)(l:gW CX X E)(n:PE X o ta)(p:PA X (e::es) t)
  (b:starEach (e::es) X.env=(false,eval e X.env)::starEach es X.env:=by rfl) (d:(backTo pos (starEach es X.env)).any (·.1)=false:=by rfl)
  (r:eval (.Call (.Attribute o m apos) (e::es) [] pos) X.env=(do
   let ov<-eval o X.env
   standAt apos.atName
   let (f,first)<-holding [ov] (getMethod ov m pl)
   callWith pos f first (backTo pos (starEach (e::es) X.env)) (backToKw pos (keywordEach [] X.env))):=by rfl) :
  PE X (.Call (.Attribute o m apos) (e::es) [] pos) (b6N C m sp dvs E ta t):=
 (b4C (pl:=pl) (cR n) c g F i j hd l (sO p) b d r).imp λB H Q h=>⟨_,h,λx D q=>by
  obtain⟨a,rfl,⟨s,fs,u,v⟩,y⟩:=vR.ex q
  exact⟨a,s,fs,rfl,u,v,_,y,λG I z=>z⟩⟩
theorem cL {pl:Sem Bool}(c:Cls X.K C)(b:Meth X.K C m fa)(F:iV X.prog X.w X.K X.mg X.base CX k fa fd ps sp)(d:fB k X.A)(e:Binds X.K fd ps ds)(hd:Vals dvs ds)(g:gW CX X E)(i:PE X o ta)
  (j:eval (.Call (.Attribute o m apos) [] [] pos) X.env=(do
   let ov<-eval o X.env
   standAt apos.atName
   let (f,first)<-holding [ov] (getMethod ov m pl)
   callWith pos f first (backTo pos (starEach [] X.env)) (backToKw pos (keywordEach [] X.env))):=by rfl) :
  PE X (.Call (.Attribute o m apos) [] [] pos) (b6N C m sp dvs E ta a5K):=
 (a9J (pl:=pl) (cR i) c b F d e hd g j).imp λs H Q h=>⟨_,h,λx t q=>by
  obtain⟨a,rfl,⟨l,fs,n,p⟩,r⟩:=vR.ex q
  exact⟨a,l,fs,rfl,n,p,r⟩⟩
end
inductive b5Q (K:W.Frag)(H:Hp):List Addr->List (Int×Int)->Prop
 |nil:b5Q K H [] []
 |cons {q:Addr} {p:Int×Int} {qs:List Addr} {ps:List (Int×Int)}:SqT K H q [.int p.1,.int p.2]->b5Q K H qs ps->b5Q K H (q::qs) (p::ps)
end L2
namespace L2
open PySem
def a2Y (K:W.Frag)(a:Addr)(ns:List Int):Prop:=∃(o:Obj)(its:Array Value)(n:Nat),K.lookup a=some o/\o.cls= .type "tuple"/\o.data= .seq its n/\its.size<=sizeLine/\Vals (ns.map V.int) its.toList
def a2Y.of {K:W.Frag}{a:Addr}{c:Option Addr}{d:Array (Option Value)}{n:Nat}{b:Array Value}{ns:List Int}(h:K.lookup a=some ⟨.type "tuple",c,.seq b n,d⟩)(e:b.size<=sizeLine)(f:Vals (ns.map V.int) b.toList):a2Y K a ns:=⟨_,b,n,h,rfl,rfl,e,f⟩
def a2Y.sq {K:W.Frag}{a:Addr}{ns:List Int}(h:a2Y K a ns)(H:Hp):SqT K H a (ns.map V.int):= .inr h
end L2
namespace L2
open PySem PySem.Spec PyProof.Rows
variable {X:Cx}{o:Expr}{e:Expr}{to:TE}{t:TA}{apos:Pos}{cpos:Pos}
def fZ {s:Stmt}:PS X s (λ_ _ _=>False):=λ_ _ _ _ _ _ h=>h.elim
def a7C {xs:List V}{a:Nat}(h:a<=xs.length):kZ xs (some (a:Int)) none=xs.drop a:=by
 unfold kZ
 rw[HT.sIx_nat,HT.sIx_none,XB h,Yi (by rw[Xp];lia)]
end L2
namespace L2
open PySem PySem.Spec PyProof.Rows PySem.MeetsSeq PySem.SeqAt
section
variable {X:Cx}{o e:Expr}{to:TE}{t:TA}{apos cpos:Pos}
end
end L2
namespace L2
open PySem PySem.Spec PyProof.Rows
variable {w:World}{X:Cx}
set_option maxRecDepth 100000
section
variable {prog:Program}{A:Around}{I:Addr}{fp wr:List Addr}{n:Nat}{P:Nat->Value->Prop}{St:Nat->Heap->Prop}{d:Value}
end
section
variable {prog:Program}{A:Around}{E:Value->Shared->Prop}{s:Shared}
end
def xT:bootBuiltins "enumerate"=some (.type "enumerate"):=by decide +kernel
section
variable {pins:List (Addr×Obj)}{σ:St}{H:Hp}{s:Shared}
theorem Inv.turnedT {h':Heap}{t':Nat}{g:List Addr}{T:Addr}{xs:List V}(I:Inv X pins σ H s)(i:∀b∈g,nH X pins H b)(k:∀b o,b∉g->s.heap.get? b=some o->h'.get? b=some o)(p:s.heap.objs.size<=T)
  (j:fC X.prog X.w (upd H T (.tup xs)) h' T (.tup xs)):Inv X pins σ (upd H T (.tup xs)) { s with heap:=h',toks:=t' }:=by
 have t:H T=none:=I.hok.fresh p
 have l:∀b o,s.heap.get? b=some o->b≠T:=λb o e z=>by
  have:=Yt e
  rw[z]at this
  exact absurd (Yh this p) (YT _)
 have d:∀b u,H b=some u->upd H T (.tup xs) b=some u:=λb u e=>by rw[aH (aL e t)];exact e
 have f:∀b u,H b=some u->b∉g:=λb u e z=>by rw[(i b z).1]at e;cases e
 refine I.step (g':=s.gens) (d':=s.drawn) (ch:=g) (λb h=>?_) (λb o _ _ a e _=>k b o a e) (λb o _ _ a e _=>⟨o.slots,k b o a e⟩) (λb o _ e n=>by rw[aH (l b o e)];exact n)
  (λb o a e=>⟨o,k b o a e⟩) (λb _ e=>d b _ e) (λb _ _ e=>d b _ e) (λb G e=>⟨#[],by rw[d b _ e];simp⟩) (λm x=>?_) (λb u e=>?_) I.bare
 ·obtain⟨J,y,K,A,B,C⟩:=i b h
  exact⟨A,y,B,C⟩
 ·obtain⟨o,D,E,F,r⟩:=x
  exact⟨o,D,E,k _ o (λz=>(i _ z).2.1 rfl) F,r⟩
 ·by_cases h:b=T
  ·subst h
   rw[aB]at e
   cases e
   exact j
  ·rw[aH h]at e
   refine(I.hok b u e).stay (λc v a q=>k c v ?_ q) (λ_ q=>d _ _ q) λ_ _ q=>d _ _ q
   rcases a with z | z
   ·rw[z];exact f b u e
   ·exact f c _ z
end
def Ite (K:W.Frag)(a:Addr):It:=
 ⟨λi H=>∃xs x,SqL K H a xs/\xs[i]? =some x,λi H v b=>∃p x,H p=none/\v= .ref p/\(∀xs,SqL K H a xs->xs[i]? =some x)/\b=upd H p (.tup [.int ((i:Nat):Int),x]),λi H=>∃xs,SqL K H a xs/\xs.length<=i⟩
def a5I {P:Program}{K:W.Frag}{elts:List Expr}{k':Nat}{pos:Pos}(a e it:Addr)(hei:e≠it):
  Turn P w K (.Tuple elts k' pos) (Ite K a) [e,it] e (λi h=>(∃old,IsEnum h e it ((i:Nat):Int) old)/\h.IsListIter it a i) where
 mem:=by simp
 obj := λi h st b hb=>by
  obtain⟨⟨old,he⟩,o,e1,c,d⟩:=st
  simp only[YL,Xz,or_false]at hb
  rcases hb with rfl | rfl
  ·exact⟨_,he,λv z=>by
    have z':Data.fields _=Data.cell v:=z
    cases z'⟩
  ·exact⟨o,e1,λv z=>by rw[d]at z;cases z⟩
 keep:=λi h h' st k=>by
  obtain⟨⟨old,he⟩,hit⟩:=st
  exact⟨⟨old,k e (by simp) _ he⟩,hit.at λo x=>k it (by simp) o x⟩
 item :=by
  intro X hP hw hK hc i pins s σ H E I hf st hg
  subst hP hw hK
  obtain⟨⟨old,he⟩,hit⟩:=st
  obtain⟨xs,x,hq,hx⟩:=hg
  obtain⟨its,rv,p,hz⟩:=I.list hq
  obtain⟨u,hu,ru⟩:=rv.get hx
  refine wpAny_pyNext_enum_item he hit p.isList (x:=u) (by simpa using hu) hei λh1 ho hit1 hT hsz hk=>?_
  refine⟨_,rfl,wpAny_letOwnedTupleGo_enum (s:={ s with heap:=h1,toks:=s.toks+1 }) ho λh2 he2 hs2=>?_⟩
  have hs2':Heap.SameBut e h1 h2:=hs2
  have eT:e≠s.heap.objs.size:=YI (Yt he)
  have iT:it≠s.heap.objs.size:=by obtain⟨o,e1,_⟩:=hit;exact YI (Yt e1)
  have hN:H s.heap.objs.size=none:=I.hok.fresh (Yd _)
  refine⟨.ref s.heap.objs.size,upd H s.heap.objs.size (.tup [.int ((i:Nat):Int),x]),I.turnedT hf (λb o hb q=>?_) (Yd _) ?_,rfl,⟨_,x,hN,rfl,λys hy=>by rw[I.list_inj hy hq];exact hx,rfl⟩,⟨⟨u,?_⟩,?_⟩,λb hb=>?_⟩
  ·have b1:b≠e:=λz=>hb (by simp[z])
   have b2:b≠it:=λz=>hb (by simp[z])
   exact(hs2'.2 b b1).trans (hk b o b1 b2 q)
  ·exact⟨(by show 2<=sizeLine;decide), [.int ((i:Nat):Int) s.toks,u],.cons ⟨_,rfl⟩ (.cons ru .nil),⟨_,(hs2'.2 _ (Va eT)).trans hT,rfl,_,rfl⟩⟩
  ·have:((i+1:Nat):Int)=((i:Nat):Int)+1:=by push_cast;rfl
   rw[this];exact he2
  ·exact hit1.at λo y=>(hs2'.2 it (Va hei)).trans y
  ·have h1:=(hf b hb).1
   have:b≠s.heap.objs.size:=by
    simp only[YL,Xz,or_false]at hb
    rcases hb with rfl | rfl
    ·exact eT
    ·exact iT
   rw[aH this];exact h1
 done:=by
  intro X hP hw hK hc i pins s σ H E I hf st hg
  subst hP hw hK
  obtain⟨⟨old,he⟩,hit⟩:=st
  obtain⟨xs,hq,hx⟩:=hg
  obtain⟨its,rv,p,hz⟩:=I.list hq
  obtain⟨f0,f1,f2,f3,f4,f5⟩:=hf it (by simp)
  have hl:=rv.length
  exact wpAny_pyNext_enum_end (I.ok.hd hc) he hit p.isList (Array.getElem?_eq_none (by simp;lia)) λh' eb=>⟨rfl,I.turned (t':=s.toks) (λb o hb e=>eb b o hb e) f0 f1 f3 f4 f5⟩
 self:=λ_ _ _ _ _ st h=>by
  obtain⟨⟨old,he⟩,_⟩:=st
  exact wpAny_pyIter_enum he h
def c2Z (K:W.Frag)(c:TA):TI:=λd H R=>c d H λe b=>l1 e λx=>vR x λa=>(∃xs,SqL K b a xs)/\R (Ite K a) b
def b4P {a:Expr}{m:TA}{p pos f:Pos}{g:List Expr}{w:Nat}(y:Gl X "enumerate")(z:X.mg "enumerate"=none)(A:PA X [a] m)(B:starEach [a] X.env= [(false,eval a X.env)]:=by rfl):
  PI X (.Tuple g w f) (.Call (.Name "enumerate" p) [a] [] pos) (c2Z X.K m):=by
 intro c s n H R I h
 refine Call_ (pU I y z xT (XV (thn (A pos c s n H _ I h) λM d i=>?_) B rfl))
 obtain⟨N,o,e,C,j⟩:=i
 obtain⟨x,rfl,j⟩:=l1.ex j
 obtain⟨l,rfl,⟨xs,D⟩,q⟩:=vR.ex j
 obtain⟨u,rfl,E⟩:=vals1 C
 cases E
 obtain⟨F,O,pl,P⟩:=e.list D
 refine call_enumerate_list pl.isList λr t k G J=>?_
 refine wpAny_pyIter_enum (s:={ d with heap:=r }) t ?_
 have L:Inv X c n o { d with heap:=r }:=e.kept (t':=d.toks) J
 refine⟨d.heap.objs.size+1, [d.heap.objs.size+1,d.heap.objs.size],_,_,o,rfl,L,a5I l _ _ (Nat.succ_ne_self _),⟨⟨_,t⟩,k⟩,λb v=>?_,q⟩
 simp only[YL,Xz,or_false]at v
 rcases v with rfl | rfl
 ·exact e.fpOk (XM _) (e.hok.fresh (XM _))
 ·exact e.fpOk (Yd _) (e.hok.fresh (Yd _))
def gT2 (K:W.Frag)(i j:Nat):TG:=λv b H Q=>vR v λa=>∃x y,SqT K H a [x,y]/\Q ((b.set i (some x)).set j (some y)) H
def mg2 {tg:Expr}{i j:Nat}(h:PG X tg (c2P X.K 2 (b0Z (vK i) (b0Z (vK j) c2Q)))):PG X tg (gT2 X.K i j):=by
 intro b s c H v u Q I r q
 obtain⟨a,rfl,x,y,d,e⟩:=vR.ex q
 exact h b s c H _ u Q I r ⟨a,_,rfl,d,rfl,_,_,rfl,_,_,rfl,rfl,e⟩
theorem b1A {K:W.Frag}{a:Addr}{xs:List V}{g:TG}{c:TS}{D:Ends}{σ:St}{H:Hp}(b:Nat->St->Hp->Prop)(d:b 0 σ H)(f:∀i σ H,i<=xs.length->b i σ H->SqL K H a xs)
  (h:∀i x σ H p,xs[i]? =some x->b i σ H->H p=none->g (.ref p) σ (upd H p (.tup [.int ((i:Nat):Int),x])) λσ2 H2=>c { D with nx:=b (i+1),ct:=b (i+1),bk:=D.nx } σ2 H2) (hd:∀σ H,b xs.length σ H->D.nx σ H) :
  ∃ W:Nat->Nat->St->Hp->Prop,(∃m,W 0 m σ H)/\∀i m σ H,W i m σ H->
   ((Ite K a).stop i H/\D.nx σ H)\/((Ite K a).go i H/\∃N:St->Hp->Prop,(∀σ' H',N σ' H'->∃m',m'<m/\W (i+1) m' σ' H')/\∀x H',(Ite K a).yld i H x H'->g x σ H' λσ2 H2=>c { D with nx:=N,ct:=N,bk:=D.nx } σ2 H2):=by
 refine⟨λi m σ H=>m=xs.length-i/\i<=xs.length/\b i σ H,⟨xs.length,by simp,YV _,d⟩,?_⟩
 rintro i m σ H ⟨rfl,j,p⟩
 have q:=f i σ H j p
 by_cases hlt:i<xs.length
 ·refine .inr ⟨⟨xs,xs[i],q,by simp[hlt]⟩,b (i+1),λσ' H' k=>⟨xs.length-(i+1),by lia,rfl,hlt,k⟩,?_⟩
  rintro v H' ⟨t,x,l,rfl,n,rfl⟩
  exact h i x σ H t (n xs q) p l
 ·have e:i=xs.length:=by lia
  subst e
  exact .inl ⟨⟨xs,q,Yd _⟩,hd σ H p⟩
end L2
namespace L2
open PySem PySem.W PyProof.Rows
section
variable {N:Nat}{K:Nat->Nat}{cmp:Nat->Nat->(Bool->Shared->Prop)->Shared->Prop}{s:Shared}
end
section
variable {prog:Program}{w:World}{A:Around}{E:Value->Shared->Prop}{s:Shared}
end
section
variable {X:Cx}
end
end L2
namespace L2
open PySem PySem.Spec PyProof.Rows
variable {x:Str}{y:Str}{c0:Addr}{cl:List (Str×Addr)}{scope:Scope}{X:Cx}{C:Addr}{pos:Pos}{o:Expr}{e:Expr}{es:List Expr}{ta:TE}{t:TA}{apos:Pos}{m:Str}{k:Nat}{fa:Addr}{fd:FuncData}{ps:List Str}{sp:Sp}{dvs:List V}{ds:List Value}
abbrev vP (scope:Scope)(cl:List (Str×Addr))(x:Str)(C:Addr)(env:Env):Env:=compEnvC scope ((x,C+1)::cl) C env
def lK (X:Cx)(a:Scope)(cl:List (Str×Addr))(x:Str)(ix:List Nat)(C:Addr)(d:List Addr)(b:Shared)(c:Hp):Cx:={ dU X a ((x,C+1)::cl) x ix C d b c with fn:=λy=>y == x }
structure CsC (X:Cx)(scope:Scope)(cl:List (Str×Addr))(x:Str)(ix:List Nat):Prop where
 clos:closureFor scope X.env=pure cl
 kind:scope.kind= .function
 loc:scope.names.lookup x=some .cell
 one:∀y∈scope.names,y.2= .local->y.1=".0"
 locs:∀y∈scope.names,y.2= .local->scope.names.lookup y.1=some .local
 onec:∀y∈scope.names,y.2= .cell->y.1=x
 free:∀y∈scope.names,y.2= .free->(X.env.kindOf y.1=some .cell\/X.env.kindOf y.1=some .free)
 cells:∀y∈scope.names,y.2= .free->∃c,cl.lookup y.1=some c
 same:∀y∈cl,X.env.cells.lookup y.1=some y.2
 nd:((".0":Str)::x::lE X.N ix).Nodup
 ce:∀n acc,cellsFrom n scope.names acc=(x,n)::acc
 pc:∀h,pushCells h scope.names=h.push { cls:= .type "cell",data:= .cell none }
def lkC {c:Addr}(h:((x,c0)::cl).lookup y=some c):(y=x/\c=c0)\/(y≠x/\cl.lookup y=some c):=by
 rw[Y4]at h
 cases e:y == x with
 |true=>rw[e]at h;cases h;exact .inl ⟨eq_of_beq e,rfl⟩
 |false=>rw[e]at h;exact .inr ⟨(λz=>by rw[z,Jm]at e;cases e),h⟩
def c4L (h:y=x):((x,c0)::cl).lookup y=some c0:=by
 rw[Y4,h,Jm]
def c2J (h:y≠x):((x,c0)::cl).lookup y=cl.lookup y:=by
 rw[Y4,Xf.mpr h]
def nF {env:Env}(h:scope.names.lookup x=some .cell):(relabel scope env).names.lookup x=some .cell:=by
 show (scope.names.map λ(n,k)=>if (k == NameKind.free && env.scope.kind == .function && env.kindOf n == some .cell) then (n,NameKind.cell) else (n,k)).lookup x=some .cell
 revert h
 induction scope.names with
 |nil=>intro h;cases h
 | cons p r ih=>
  obtain⟨n,k⟩:=p
  intro h
  rw[Y4]at h
  rw[YK]
  cases e:x == n with
  | true=>
   rw[e]at h
   cases h
   show List.lookup x ((n,NameKind.cell)::_)=_
   rw[Y4,e]
  | false=>
   rw[e]at h
   have a:∀b,List.lookup x ((n,b)::(r.map λ(n,k)=>if (k == NameKind.free && env.scope.kind == .function && env.kindOf n == some .cell) then (n,NameKind.cell) else (n,k)))=some .cell:=λb=>by
    rw[Y4,e]
    exact ih h
   cases c:(k == NameKind.free && env.scope.kind == .function && env.kindOf n == some .cell) with
   |true=>simp only[c,if_true];exact a _
   |false=>simp only[c,Bool.false_eq_true,if_false];exact a _
theorem b4O {M:Model}{A:Around}{E:Value->Shared->Prop}{s:Shared}{scope:Scope}{globals:Addr}{b:List (Str×Addr)}{qual:Str}{func:Option Addr}{code:Value}{a:Env}{builtins:Addr}{x:Str}{Q:Env->Shared->Prop}
  (d:∀n acc,cellsFrom n scope.names acc=(x,n)::acc) (e:∀h,pushCells h scope.names=h.push { cls:= .type "cell",data:= .cell none })
  (g:Q { scope:=scope,locals:=s.heap.objs.size,globals:=globals,cells:=(x,s.heap.objs.size+1)::b,qual:=qual,func:=func,code:=a.code,frame:=a.frame,builtins:=a.builtins } { s with heap:=(s.heap.push { cls:= .type "dict",data:= .dict #[] }).push { cls:= .type "cell",data:= .cell none } }) :
  wpAny M A (newFunctionEnv scope globals b [] qual func code (some a) builtins) Q E s:=by
 simp only[newFunctionEnv,Option.isSome_some,if_true]
 refine YX (wpAny_alloc ?_)
 refine YX (wpAny_layCells _ (λf c cells=>by cases hkc:c == NameKind.cell <;> simp[hkc]) _ _ _ _ ?_)
 rw[d,e]
 rw[show ({ s with heap:=s.heap.push { cls:= .type "dict",data:= .dict #[] } }:Shared).heap.objs.size=s.heap.objs.size+1 from X6 ..]
 refine YX ?_
 rw[List.forIn_nil]
 exact Xc (Xc g)
section
variable {ix:List Nat}{fp:List Addr}
def CsC.look (S:CsC X scope cl x ix){c:Addr}(h:cl.lookup y=some c):X.env.cells.lookup y=some c:=S.same _ (lookup_mem h)
theorem CsC.ok (S:CsC X scope cl x ix){pins:List (Addr×Obj)}{σ:St}{H:Hp}{s:Shared}(I:Inv X pins σ H s)(hf:∀b∈fp,nH X pins H b)(hfl:∀b∈fp,b<s.heap.objs.size)(hC:s.heap.objs.size<=C):
  (lK X scope cl x ix C fp s H).Ok where
 mod:=I.ok.mod
 kind:=S.kind
 glob:=I.ok.glob
 blt:=I.ok.blt
 above:=hC
 inj :=λy z c h1 h2=>by
  have low:∀{y:Str},cl.lookup y=some (C+1)->False:=λ{y} e=>by
   obtain⟨v,oc,hoc,_⟩:=I.cell y _ (S.look e)
   exact absurd (Yh (Yt hoc) hC) (by lia)
  rcases lkC h1 with ⟨rfl,rfl⟩ | ⟨n1,e1⟩ <;> rcases lkC h2 with ⟨e3,e4⟩ | ⟨n2,e2⟩
  ·exact e3.symm
  ·exact(low e2).elim
  ·exact(low (e4▸e1)).elim
  ·exact I.ok.inj y z c (S.look e1) (S.look e2)
 has := λy h=>by
  have h':(relabel scope X.env).names.lookup y=some .cell\/(relabel scope X.env).names.lookup y=some .free:=h
  have fr:y=x\/scope.names.lookup y=some .free:=by
   rcases h' with h' | h'
   ·obtain⟨k0,e,q | q⟩:=cW h'
    ·exact .inl (S.onec _ (lookup_mem e) q.symm)
    ·exact .inr (by rw[e,q.1])
   ·obtain⟨k0,e,q | q⟩:=cW h'
    ·exact .inr (by rw[e,<-q])
    ·cases q.2
  by_cases c:y=x
  ·exact⟨C+1,c4L c⟩
  ·obtain⟨d,e⟩:=S.cells _ (lookup_mem (fr.resolve_left c)) rfl
   exact⟨d,(c2J c).trans e⟩
 cab:=λy c h e=>by
  rcases lkC e with ⟨_,rfl⟩ | ⟨n,_⟩
  ·exact Nat.le_succ_of_le hC
  ·exact absurd (eq_of_beq h) n
 hd:=I.ok.hd
 frames:=I.ok.frames
 stk:= .inl rfl
 exf:=λb hb=>⟨YI (Yh (hfl b hb) hC),λy c e=>by
  rcases lkC e with ⟨_,rfl⟩ | ⟨_,e⟩
  ·exact Jx (Jh (Yh (hfl b hb) hC))
  ·exact(hf b hb).2.2.2.2.1 y c (S.look e)⟩
 bs:=I.bs
 bsz:=YS I.ok.bsz I.sz
 noex:=λb o e hb=>by
  rcases (hf b hb).2.2.2.1 with z | z
  ·exact I.ok.noex b o e z
  ·exact absurd (Yh (Yt e) (YS I.ok.bsz z)) (YT _)
 exfs:=λb hb z=>by
  rcases YL.mp (I.stkSub b z) with e | e
  ·exact(hf b hb).2.1 e
  ·exact(hf b hb).2.2.1 e
 funs:=I.stack
 frf:=I.stkFree
theorem CsC.inv (S:CsC X scope cl x ix){pins:List (Addr×Obj)}{σ:St}{H:Hp}{s s1:Shared}{m:Str->Option Value}(I:Inv X pins σ H s)(hf:∀b∈fp,nH X pins H b)(hfl:∀b∈fp,b<s.heap.objs.size)
  (hC:s.heap.objs.size<=C) (os:s1.os=s.os) (bare:AllBare s1.gens) (k:∀b o,s.heap.get? b=some o->s1.heap.get? b=some o) (hn:s1.heap.Ns C m) (hcl:s1.heap.IsCell (C+1) none) :
  Inv (lK X scope cl x ix C fp s H) [] (none::gM σ ix) H s1 where
 ok:=S.ok I hf hfl hC
 os:=os
 bare:=bare
 base:=Un.kept k
 loc := ⟨m, hn,λi y v h1 h2 h3=>by
  cases i with
  |zero=>cases (show none=some v from Yp h2)
  | succ j =>
   obtain⟨i,e1,e2⟩:=yV (N:=X.N) (show (lE X.N ix)[j]? =some y from h1)
   obtain⟨i',e1',e3⟩:=yU (σ:=σ) (show (gM σ ix)[j]? =some (some v) from h2)
   rw[e1]at e1';cases e1'
   have hi:i<X.N.length:=by rw[<-I.len];exact(Ye.mp e3).1
   have hy:X.N[i]? =some y:=by rw[e2,Yf,Yb hi];rfl
   have ne:y≠x:=by
    rintro rfl
    have nd:=(YQ.mp S.nd).2
    exact(YQ.mp nd).1 (Yx (show (lE X.N ix)[j]? =some y from h1))
   have h3':(relabel scope X.env).names.lookup y=some .local\/(relabel scope X.env).names.lookup y=some .cell\/(relabel scope X.env).names.lookup y=some .free:=h3
   have fr:scope.names.lookup y=some .free/\((relabel scope X.env).names.lookup y=some .cell\/(relabel scope X.env).names.lookup y=some .free):=by
    rcases h3' with z | z | z
    ·obtain⟨k0,e,q | q⟩:=cW z
     ·have z':y=".0":=S.one _ (lookup_mem e) q.symm
      exact absurd (Yv _ (Yx (show (lE X.N ix)[j]? =some y from h1))) (z'▸(YQ.mp S.nd).1)
     ·cases q.2
    ·obtain⟨k0,e,q | q⟩:=cW z
     ·exact absurd (S.onec _ (lookup_mem e) q.symm) ne
     ·exact⟨by rw[e,q.1],.inl z⟩
    ·obtain⟨k0,e,q | q⟩:=cW z
     ·exact⟨by rw[e,<-q],.inr z⟩
     ·cases q.2
   have vis:=S.free _ (lookup_mem fr.1) rfl
   obtain⟨m0,_,l0⟩:=I.loc
   obtain⟨u,r,l⟩:=l0 i y v hy e3 (vis.elim (λz=> .inr (.inl z)) λz=> .inr (.inr z))
   refine⟨u,r,.inr ⟨fr.2,?_⟩⟩
   rcases l with ⟨k1,_⟩ | ⟨_,c,ec,oc,hoc,hd⟩
   ·rcases vis with z | z
    ·have:=k1.symm.trans z;cases this
    ·have:=k1.symm.trans z;cases this
   ·obtain⟨c',e'⟩:=S.cells _ (lookup_mem fr.1) rfl
    have:some c'=some c:=(S.look e').symm.trans ec
    cases this
    exact⟨c,(c2J ne).trans e',oc,k _ _ hoc,hd⟩⟩
 cell :=λy c e=>by
  rcases lkC e with ⟨_,rfl⟩ | ⟨_,e⟩
  ·exact⟨none,hcl⟩
  ·obtain⟨v,oc,hoc,hd⟩:=I.cell y c (S.look e)
   exact⟨v,oc,k _ _ hoc,hd⟩
 free:=I.hok.fresh hC
 freeC:=λy c e=>by
  rcases lkC e with ⟨_,rfl⟩ | ⟨_,e⟩
  ·exact I.hok.fresh (Nat.le_succ_of_le hC)
  ·exact I.freeC y c (S.look e)
 pin:=λp hp=>absurd (show p∈([]:List (Addr×Obj)) from hp) (by simp)
 hok:=I.hok.kept k
 len:=by show (none::gM σ ix).length=(x::lE X.N ix).length;simp[gM,lE]
end
section
variable {ix:List Nat}{elt iter:Expr}{ifs:List Expr}{px:Pos}{wi:TI}{tt:TT}{te:TE}
theorem a0S (S:CsC X scope cl x ix)(hc:X.calm=true)
    (ht:∀C fp s H,jJ X C fp s H->PTs (lK X scope cl x ix C fp s H) ifs tt) (he:∀C fp s H,jJ X C fp s H->PE (lK X scope cl x ix C fp s H) elt te)
    {pins:List (Addr×Obj)} {σ:St} {Q:VK} {itv:Value} {s2:Shared} {E:Value->Shared->Prop} {RR:Value->Addr->Result->Shared->Prop} (h2:PIE X pins σ (.Name x px) (λJ H1=>qG J tt te (λx=>some x::gM σ ix) H1 Q) itv s2)
    (fin:∀(D C:Addr)(H:Hp)(s':Shared)(m:Str->Option Value),Inv X pins σ H s'->s'.heap.Ns C m->H C=none->s2.heap.objs.size<=C->(∀p∈X.pn++pins,p.1≠C)->X.env.locals≠C->(∀y c,X.env.cells.lookup y=some c->c≠C)->X.s₀.heap.objs.size<=C->Q (.ref D) H->RR (.ref D) C (.ok .next) s')
    (fex:∀(D C:Addr)(e:Value)(s':Shared),a2U X scope ((x,C+1)::cl) C e s'->notedBy (model X.prog X.w) X.A (vP scope cl x C X.env) (λe s'=>RR (.ref D) C (.error e) s') e s') :
    wpAny (model X.prog X.w) X.A (newList []) (λacc s₃=>wpAny (model X.prog X.w) X.A (newFunctionEnv scope X.env.globals cl [] X.env.qual none .none (some X.env)) (λcenv s₄=>
      codeAny (model X.prog X.w) X.A (.compStart (.ListComp elt [⟨.Name x px,iter,ifs,0⟩] scope pos) 0 itv acc { cenv with scope:=relabel scope X.env }) (RR acc cenv.locals) s₄) E s₃) E s2:=by
  obtain⟨it,fp,tn,J,l,rfl,I,T,b6,U,W,⟨m0,w0⟩,turn⟩:=h2
  have t:∀b∈fp,b<s2.heap.objs.size:=λb a=>by
    obtain⟨o,e,_⟩:=T.obj _ _ b6 b a
    exact Yt e
  refine wpAny_newObj_type (b4O S.ce S.pc ?_)
  dsimp only
  generalize hH2:s2.heap.push { cls:= .type "list",dict:=none,data:= .seq ([]:List Value).toArray }=G2
  have hC:G2.objs.size=s2.heap.objs.size+1:=by rw[<-hH2,X6]
  have Z:s2.heap.objs.size≠G2.objs.size:=by rw[hC];exact YI (Xi _)
  have g:s2.heap.objs.size<=G2.objs.size:=by rw[hC];exact XM _
  generalize hh1:(G2.push { cls:= .type "dict",data:= .dict #[] }).push { cls:= .type "cell",data:= .cell none }=h₁
  have a0:h₁.Ns G2.objs.size (λ_=>none):=by
    rw[<-hh1]
    exact(Heap.Ns.new G2 (.type "dict")).keeps λb o e=>Yk _ e
  have a6:h₁.IsCell (G2.objs.size+1) none:=by
    rw[<-hh1]
    exact⟨_,by rw[show G2.objs.size+1=(G2.push { cls:= .type "dict",data:= .dict #[] }).objs.size from (X6 ..).symm];exact YG _ rfl,rfl⟩
  have k:∀b,b<s2.heap.objs.size->b≠G2.objs.size/\b≠s2.heap.objs.size:=λb a=>⟨by rw[hC];exact YI (Jh a),YI a⟩
  have at0:jJ X G2.objs.size fp s2 l:=⟨⟨pins,σ,I,U⟩,t,g⟩
  have b7:∀b o,s2.heap.get? b=some o->h₁.get? b=some o:=λb o e=>hh1▸Yk _ (Yk _ (hH2▸Yk _ e))
  have b9:h₁.get? s2.heap.objs.size=some { cls:= .type "list",data:= .seq ([]:List Value).toArray 0 }:=hh1▸Yk _ (Yk _ (hH2▸YG _ rfl))
  have c0:tn 0 h₁:=T.keep _ _ _ b6 λb _ o e=>b7 b o e
  have a9:∀{H':Hp},(∀b∈fp,H' b=none)->∀b∈fp,nH (lK X scope cl x ix G2.objs.size fp s2 l) [] H' b:=λhn b a=>
    ⟨hn b a,(k b (t b a)).1,λz=>by
      rcases YL.mp (I.stkSub b z) with e | e
      · exact(U b a).2.1 e
      · exact(U b a).2.2.1 e,.inl a,λy c e=>(by
      rcases lkC e with ⟨_,rfl⟩ | ⟨_,e⟩
      · exact Jx (Jh (Yh (t b a) g))
      · exact(U b a).2.2.2.2.1 y c (S.look e)),λp F=>absurd (show p∈([]:List (Addr×Obj)) from F) (by simp)⟩
  have I3:∀s₃:Shared,s₃={ s2 with heap:=h₁ }->Inv (lK X scope cl x ix G2.objs.size fp s2 l) [] (none::gM σ ix) l s₃:=λs₃ e=>by
    subst e
    exact S.inv I U t g rfl I.bare b7 a0 a6
  let Acc:List V->Heap->Prop:=λM h=>∃f n,Vals M f/\h.get? s2.heap.objs.size=some { cls:= .type "list",data:= .seq f.toArray n }
  have b0 :∀s₃:Shared,s₃={ s2 with heap:=h₁ }->
      codeAny (model X.prog X.w) X.A (.compLoop (.ListComp elt [⟨.Name x px,iter,ifs,0⟩] scope pos) 0 (.ref it) (.ref s2.heap.objs.size) (vP scope cl x G2.objs.size X.env)) (RR (.ref s2.heap.objs.size) G2.objs.size) s₃:=by
    intro s₃ O
    refine pC (λn s'=>∃i M H',Inv (lK X scope cl x ix G2.objs.size fp s2 l) [] (none::gM σ ix) H' s'/\H' s2.heap.objs.size=none/\Acc M s'.heap/\tn i s'.heap/\(∀b∈fp,H' b=none)/\W i n M H') ?_ m0
      ⟨0, [],l,I3 s₃ O,I.hok.fresh (Yd _),⟨[],0,.nil,by rw[O];exact b9⟩,by rw[O];exact c0,λb a=>(U b a).1,w0⟩
    rintro n s4 ⟨i,M,H4,I4,a7,⟨f,Y,rv,eD⟩,c1,c2,w4⟩
    obtain⟨hsz,q4⟩:=turn i n M H4 w4
    have d6:=rv.length
    rcases q4 with ⟨c3,qn⟩ | ⟨go,N,hN,step⟩
    · refine Y6 (T.done (lK X scope cl x ix G2.objs.size fp s2 l) rfl rfl rfl hc i [(s2.heap.objs.size,{ cls:= .type "list",data:= .seq f.toArray Y })] s4 (none::gM σ ix) H4 (λ_ _=>False) ?_ ?_ c1 c3) (λr s5 ⟨hr,I5⟩=>?_) λ_ _ z=>z.elim
      · refine I4.pins_of λp F=>?_
        rw[Ym.mp F]
        exact⟨eD,a7,Z,λz=>by
          have:=JD I.stack z
          obtain⟨_,o,ho,_⟩:=this
          exact YT _ (Yt ho),λv z=>by cases z⟩
      · intro b a
        obtain⟨a1,a2,a3,a4,a5,_⟩:=a9 c2 b a
        exact⟨a1,a2,a3,a4,a5,λp F=>by
          rw[Ym.mp F]
          exact λz=>(k b (t b a)).2 z.symm⟩
      subst hr
      have c7:=(I5.pin _ (by simp:(s2.heap.objs.size,({ cls:= .type "list",data:= .seq f.toArray Y }:Obj))∈(lK X scope cl x ix G2.objs.size fp s2 l).pn++[(s2.heap.objs.size,{ cls:= .type "list",data:= .seq f.toArray Y })])).1
      have K:∀b u,H4 b=some u->b≠s2.heap.objs.size:=λb u e z=>by rw[z,a7]at e;cases e
      have c8:HOk X.prog X.w (upd H4 s2.heap.objs.size (.lst M)) s5.heap:=by
        intro b u e
        by_cases a:b=s2.heap.objs.size
        · subst a
          rw[aB]at e
          cases e
          exact⟨XD hsz,f,Y,rv,c7⟩
        · rw[aH a]at e
          exact(I5.hok b u e).stay (λc v _ q=>q) (λc q=>by rw[aH (K c _ q)];exact q) λc xs q=>by rw[aH (K c _ q)];exact q
      have un:Un (frs X.stack) fp l (upd H4 s2.heap.objs.size (.lst M)) s2.heap s5.heap:=by
        have B:=I5.base
        exact⟨B.keep,B.slot,λb o e n hx=>by rw[aH (k b (Yt e)).2];exact B.free b o e n hx,B.there,
          λb xs e=>by rw[aH (K b _ (B.tups b xs e))];exact B.tups b xs e,λb o u e=>by rw[aH (K b _ (B.frzs b o u e))];exact B.frzs b o u e,
          λb ps e=>by
            obtain⟨mm,z⟩:=B.tbls b ps e
            exact⟨mm,by rw[aH (K b _ z)];exact z⟩⟩
      have J5:Inv X pins σ (upd H4 s2.heap.objs.size (.lst M)) s5:=I.call' (ch:=fp) I5.os un c8 I5.bare λb a=>⟨(U b a).2.2.2.1,(U b a).2.1,(U b a).2.2.2.2.1,(U b a).2.2.2.2.2⟩
      obtain⟨mC,c9,_⟩:=I5.loc
      refine fin _ _ _ _ mC J5 c9 (by rw[aH (Va Z)];exact I5.free) g (λp F z=>?_) (YI (Yh I.lt g)) (λy c e z=>?_) (YS I.sz g) (qn _ a7)
      · exact absurd (Yh (Yt (I.pin p F).1) g) (by rw[z];exact YT _)
      · obtain⟨v,oc,b3,_⟩:=I.cell y c e
        exact absurd (Yh (Yt b3) g) (by rw[z];exact YT _)
    · have c4:∀{pl:List (Addr×Obj)}{σ':St}{H':Hp}{s':Shared}{its':List Value}{k':Nat},Inv (lK X scope cl x ix G2.objs.size fp s2 l) pl σ' H' s'->s'.heap.get? s2.heap.objs.size=some { cls:= .type "list",data:= .seq its'.toArray k' }->H' s2.heap.objs.size=none->
          Inv (lK X scope cl x ix G2.objs.size fp s2 l) [(s2.heap.objs.size,{ cls:= .type "list",data:= .seq its'.toArray k' })] σ' H' s':=λI' e' n'=>I'.pins_of λp F=>by
        rw[Ym.mp F]
        exact⟨e',n',Z,λz=>by
          obtain⟨_,o,ho,_⟩:=JD I.stack z
          exact YT _ (Yt ho),λv z=>by cases z⟩
      have P:∀{H':Hp},(∀b∈fp,H' b=none)->∀b∈fp,nH (lK X scope cl x ix G2.objs.size fp s2 l) [(s2.heap.objs.size,{ cls:= .type "list",data:= .seq f.toArray Y })] H' b:=λhn b a=>by
        obtain⟨a1,a2,a3,a4,a5,_⟩:=a9 hn b a
        exact⟨a1,a2,a3,a4,a5,λp F=>by
          rw[Ym.mp F]
          exact λz=>(k b (t b a)).2 z.symm⟩
      refine Y6 (T.item (lK X scope cl x ix G2.objs.size fp s2 l) rfl rfl rfl hc i _ s4 _ H4 (λ_ _=>False) (c4 I4 eD a7) (P c2) c1 go) (λr s5 G=>?_) λ_ _ z=>z.elim
      obtain⟨u,hr,h5⟩:=G
      subst hr
      refine Y6 h5 (λ_ s6 G=>?_) λ_ _ z=>z.elim
      obtain⟨y,H6,I6,r6,y6,b4,d0⟩:=G
      have d1:=I6.pinned (P d0) (T.obj _ _ b4)
      have d2:(relabel scope X.env).names.lookup x=some .cell:=nF S.loc
      refine Jp (mF (X:=lK X scope cl x ix G2.objs.size fp s2 l) (i:=0) d1 (YQ.mp S.nd).2 rfl (.inr d2) r6 (λs7 I7=>?_) (.inl (Jm x)))
      have q7:=step y H6 y6
      refine Y6 (ht _ _ _ _ at0 _ s7 (some y::gM σ ix) H6 _ I7 q7) (λok s8 G=>?_) λ_ _ z=>fex _ _ _ _ z
      obtain⟨H8,I8,q8⟩:=G
      have kept:∀{c5:St}{L:Hp}{R:Shared},Inv (lK X scope cl x ix G2.objs.size fp s2 l) ([(s2.heap.objs.size,{ cls:= .type "list",data:= .seq f.toArray Y })]++pO fp s6.heap) c5 L R->
          R.heap.get? s2.heap.objs.size=some { cls:= .type "list",data:= .seq f.toArray Y }/\L s2.heap.objs.size=none/\tn (i+1) R.heap/\∀b∈fp,L b=none:=λ{c5 L R} I9=>by
        have p0:=I9.pin (s2.heap.objs.size,{ cls:= .type "list",data:= .seq f.toArray Y }) (YM _ (Xr _ (Ym.mpr rfl)))
        refine⟨p0.1,p0.2.1,T.keep _ _ _ b4 λb a o e=>(I9.pin (b,o) (YM _ (YM _ (iK a e)))).1,λb a=>?_⟩
        obtain⟨o,e,d⟩:=T.obj _ _ b4 b a
        exact(I9.pin (b,o) (YM _ (YM _ (iK a e)))).2.1
      have b1:∀{pl:List (Addr×Obj)}{L:Hp}{R:Shared},Inv (lK X scope cl x ix G2.objs.size fp s2 l) pl (some y::gM σ ix) L R->Inv (lK X scope cl x ix G2.objs.size fp s2 l) [] (none::gM σ ix) L R:=λ{pl L R} I9=>
        (I9.weak (σ':=none::gM σ ix) rfl λj v e=>by
          cases j with
          |zero=>cases (show none=some v from Yp e)
          |succ j=>exact e).pins_of λp F=>nomatch F
      cases ok with
      | true=>
        rw[if_pos rfl]at q8 ⊢
        refine Y6 (he _ _ _ _ at0 _ s8 (some y::gM σ ix) H8 _ I8 q8) (λyv R G=>?_) λ_ _ z=>fex _ _ _ _ z
        obtain⟨yy,L,I9,r9,n9⟩:=G
        obtain⟨m',b5,w9⟩:=hN _ _ n9
        obtain⟨kD,kn,kt,kf⟩:=kept I9
        refine append_at (hsz:=by rw[YB];lia) kD λd3 b2 c6=>?_
        have K:∀b u,L b=some u->b≠s2.heap.objs.size:=λb u e z=>by rw[z,kn]at e;cases e
        have d4:=b1 I9
        have a8:∀y c,((x,G2.objs.size+1)::cl).lookup y=some c->c≠s2.heap.objs.size:=λy c e z=>by
          rcases lkC e with ⟨_,rfl⟩ | ⟨_,e⟩
          · lia
          obtain⟨v,oc,b3,_⟩:=I.cell y c (S.look e)
          exact absurd (Yt b3) (by rw[z];exact YT _)
        have d5:Inv (lK X scope cl x ix G2.objs.size fp s2 l) [] (none::gM σ ix) L { R with heap:=d3 }:=d4.turned (t':=R.toks) (it:=s2.heap.objs.size) (λb o a e=>b2.extBut b o a e) kn Z (.inr (Yd _)) a8 λp F=>absurd (show p∈([]:List (Addr×Obj)) from F) (by simp)
        refine⟨m',b5,i+1,M++[yy],L,d5,kn,⟨f++[yv],Y+1,rv.append (.cons r9 .nil),?_⟩,T.keep _ _ _ kt λb a o e=>b2.extBut b o (k b (t b a)).2 e,kf,w9⟩
        refine c6.trans (YU some ?_)
        simp
      | false=>
        rw[if_neg Yr]at q8 ⊢
        obtain⟨m',b5,w9⟩:=hN _ _ q8
        obtain⟨kD,kn,kt,kf⟩:=kept I8
        exact⟨m',b5,i+1,M,H8,b1 I8,kn,⟨f,Y,rv,kD⟩,kt,kf,w9⟩
  exact codeAny_compStart_list (b0 _ rfl) (T.self _ 0 _ _ _ c0 (b0 _ rfl))
def a4Z (a:Scope)(env:Env)(x:Str):Bool:=a.names.all λy=>(y.2 != .local || (y.1 == ".0" && a.names.lookup y.1 == some .local)) && (y.2 != .cell || y.1 == x) && (y.2 != .free || env.kindOf y.1 == some .cell || env.kindOf y.1 == some .free)
def c0E (ok:X.Ok)(j:scope.kind= .function)(l:scope.names.lookup x=some .cell)(g:∀n acc,cellsFrom n scope.names acc=(x,n)::acc)(i:∀h,pushCells h scope.names=h.push { cls:= .type "cell",data:= .cell none })(d:a4Z scope X.env x=true)(m:((".0":Str)::x::lE X.N ix).Nodup):CsC X scope (bY X.env scope.names []) x ix:=by
 have all:∀y∈scope.names,(y.2= .local->y.1=".0"/\scope.names.lookup y.1=some .local)/\(y.2= .cell->y.1=x)/\(y.2= .free->(X.env.kindOf y.1=some .cell\/X.env.kindOf y.1=some .free)):=λy a=>by
  have z:=Jn.mp d y a
  simp only[XF,Bool.or_eq_true,bne_iff_ne,Jb,ne_eq]at z
  refine⟨λe=>z.1.1.resolve_left λq=>q e,λe=>z.1.2.resolve_left λq=>q e,λe=>?_⟩
  rcases z.2 with (q | q) | q
  ·exact absurd e q
  ·exact .inl q
  ·exact .inr q
 have b:∀y∈scope.names,y.2= .free->∃c,X.env.cells.lookup y.1=some c:=λy a e=>ok.has y.1 ((all y a).2.2 e)
 refine⟨?_,j,l,λy a e=>((all y a).1 e).1,λy a e=>((all y a).1 e).2,λy a=>(all y a).2.1,λy a=>(all y a).2.2,λy a e=>?_,λy a=>?_,m,g,i⟩
 ·have q:=rC scope.names [] b
  unfold closureFor
  have o:(forIn scope.names [] λ(p:Str×NameKind) (r:List (Str×Addr))=>match p with | (name,kind)=>if (kind == .free)=true then do let c<-cellOf X.env name;pure (ForInStep.yield ((name,c)::r)) else pure (ForInStep.yield r):Sem (List (Str×Addr))) >>= (λs=>pure s)=pure (bY X.env scope.names []):=by
   rw[q];rfl
  exact o
 ·obtain⟨n,k⟩:=y
  have t:k= .free:=e
  subst t
  obtain⟨c,f⟩:=lV (env:=X.env) scope.names [] (.inl a)
  exact gQ f
 ·rcases lX scope.names [] a with z | ⟨p,u,v,w,A⟩
  ·simp at z
  ·obtain⟨c,f⟩:=b p u v
   rw[w]at f
   rw[A,f];rfl
theorem zK {j:Nat}{y:Str}{f c:Pos}(O:X.N.Nodup)(P:X.N[j]? =some y)(K:X.env.scope.names.lookup y=some .local)(R:X.calm=true)(T:PI X (.Name x px) iter wi)
  (U:∀C fp s H,jJ X C fp s H->PTs (lK X scope (bY X.env scope.names []) x ix C fp s H) ifs tt) (V:∀C fp s H,jJ X C fp s H->PE (lK X scope (bY X.env scope.names []) x ix C fp s H) elt te)
  (W:scope.kind= .function) (Y:scope.names.lookup x=some .cell) (p:∀n acc,cellsFrom n scope.names acc=(x,n)::acc) (r:∀h,pushCells h scope.names=h.push { cls:= .type "cell",data:= .cell none }) (g:a4Z scope X.env x=true) (Z:((".0":Str)::x::lE X.N ix).Nodup)
  (t:swapsWith (.ListComp elt [⟨.Name x px,iter,ifs,0⟩] scope pos) (some (.Name y f)) c.line X.env=pure true:=by rfl) (hs:∀x,foldedSetIterable iter X.env x=pure x:=by intro _;rfl) :
  PS X (.Assign [.Name y f] (.ListComp elt [⟨.Name x px,iter,ifs,0⟩] scope pos) c) (b2Q (a7S ix wi tt te) (vK j)):=by
 intro d s u H D I h
 have S:CsC X scope (bY X.env scope.names []) x ix:=c0E I.ok W Y p r g Z
 rw[exec_Assign_Name_used _ _ _ _ t]
 refine YX (wpAny_standAt (YX ?_))
 show wpAny _ _ (do let _<-comprehension (.ListComp elt [⟨.Name x px,iter,ifs,0⟩] scope pos) scope X.env _ (newList []) false (eval iter X.env) (some (assign (.Name y f) X.env))) _ _ s
 refine YX (Y6 (wpAny_comprehension_free (use:=some (assign (.Name y f) X.env)) (Q:=λ_ k=>SP X d D .next k) rfl hs S.clos S.kind S.locs
  (thn (T d s u H _ I h) λv s1 h1=>thn h1 λa0 s2 h2=>?_)) (λ_ k hq=>Xc (Xc hq)) λ_ _ e=>e)
 refine a0S (Q:=λv H1=>D.nx (u.set j (some v)) H1) S R U V h2 (λl C H' k m J hn w L hp M i A q=>?_) λl C e k z=>z
 show wpAny _ _ (assign (.Name y f) X.env (.ref l)) _ _ _
 refine Jp (pM J O P (.inl K) (v:= .ref l) rfl (λB J' E=>?_) (.inr K))
 obtain⟨a,sb,ha⟩:=E
 have F:C≠a:=by
  rcases ha with e | e
  ·rw[e];exact Va M
  ·exact Va (i y a e)
 exact⟨m,hn.sameBut sb F,λh' G=>⟨u.set j (some (.ref l)),H',J'.turned (t':=B.toks) (λb o hb e=>G.extBut b o hb e) w (Va M) (.inr A) i hp,q⟩⟩
def b0E {K:W.Frag}{tg l:Expr}{a:TE}(b:PE X l a)(c:X.K=K:=by rfl):PI X tg l (b6O K a):=c▸dN b
end
structure b6S (K:W.Frag)(C:Addr)(m:Str)(f:Addr):Prop where
 ga:W.specialIn K (.ref C) "__getattribute__"=some (some (.builtin "type.__getattribute__"))
 rd:W.readsIn K C (.type "type")=true
 at_:W.findCls K (.ref C) (.type "type") m=some (.val (.ref f))
 kp:W.keepIn K (.ref f)=true
section
variable {value:Expr}{to tv:TE}{cpos pos':Pos}{f:Str}{CX:CXT}{E:XK}
def c0C (C:Addr)(sp:Sp)(dvs:List V)(E:XK)(b:TE)(t:TA):TE:=λa H Q=>b a H λx c=>x= .ref C/\t a c λd e=>sp (d++dvs) e Q E
theorem a0A {pl:Sem Bool}(b:b6S X.K C m fa)(F:iV X.prog X.w X.K X.mg X.base CX k fa fd ps sp)(n:fB k X.A)(p:Binds X.K fd ps ds)(hd:Vals dvs ds)(v:gW CX X E)(y:PE X o ta)(z:PA X (e::es) t)
  (c:starEach (e::es) X.env=(false,eval e X.env)::starEach es X.env:=by rfl) (d:(backTo pos (starEach es X.env)).any (·.1)=false:=by rfl)
  (B:eval (.Call (.Attribute o m apos) (e::es) [] pos) X.env=(do
   let ov<-eval o X.env
   standAt apos.atName
   let (f,first)<-holding [ov] (getMethod ov m pl)
   callWith pos f first (backTo pos (starEach (e::es) X.env)) (backToKw pos (keywordEach [] X.env))):=by rfl) :
  PE X (.Call (.Attribute o m apos) (e::es) [] pos) (c0C C sp dvs E ta t):=by
 intro a s j H Q I h
 refine XX (pl:=pl) (thn (y a s j H _ I h) λu L g=>?_) B
 obtain⟨x,D,i,G,ex,q⟩:=g
 subst ex
 obtain rfl:u=Value.ref C:=G
 refine W.method_cls i.kIn b.ga (W.cls_value i.kIn b.rd b.at_ rfl ?_)
 refine JC (first:=[]) (h₀:=X.base) I.ok.mod.kin b.kp (thn (z pos a _ j D _ (i.tok _) q) λM N ⟨O,P,l,r,J⟩=>⟨l.kIn,?_⟩) c d
 exact mG F n p hd v l r J
def c2Y (K:W.Frag)(c:TE)(f:Str):TE:=λd H Q=>c d H λx b=>vR x λa=>∃C dx fs v,b a=some (.ins C dx fs)/\Cls K C/\bM K C f/\fs.lookup f=some v/\Q v b
def gJ (b:PE X e ta)(d:attributeBase e f X.env (eval e X.env)=eval e X.env:=by rfl):PE X (.Attribute e f pos) (c2Y X.K ta f):=
 (a9L (cR b) d).imp λl H Q h=>⟨_,h,λx m q=>by
  obtain⟨a,rfl,C,g,fs,v,i,c,n,j,k⟩:=vR.ex q
  exact⟨a,C,g,fs,v,rfl,i,c,n,j,k⟩⟩
def c2U (K:W.Frag)(d e:TE)(f:Str):TS:=λD b H=>e b H λy g=>d b g λx c=>vR x λa=>∃C dx fs,c a=some (.ins C dx fs)/\Cls K C/\bM K C f/\fs.length<1000/\D.nx b (upd c a (.ins C dx (gD f y fs)))
def mZ (b:PE X o ta)(d:PE X value tv)(e:swapsWith value (some (.Attribute o f pos')) pos.line X.env=pure false:=by rfl):
  PS X (.Assign [.Attribute o f pos'] value pos) (c2U X.K ta tv f):=
 (a9G (cR b) (cR d) e).imp λD m H h=>⟨_,h,λy p q=>⟨_,q,λx r g=>by
  obtain⟨a,rfl,C,i,fs,j,c,n,k,l⟩:=vR.ex g
  exact⟨a,C,i,fs,rfl,j,c,n,k,l⟩⟩⟩
def b1N (K:W.Frag)(m:Str)(d:Addr)(sp:Sp)(dvs:List V)(E:XK)(e:TE)(t:TA):TE:=λb H Q=>e b H λx c=>vR x λa=>(∃C dx fs,c a=some (.ins C dx fs)/\Cls K C/\Meth K C m d/\fs.lookup m=none)/\t b c λf g=>sp (.ref a::(f++dvs)) g Q E
theorem sW {pl:Sem Bool}(F:iV X.prog X.w X.K X.mg X.base CX k fa fd ps sp)(y:fB k X.A)(z:Binds X.K fd ps ds)(hd:Vals dvs ds)(B:gW CX X E)(D:PE X o ta)(G:PA X (e::es) t)
  (d:starEach (e::es) X.env=(false,eval e X.env)::starEach es X.env:=by rfl) (g:(backTo pos (starEach es X.env)).any (·.1)=false:=by rfl)
  (J:eval (.Call (.Attribute o m apos) (e::es) [] pos) X.env=(do
   let ov<-eval o X.env
   standAt apos.atName
   let (f,first)<-holding [ov] (getMethod ov m pl)
   callWith pos f first (backTo pos (starEach (e::es) X.env)) (backToKw pos (keywordEach [] X.env))):=by rfl) :
  PE X (.Call (.Attribute o m apos) (e::es) [] pos) (b1N X.K m fa sp dvs E ta t):=by
 intro b s j H Q I h
 refine XX (pl:=pl) (thn (D b s j H _ I h) λu L i=>?_) J
 obtain⟨x,M,n,N,q⟩:=i
 obtain⟨a,rfl,⟨C,R,fs,O,c,p,l⟩,q⟩:=vR.ex q
 obtain rfl:u=Value.ref a:=N
 refine iM n O c p l ?_
 refine JC (first:=[.ref a]) (h₀:=X.base) I.ok.mod.kin p.kp (thn (G pos b L j M _ n q) λus S ⟨vs,T,v,r,P⟩=>⟨v.kIn,?_⟩) d g
 exact mG (us:= .ref a::us) (vs:= .ref a::vs) F y z hd B v (.cons rfl r) P
theorem a6G {pl:Sem Bool}(F:iV X.prog X.w X.K X.mg X.base CX k fa fd ps sp)(i:fB k X.A)(j:Binds X.K fd ps ds)(hd:Vals dvs ds)(n:gW CX X E)(p:PE X o ta)
  (r:eval (.Call (.Attribute o m apos) [] [] pos) X.env=(do
   let ov<-eval o X.env
   standAt apos.atName
   let (f,first)<-holding [ov] (getMethod ov m pl)
   callWith pos f first (backTo pos (starEach [] X.env)) (backToKw pos (keywordEach [] X.env))):=by rfl) :
  PE X (.Call (.Attribute o m apos) [] [] pos) (b1N X.K m fa sp dvs E ta a5K):=by
 intro b s t H Q I h
 refine XX (pl:=pl) (thn (p b s t H _ I h) λu z d=>?_) r
 obtain⟨x,B,e,v,q⟩:=d
 obtain⟨a,rfl,⟨C,D,fs,y,c,g,l⟩,q⟩:=vR.ex q
 obtain rfl:u=Value.ref a:=v
 refine iM e y c g l ?_
 exact W.callWith_K0 (first:=[.ref a]) e.kIn g.kp (mG (us:=[.ref a]) (vs:=[.ref a]) F i j hd n e (.cons rfl .nil) q)
end
section
variable {tg:Expr}
def c4Z (K:W.Frag)(c:TE):TI:=λd H R=>c d H λx b=>vR x λa=>((∃xs,SqL K b a xs)/\R (Itl K a) b)\/((∃xs,SqT K b a xs)/\R (Itt K a) b)
def b9G {l:Expr}{m:TE}(r:PE X l m):PI X tg l (c4Z X.K m):=by
 intro f s t H R I h
 refine thn (r f s t H _ I h) λv c i=>?_
 obtain⟨x,n,d,u,w⟩:=i
 obtain⟨a,e,q⟩:=vR.ex w
 subst e
 cases u
 rcases q with ⟨⟨xs,j⟩,q⟩ | ⟨⟨xs,j⟩,q⟩
 ·obtain⟨g,y,p,z⟩:=d.list j
  refine wpAny_pyIter_list p.isList ?_
  refine⟨c.heap.objs.size, [c.heap.objs.size],_,_,n,rfl,d.kept (t':=c.toks) λb o e=>Yk _ e,uK a _,⟨_,YG _ rfl,rfl,rfl⟩,λb k=>?_,q⟩
  have e:b=c.heap.objs.size:=by simpa using k
  subst e
  exact d.fpOk (Yd _) (d.hok.fresh (Yd _))
 ·obtain⟨g,y,p,z⟩:=d.tuple j
  refine wpAny_pyIter_tuple (show c.heap.IsTuple a g.toArray from p) ?_
  refine⟨c.heap.objs.size, [c.heap.objs.size],_,_,n,rfl,d.kept (t':=c.toks) λb o e=>Yk _ e,a1N a _,⟨_,YG _ rfl,rfl,rfl⟩,λb k=>?_,q⟩
  have e:b=c.heap.objs.size:=by simpa using k
  subst e
  exact d.fpOk (Yd _) (d.hok.fresh (Yd _))
end
theorem b1Q {K:W.Frag}{a:Addr}{xs:List V}{f:TT}{g:TE}{d:V->St}{H:Hp}{Q:VK}(c:Nat->List V->Hp->Prop)(j:∀i ys H,i<=xs.length->c i ys H->ys.length<sizeLine)(k:c 0 [] H)
  (l:∀i ys H,i<=xs.length->c i ys H->SqT K H a xs)
  (n:∀i x ys H,xs[i]? =some x->c i ys H->f (d x) H λb H3=>if b=true then g (d x) H3 λy H4=>c (i+1) (ys++[y]) H4 else c (i+1) ys H3)
  (hd:∀ys H,c xs.length ys H->∀p,H p=none->Q (.ref p) (upd H p (.lst ys))):qG (Itt K a) f g d H Q:=by
 refine⟨λi m ys H=>m=xs.length-i/\i<=xs.length/\c i ys H,⟨xs.length,by simp,YV _,k⟩,?_⟩
 rintro i m ys H ⟨rfl,h,p⟩
 have q:=l i ys H h p
 refine⟨j i ys H h p,?_⟩
 by_cases hlt:i<xs.length
 ·refine .inr ⟨⟨xs,xs[i],q,by simp[hlt]⟩,c (i+1),λo r q=>⟨xs.length-(i+1),by lia,rfl,hlt,q⟩,λx r y=>?_⟩
  obtain⟨e,y⟩:=y
  subst e
  exact n i x ys _ (y xs q) p
 ·have e:i=xs.length:=by lia
  subst e
  exact .inl ⟨⟨xs,q,Yd _⟩,hd ys H p⟩
theorem b1R {K:W.Frag}{a:Addr}{xs:List V}{g:TT}{j:TE}{d:V->St}{H:Hp}{Q:VK}(h:SqA K H a xs)(e:Nat->List V->Prop)(l:∀i ys,i<=xs.length->e i ys->ys.length<sizeLine)(m:e 0 [])
  (n:∀i x ys,xs[i]? =some x->e i ys->g (d x) H λb H3=>if b=true then j (d x) H3 λy H4=>e (i+1) (ys++[y])/\H4=H else e (i+1) ys/\H3=H)
  (hd:∀ys,e xs.length ys->∀p,H p=none->Q (.ref p) (upd H p (.lst ys))):((∃xs,SqL K H a xs)/\qG (Itl K a) g j d H Q)\/((∃xs,SqT K H a xs)/\qG (Itt K a) g j d H Q):=by
 rcases h with h | h
 ·refine .inl ⟨⟨_,h⟩,eE (xs:=xs) (λi ys c=>e i ys/\c=H) (λi ys c f z=>l i ys f z.1) ⟨m,rfl⟩ (λi ys c f z=>by rw[z.2];exact h) ?_ ?_⟩
  ·rintro i x ys c k ⟨z,rfl⟩
   exact n i x ys k z
  ·rintro ys c ⟨z,rfl⟩
   exact hd ys z
 ·refine .inr ⟨⟨_,h⟩,b1Q (xs:=xs) (λi ys c=>e i ys/\c=H) (λi ys c f z=>l i ys f z.1) ⟨m,rfl⟩ (λi ys c f z=>by rw[z.2];exact h) ?_ ?_⟩
  ·rintro i x ys c k ⟨z,rfl⟩
   exact n i x ys k z
  ·rintro ys c ⟨z,rfl⟩
   exact hd ys z
def MOk (P:Program)(w:World)(K:W.Frag)(mg:Str->Option Value)(base:Heap)(CX:CXT)(k:Nat)(C:Addr)(m:Str)(sp:Sp):Prop:=
 ∃fa fd ps,Cls K C/\Meth K C m fa/\iV P w K mg base CX k fa fd ps sp/\Binds K fd ps []
section
variable {value:Expr}{to tv:TE}{cpos pos' p:Pos}{f:Str}{CX:CXT}{E:XK}{R:Addr->Sp->Prop}
def c0B (R:Addr->Sp->Prop)(m:Str)(E:XK)(d:TE)(t:TA):TE:=λb H Q=>d b H λx c=>vR x λa=>∃C dx fs sp,c a=some (.ins C dx fs)/\fs.lookup m=none/\R C sp/\t b c λe f=>sp (.ref a::e) f Q E
theorem zW {pl:Sem Bool}(y:∀C sp,R C sp->MOk X.prog X.w X.K X.mg X.base CX k C m sp)(z:fB k X.A)(B:gW CX X E)(D:PE X o ta)(G:PA X (e::es) t)
  (d:starEach (e::es) X.env=(false,eval e X.env)::starEach es X.env:=by rfl) (g:(backTo pos (starEach es X.env)).any (·.1)=false:=by rfl)
  (J:eval (.Call (.Attribute o m apos) (e::es) [] pos) X.env=(do
   let ov<-eval o X.env
   standAt apos.atName
   let (f,first)<-holding [ov] (getMethod ov m pl)
   callWith pos f first (backTo pos (starEach (e::es) X.env)) (backToKw pos (keywordEach [] X.env))):=by rfl) :
  PE X (.Call (.Attribute o m apos) (e::es) [] pos) (c0B R m E ta t):=by
 intro b s j H Q I h
 refine XX (pl:=pl) (thn (D b s j H _ I h) λu L i=>?_) J
 obtain⟨x,M,n,N,q⟩:=i
 obtain⟨a,rfl,C,U,fs,sp,O,l,P,q⟩:=vR.ex q
 obtain⟨V,W,Y,c,p,F,S⟩:=y C sp P
 obtain rfl:u=Value.ref a:=N
 refine iM n O c p l ?_
 refine JC (first:=[.ref a]) (h₀:=X.base) I.ok.mod.kin p.kp (thn (G pos b L j M _ n q) λus Z ⟨vs,H2,v,r,T⟩=>⟨v.kIn,?_⟩) d g
 exact mG (dvs:=[]) (us:= .ref a::us) (vs:= .ref a::vs) F z S .nil B v (.cons rfl r) (by rw[YD];exact T)
structure MkB (K:W.Frag)(C:Addr):Prop where
 makes:W.makesIn K C=true
 init:W.findIn K (.ref C) "__init__"=some (some (.builtin "object.__init__"))
 kp:W.keepIn K (.ref C)=true
def b7G (C:Addr):TE:=λ_ H Q=>∀x dx,H x=none->H dx=none->dx≠x->Q (.ref x) (upd (upd H dx (.own x)) x (.ins C dx []))
def a9K (M:MkB X.K C)(d:Gl X x)(f:X.mg x=some (.ref C))(a:(x == ("__debug__":Str))=false:=by decide):PE X (.Call (.Name x p) [] [] pos) (b7G C):=by
 intro c s m H Q I h
 refine Xu (nA I d f ?_ a)
 refine W.callWith_K0 I.kIn M.kp ?_
 have g:=h (s.heap.objs.size+1) s.heap.objs.size (I.hok.fresh (XM _)) (I.hok.fresh (Yd _)) (YI (Xi _))
 have i:=Inv.made (C:=C) I
 refine wpAny_call (a6I I.kIn M.makes M.init (λself=>W.Looks.of_pure (W.oi_bind self)) ?_)
 have Y:=W.makes_of (M:=model X.prog X.w) I.kIn M.makes
 have j:((s.heap.push W.emptyDict).push (W.instObj C s.heap.objs.size)).get? (s.heap.objs.size+1)=some (W.instObj C s.heap.objs.size):=by
  have:=YG (s.heap.push W.emptyDict) (o:=W.instObj C s.heap.objs.size) rfl
  rwa [X6]at this
 have k:W.Looks (model X.prog X.w) ((s.heap.push W.emptyDict).push (W.instObj C s.heap.objs.size)) (typeOf (.ref (s.heap.objs.size+1))) (.ref C):=(W.Looks.ld j).andThen .now
 have l:W.Looks (model X.prog X.w) ((s.heap.push W.emptyDict).push (W.instObj C s.heap.objs.size)) (isInstance (.ref (s.heap.objs.size+1)) (.type "object")) true:=k.andThen (Y.top.keeps λb o e=>Yk _ (Yk _ e))
 refine codeAny_call_builtin W.oi_plain W.entry_oi (@W.check_slot (model X.prog X.w) _ _ _ "object.__init__" "object" "__init__" (.ref (s.heap.objs.size+1)) [] [] _ W.oi_kind W.oi_split l (W.oi_args (.ref (s.heap.objs.size+1))) ?_)
 rw[W.oi_run]
 exact Xc (And.intro rfl ⟨V.ref (s.heap.objs.size+1),_,i,rfl,g⟩)
end
end L2
namespace L2
open PySem
def fB.mo {j k:Nat}{A:Around}(r:fB k A)(h:j<=k:=by decide):fB j A:=r.mono h
end L2
namespace L2
open PySem PySem.Spec PyProof.Rows
section
variable {X:Cx}{o e e2:Expr}{to:TE}{t:TA}{apos cpos:Pos}
end
section
variable {κ:Type}[DecidableEq κ]
def iH (kvs:List (κ×V))(k:κ):Option V:=(kvs.find? λa=>decide (a.1=k)).map (·.2)
def putK (kvs:List (κ×V))(k:κ)(v:V):List (κ×V):=
 if (kvs.any λa=>decide (a.1=k))=true then kvs.map (λa=>if a.1=k then (a.1,v) else a) else kvs++[(k,v)]
def a7N {k:κ}:iH ([]:List (κ×V)) k=none:=rfl
def fU {p:κ×V}{r:List (κ×V)}{k:κ}(e:p.1=k):iH (p::r) k=some p.2:=by simp[iH,X9,e]
def fV {p:κ×V}{r:List (κ×V)}{k:κ}(e:¬ p.1=k):iH (p::r) k=iH r k:=by simp[iH,X9,e]
theorem nZ (k:κ):∀kvs:List (κ×V),(kvs.any λkv=>decide (kv.1=k))=(iH kvs k).isSome
 |[]=>rfl
 | p::r=>by
  rw[Jo]
  by_cases e:p.1=k
  ·simp only[fU e,Yq e,Bool.true_or,Option.isSome_some]
  ·rw[fV e,Yu e,Bool.false_or];exact nZ k r
theorem yI (k j:κ)(y:V):∀kvs:List (κ×V),iH (kvs.map λkv=>if kv.1=k then (kv.1,y) else kv) j=(iH kvs j).map λx=>if j=k then y else x
 |[]=>rfl
 | p ::r=>by
  have ih:=yI k j y r
  rw[YK]
  by_cases h:p.1=k
  ·rw[if_pos h]
   by_cases e:p.1=j
   ·rw[fU (p:=(p.1,y)) e,fU e,Jr,if_pos (e.symm.trans h)]
   ·rw[fV (p:=(p.1,y)) e,fV e,ih]
  ·rw[if_neg h]
   by_cases e:p.1=j
   ·rw[fU (p:=p) e,fU e,Jr,if_neg (λz=>h (e.trans z))]
   ·rw[fV (p:=p) e,fV e,ih]
theorem uJ (k j:κ)(y:V):∀kvs:List (κ×V),iH kvs k=none->iH (kvs++[(k,y)]) j=if j=k then some y else iH kvs j
 | [],_=>by
  by_cases e:k=j
  ·rw[if_pos e.symm];exact fU (p:=(k,y)) e
  ·rw[if_neg (λz=>e z.symm)];exact fV (p:=(k,y)) e
 | p::r,hn=>by
  rw[List.cons_append]
  have hk:¬ p.1=k:=λz=>by rw[fU z]at hn;cases hn
  rw[fV hk]at hn
  have ih:=uJ k j y r hn
  by_cases e:p.1=j
  ·rw[fU e,fU e,if_neg (λz=>hk (e.trans z))]
  ·rw[fV e,fV e,ih]
def yH (kvs:List (κ×V))(k j:κ)(y:V):iH (putK kvs k y) j=if j=k then some y else iH kvs j:=by
 unfold putK
 by_cases a:(kvs.any λb=>decide (b.1=k))=true
 ·rw [if_pos a,yI]
  rw[nZ]at a
  by_cases e:j=k
  ·obtain⟨x,c⟩:=Option.isSome_iff_exists.mp a
   rw[if_pos e,e,c,Jr,if_pos rfl]
  ·rw[if_neg e]
   cases iH kvs j with
   |none=>rfl
   |some x=>rw[Jr,if_neg e]
 ·rw[if_neg a]
  refine uJ k j y kvs ?_
  rw[nZ]at a
  cases q:iH kvs k with
  |none=>rfl
  |some x=>rw[q]at a;exact(a rfl).elim
def mL (kvs:List (κ×V))(k:κ)(v:V):(putK kvs k v).length<=kvs.length+1:=by
 unfold putK
 split
 ·rw[Ya];lia
 ·rw[Yc,Yo,List.length_nil];lia
def nG.isSome_eq {o:Option V}{u:Option Value}(r:nG o u):o.isSome=u.isSome:=by
 cases o with
 | none=>cases u with
  |none=>rfl
  |some _=>exact(show False from r).elim
 | some _=>cases u with
  |none=>exact(show False from r).elim
  |some _=>rfl
def nG.getD {o:Option V}{u:Option Value}{d:V}{d':Value}(r:nG o u)(rd:RelV d d'):RelV (o.getD d) (u.getD d'):=by
 cases o with
 | none=>cases u with
  |none=>exact rd
  |some _=>exact(show False from r).elim
 | some _=>cases u with
  |none=>exact(show False from r).elim
  |some _=>exact r
def KV.val {kvs:List (κ×V)}{vs:List (κ×Value)}(r:KV kvs vs)(k:κ):nG (iH kvs k) (valueAt vs k):=by
 unfold KV at r
 induction r with
 |nil=>exact True.intro
 | @cons p q ps qs h t ih=>
  obtain⟨c,d⟩:=h
  by_cases e:p.1=k
  ·have a:q.1=k:=c.symm.trans e
   have b:valueAt (q::qs) k=some q.2:=by simp[valueAt,X9,a]
   rw[fU e,b];exact d
  ·have a:¬ q.1=k:=λz=>e (c.trans z)
   have b:valueAt (q::qs) k=valueAt qs k:=by simp[valueAt,X9,a]
   rw[fV e,b];exact ih
def KV.any {kvs:List (κ×V)}{vs:List (κ×Value)}(r:KV kvs vs)(k:κ):(kvs.any λkv=>decide (kv.1=k))=vs.any λkv=>decide (kv.1=k):=by
 unfold KV at r
 induction r with
 |nil=>rfl
 |cons h t ih=>rw[Jo,Jo,ih,h.1]
def KV.repl {kvs:List (κ×V)}{vs:List (κ×Value)}(r:KV kvs vs)(k:κ){y:V}{u:Value}(ry:RelV y u):
  KV (kvs.map λkv=>if kv.1=k then (kv.1,y) else kv) (vs.map λkv=>if kv.1=k then (kv.1,u) else kv):=by
 unfold KV at r ⊢
 induction r with
 |nil=>exact .nil
 | @cons p q ps qs h t ih=>
  rw[YK,YK]
  refine .cons ?_ ih
  obtain⟨a,b⟩:=h
  by_cases e:p.1=k
  ·rw[if_pos e,if_pos (a.symm.trans e)];exact⟨a,ry⟩
  ·rw[if_neg e,if_neg (λz=>e (a.trans z))];exact⟨a,b⟩
def KV.put {kvs:List (κ×V)}{vs:List (κ×Value)}(r:KV kvs vs)(k:κ){y:V}{u:Value}(a:RelV y u):KV (putK kvs k y) (stored vs k u):=by
 unfold putK stored
 rw[r.any k]
 by_cases e:(vs.any λb=>decide (b.1=k))=true
 ·rw[if_pos e,if_pos e];exact r.repl k a
 ·rw[if_neg e,if_neg e];exact Paired.snoc r ⟨rfl,a⟩
def KV.length {kvs:List (κ×V)}{vs:List (κ×Value)}(r:KV kvs vs):kvs.length=vs.length:=Paired.length r
end
variable {k:Nat}{o:Option V}{kvs:List (List Key×V)}{y:V}{u:Value}{P:Program}{w:World}{H:Hp}{xs:List (List Key×Addr×Value)}{b:Addr}{H':Hp}{Q:Value->Shared->Prop}{h':Heap}{X:Cx}{pins:List (Addr×Obj)}{σ:St}{s:Shared}{a:Addr}{cs:List Addr}{cl:List (Str×Addr)}{qual:Str}{e:Expr}{t:TA}{A:Around}{E:Value->Shared->Prop}{pos:Pos}{i:Nat}{x:Str}{p:Pos}{es:List Expr}{K:W.Frag}
def a4J {k:Key}(r:RelV (kV k) u):(fL P w).is k u=true:=by
 cases k with
 |inl i=>obtain⟨t,e⟩:=(show ∃t,u=Value.int i t from r);subst e;exact zV P w i t
 |inr x=>obtain⟨t,e⟩:=(show ∃t,u=Value.str x t from r);subst e;exact zT P w x t
theorem vG:∀{ks:List Key}{us:List Value},Vals (ks.map kV) us->ItemsAre (fL P w) ks us
 |[],_,r=>by rw[List.map_nil]at r;cases r;exact .nil
 | k::ks,_,r=>by
  rw[YK]at r
  cases r with
  |cons h t=>exact .cons (a4J h) (vG t)
abbrev KT (H:Hp):List (List Key×V)->List (List Key×Addr×Value)->Prop:=Paired λp q=>p.1=q.1/\H q.2.1=some (.tup (p.1.map kV))/\RelV p.2 q.2.2
def KT.val (r:KT H kvs xs)(k:List Key):nG (iH kvs k) ((atKey xs k).map (·.2)):=by
 induction r with
 |nil=>exact True.intro
 | @cons p q ps qs h t ih=>
  obtain⟨c,_,d⟩:=h
  by_cases e:p.1=k
  ·have a:q.1=k:=c.symm.trans e
   have b:atKey (q::qs) k=some q.2:=by simp[atKey,X9,a]
   rw[fU e,b];exact d
  ·have a:¬ q.1=k:=λz=>e (c.trans z)
   have b:atKey (q::qs) k=atKey qs k:=by simp[atKey,X9,a]
   rw[fV e,b];exact ih
def KT.repl (r:KT H kvs xs)(k:List Key)(ry:RelV y u):
  KT H (kvs.map λkv=>if kv.1=k then (kv.1,y) else kv) (xs.map (putAt k u)):=by
 induction r with
 |nil=>exact .nil
 | @cons p q ps qs h t ih=>
  rw[YK,YK]
  refine .cons ?_ ih
  obtain⟨a,b,c⟩:=h
  unfold putAt
  by_cases e:p.1=k
  ·rw[if_pos e,if_pos (a.symm.trans e)];exact⟨a,b,ry⟩
  ·rw[if_neg e,if_neg (λz=>e (a.trans z))];exact⟨a,b,c⟩
def KT.put (r:KT H kvs xs)(k:List Key)(c:H b=some (.tup (k.map kV)))(a:RelV y u):
  KT H (putK kvs k y) (storedH xs k b u):=by
 have e:(kvs.any λd=>decide (d.1=k))=(atKey xs k).isSome:=by
  rw[nZ,(r.val k).isSome_eq,Option.isSome_map]
 unfold putK storedH
 rw[e]
 by_cases q:(atKey xs k).isSome=true
 ·rw[if_pos q,if_pos q];exact r.repl k a
 ·rw[if_neg q,if_neg q];exact Paired.snoc r ⟨rfl,c,a⟩
def KT.keeps (r:KT H kvs xs)(a:∀b ys,H b=some (.tup ys)->H' b=some (.tup ys)):KT H' kvs xs:=
 Paired.mapP r λ_ _ z=>⟨z.1,a _ _ z.2.1,z.2.2⟩
section
variable {h:Heap}
def b6G {u:HO}(ok:HOk P w H h)(e:Rd H a u):fC P w H h a u:=e.ok ok
def a4S {kvs:List (Key×V)}(ok:HOk P w H h)(e:Rd H a (.dK kvs)):kvs.length<=sizeLine/\(a == sysModules)=false/\∃vs,KV kvs vs/\h.DictOf (fL P w) a vs:=
 show fC P w H h a (.dK kvs) from b6G ok e
def c2T {kvs:List (Key×V)}(ok:HOk P w H h)(e:H a=some (.dK kvs)):kvs.length<=sizeLine/\(a == sysModules)=false/\∃vs,KV kvs vs/\h.DictOf (fL P w) a vs:=a4S ok (.inl e)
def xH {b:List Key}(ok:HOk P w H h)(e:H a=some (.tup (b.map kV))):(tupleKind (fL P w)).is h b a:=by
 obtain⟨_,c,r,o,d,f,n,g⟩:=(show fC P w H h a (.tup (b.map kV)) from ok a _ e)
 exact⟨o,c.toArray,n,d,f,g,by simpa using vG r⟩
def a4R (ok:HOk P w H h)(e:Rd H a (.dT kvs)):kvs.length<=sizeLine/\(a == sysModules)=false/\
  ∃xs,KT H kvs xs/\h.DictOfH (tupleKind (fL P w)) a xs:=by
 obtain⟨z,y,xs,r,o,b,c,d,f,g,i,j⟩:=(show fC P w H h a (.dT kvs) from b6G ok e)
 refine⟨z,y,xs,r,o,b,c,d,f,g,i,λx hx=>?_,j⟩
 have all:∀{l:List (List Key×V)}{m:List (List Key×Addr×Value)},KT H l m->∀x∈m,(tupleKind (fL P w)).is h x.1 x.2.1:=by
  intro l m q
  induction q with
  |nil=>intro x hx;exact nomatch hx
  | @cons p q ps qs hq t ih=>
   intro x hx
   rcases YL.mp hx with e | hx
   ·subst e
    exact xH ok (by rw[<-hq.1];exact hq.2.1)
   ·exact ih x hx
 exact all r x hx
theorem c2S (ok:HOk P w H h)(e:H a=some (.dT kvs)):kvs.length<=sizeLine/\(a == sysModules)=false/\
  ∃xs,KT H kvs xs/\h.DictOfH (tupleKind (fL P w)) a xs:=a4R ok (.inl e)
end
def b5S (H:Hp)(a:Addr)(y:V)(r:Option V):Prop:=
 (∃kvs k,Rd H a (.dK kvs)/\y=kV k/\r=iH kvs k)\/∃kvs k b,Rd H a (.dT kvs)/\y= .ref b/\H b=some (.tup (k.map kV))/\r=iH kvs k
def c3H (H:Hp)(a:Addr)(y v:V)(H':Hp):Prop:=
 (∃kvs k,H a=some (.dK kvs)/\y=kV k/\kvs.length<sizeLine/\H'=upd H a (.dK (putK kvs k v)))\/
 ∃kvs k b,H a=some (.dT kvs)/\y= .ref b/\H b=some (.tup (k.map kV))/\kvs.length<sizeLine/\H'=upd H a (.dT (putK kvs k v))
section
variable {v:V}{r:Value}
def Inv.big (I:Inv X pins σ H s):sysModules<s.heap.objs.size:=by
 have h:mainGlobals<s.heap.objs.size:=(I.mod.glob.keeps I.bk).lt
 exact Nat.lt_trans (by decide) h
def c4W (m:A.units+1<cLine)(I:Inv X pins σ H s)(g:b5S H a y o)(j:RelV y u)(h:∀s',Inv X pins σ H s'->Q (.bool o.isSome) s'):
  wpAny (model X.prog X.w) A (compareOp .In u (.ref a)) Q E s:=by
 rcases g with ⟨d,k,e,f,l⟩ | ⟨d,k,b,e,f,n,l⟩
 ·subst f
  obtain⟨z,hd,p,c,i⟩:=a4S I.hok e
  refine wpAny_in_of (a4J j) hd i.mapOf ?_
  rw[<-(c.val k).isSome_eq,<-l]
  exact h _ (I.tok _)
 ·subst f
  cases (show u=Value.ref b from j)
  obtain⟨z,hd,xs,c,i⟩:=a4R I.hok e
  refine wpAny_in_heap (tupleKind_room_in1 m) (xH I.hok n) hd i ?_
  have q:=(c.val k).isSome_eq
  rw[Option.isSome_map]at q
  rw[<-q,<-l]
  exact h _ (I.tok _)
def a4X {t':Nat}{c:HO}(I:Inv X pins σ H s)(f:Mut (H a))(g:Heap.SameBut a s.heap h')(h:∃q,h'.get? a=some q)(d:fC X.prog X.w (upd H a c) h' a c):
  Inv X pins σ (upd H a c) { s with heap:=h',toks:=t' }:=
 I.write (x:=a) (e:=a) f (.inl rfl) (λb q i z=>(g.2 b i).trans z) h d
theorem b9X {kvs:List (Key×V)}{vs:List (Key×Value)}(z:kvs.length<=sizeLine)(hd:(a == sysModules)=false)(b:KV kvs vs)(c:h'.DictOf (fL P w) a vs):
  fC P w H' h' a (.dK kvs):=⟨z,hd,vs,b,c⟩
def a7A {Q:Unit->Shared->Prop}(J:A.units+1<cLine)(I:Inv X pins σ H s)(g:c3H H a y v H')(B:RelV y u)(C:RelV v r)(h:∀s',Inv X pins σ H' s'->Q () s'):
  wpAny (model X.prog X.w) A (setItem (.ref a) u r) Q E s:=by
 rcases g with ⟨d,k,e,m,l,n⟩ | ⟨d,k,b,e,m,D,l,n⟩
 ·subst m n
  obtain⟨z,hd,K,f,o⟩:=c2T I.hok e
  have p:K.length<=sizeLine:=by rw[<-f.length];exact z
  have t:(putK d k v).length<=sizeLine:=by have:=mL d k v;lia
  refine wpAny_setItem_pairs (hsz:=p) (a4J B) o λF i x=>h _ ?_
  have L:∃q,F.get? a=some q:=let ⟨q,_,_,j,_⟩:=i;⟨q,j⟩
  exact a4X I (by rw[e];exact True.intro) x L (b9X t hd (f.put k C) i)
 ·subst m n
  cases (show u=Value.ref b from B)
  obtain⟨z,hd,xs,f,o⟩:=c2S I.hok e
  have p:xs.length<=sizeLine:=by rw[<-Paired.length f];exact z
  have t:(putK d k v).length<=sizeLine:=by have:=mL d k v;lia
  refine wpAny_setItem_heap (hsz:=p) (tupleKind_room_in1 J) (xH I.hok D) o λF i x=>h _ ?_
  obtain⟨q,M,N,j,O,P,R,_,S⟩:=i
  refine a4X I (by rw[e];exact True.intro) x ⟨q,j⟩ ⟨t,hd,_,(f.put k D C).keeps λc T G=>?_,q,M,N,j,O,P,R,S⟩
  rw[aH (c1Z G e (λz=>nomatch z))]
  exact G
end
section
variable {kvs:List (Key×V)}{k:Key}
end
def c3U (d e:TE):TE:=λb H Q=>d b H λy f=>e b f λx c=>∃a o,x= .ref a/\b5S c a y o/\Q (.bl o.isSome) c
def c1L (c d e:TE):TS:=λD b H=>e b H λv f=>c b f λx g=>d b g λy h=>∃a H4,x= .ref a/\c3H h a y v H4/\D.nx b H4
section
variable {o i value:Expr}{pos' tpos:Pos}{td ty tv:TE}
def b8N (d:X.A.units+1<cLine)(e:PE X i ty)(f:PE X o td):PC X .In i o (c3U ty td):=by
 intro b s c H Q I h
 refine thn (e b s c H _ I h) λz j ⟨y,k,l,m,n⟩=>thn (f b j c k _ l n) λu B ⟨x,p,q,r,a,t,ex,g,v⟩=>?_
 subst ex
 obtain rfl:u=Value.ref a:=r
 exact c4W d q g m λC w=>⟨.bl t.isSome,p,w,rfl,v⟩
def a3U (d:X.A.units+1<cLine)(e:PE X o td)(f:PE X i ty)(j:PE X value tv)(k:swapsWith value (some (.Subscript o i pos')) pos.line X.env=pure false):
  PS X (.Assign [.Subscript o i pos'] value pos) (c1L td ty tv):=by
 intro b s c H D I h
 refine wpAny_Assign_Subscript (thn (j b s c H _ I h) λr l ⟨v,m,n,p,q⟩=>thn (e b l c m _ n q) λu t ⟨x,w,z,B,C⟩=>thn (f b t c w _ z C) λL M ⟨y,N,E,F,a,G,ex,g,J⟩=>?_) k
 subst ex
 obtain rfl:u=Value.ref a:=B
 exact a7A d E g F p λO K=>⟨c,G,K,J⟩
end
def b1J (h:Heap)(a:sysModules<h.objs.size):fC P w H (h.push { cls:= .type "dict",data:= .dict #[] }) h.objs.size (.dK []):=
 ⟨YV _,Xf.mpr (Va (YI a)), [],.nil,Heap.DictOf.new h⟩
def b1G (h:Heap)(a:sysModules<h.objs.size):fC P w H (h.push { cls:= .type "dict",data:= .dict #[] }) h.objs.size (.dT []):=
 ⟨YV _,Xf.mpr (Va (YI a)), [],.nil,_, #[],0,YG _ rfl,⟨rfl,rfl,rfl⟩,rfl,rfl,XG⟩
def b7I:TE:=λ_ H Q=>∀p,H p=none->Q (.ref p) (upd H p (.dK []))
def b7H:TE:=λ_ H Q=>∀p,H p=none->Q (.ref p) (upd H p (.dT []))
def a9N:PE X (.Dict [] [] pos) b7I:=λb s c H Q I h=>
 wpAny_Dict_empty ⟨.ref s.heap.objs.size,_,I.laid (a:=s.heap.objs.size) (o:= .dK []) (t':=s.toks) (λ_ _ q=>Yk _ q) (Yd _) (b1J s.heap I.big),rfl,h _ (I.hok.fresh (Yd _))⟩
def a9M:PE X (.Dict [] [] pos) b7H:=λb s c H Q I h=>
 wpAny_Dict_empty ⟨.ref s.heap.objs.size,_,I.laid (a:=s.heap.objs.size) (o:= .dT []) (t':=s.toks) (λ_ _ q=>Yk _ q) (Yd _) (b1G s.heap I.big),rfl,h _ (I.hok.fresh (Yd _))⟩
structure M2 (X:Cx)(o:Expr)(m:Str)(apos:Pos)(e f:Expr)(cpos:Pos):Prop where
 base:attributeBase o m X.env (eval o X.env)=eval o X.env
 few:((backTo cpos (starEach [e,f] X.env)).all (λx=>!x.1) && (backToKw cpos (keywordEach [] X.env)).all (λx=>x.1.isSome)
  && decide (([e,f]:List Expr).length+([]:List Keyword).length+(if ([]:List Keyword).isEmpty then 0 else 1)<30))=true
 line:(apos.endLine == cpos.line)=true
 trees:backTo cpos (starEach [e,f] X.env)= [(false,eval e X.env),(false,eval f X.env)]
def IsD (H:Hp)(a:Addr):Prop:=(∃kvs,Rd H a (.dK kvs))\/∃kvs,Rd H a (.dT kvs)
def b9P (I:Inv X pins σ H s)(d:IsD H a):
  s.TypeIs (.ref a) "dict"/\(∀b,Value.ref a= .ref b->∃ob,s.heap.get? b=some ob/\ob.dict=none)/\(a == sysModules)=false:=by
 rcases d with ⟨f,e⟩ | ⟨f,e⟩
 ·obtain⟨_,hd,i,_,c⟩:=a4S I.hok e
  refine⟨c.typeIs,λb q=>?_,hd⟩
  cases q
  obtain⟨ob,_,_,g,h,_⟩:=c
  exact⟨ob,g,h.2.1⟩
 ·obtain⟨_,hd,xs,_,c⟩:=a4R I.hok e
  refine⟨c.typeIs,λb q=>?_,hd⟩
  cases q
  obtain⟨ob,_,_,g,h,_⟩:=c
  exact⟨ob,g,h.2.1⟩
section
variable {d:V}{r:Value}
def b9Y (p:A.units+1<cLine)(I:Inv X pins σ H s)(g:b5S H a y o)(m:RelV y u)(n:RelV d r)(h:∀w' s',Inv X pins σ H s'->RelV (o.getD d) w'->Q w' s'):
  wpAny (model X.prog X.w) A (call (.builtin "dict.get") [.ref a,u,r]) Q E s:=by
 rcases g with ⟨i,k,e,j,l⟩ | ⟨i,k,b,e,j,q,l⟩
 ·subst j
  obtain⟨z,hd,t,c,f⟩:=a4S I.hok e
  refine call_meetsIn PySem.F.slot_dict_get f.typeIs PySem.F.entry_dict_get (PySem.F.args_dict_get_3 _ _ _) (meets_dict_get_default (fL X.prog X.w) a (a4J m) hd r) ⟨_,f.mapOf,h _ _ (I.tok _) ?_⟩
  rw[l]
  exact(c.val k).getD n
 ·subst j
  cases (show u=Value.ref b from m)
  obtain⟨z,hd,xs,c,f⟩:=a4R I.hok e
  refine call_meetsIn PySem.F.slot_dict_get f.typeIs PySem.F.entry_dict_get (PySem.F.args_dict_get_3 _ _ _) (meetsH_dict_get_default (tupleKind (fL X.prog X.w)) a b hd r) ⟨tupleKind_room_in1 p,k,xs,xH I.hok q,f,h _ _ (I.tok _) ?_⟩
  rw[l]
  exact(c.val k).getD n
end
def b7J (e f g:TE):TE:=λb H Q=>e b H λx c=>∃a,x= .ref a/\IsD c a/\f b c λy h=>g b h λz d=>∃o,b5S d a y o/\Q (o.getD z) d
section
variable {o f:Expr}{apos cpos:Pos}{td ty tx:TE}
def a9O (l:X.A.units+1<cLine)(n:PE X o td)(p:PE X e ty)(q:PE X f tx)(m:M2 X o "get" apos e f cpos):PE X (.Call (.Attribute o "get" apos) [e,f] [] cpos) (b7J td ty tx):=by
 intro b s c H Q I h
 refine wpAny_Call_method m.base m.few m.line PySem.F.plainAttrs_dict PySem.F.slot_dict_get PySem.F.type_dict_get (thn (n b s c H _ I h) λu r i=>?_)
 obtain⟨x,t,k,v,a,ex,d,w⟩:=i
 subst ex
 obtain rfl:u=Value.ref a:=v
 obtain⟨B,C,_⟩:=b9P k d
 refine⟨B,C,?_⟩
 rw[m.trees]
 refine Calls.callWith_builtin rfl (Calls.evalArgs_plain (Calls.spliced_cons (thn (p b r c t _ k w) λR D ⟨y,E,G,J,K⟩=>
  Calls.spliced_cons (thn (q b D c E _ G K) λS T ⟨z,L,M,N,U,g,O⟩=>Calls.spliced_nil ?_))))
 exact b9Y l M g J N λV W P j=>⟨_,L,P,j,O⟩
end
section
variable {kvs:List (Key×V)}
end
section
variable {κ:Type}[DecidableEq κ]
end
def jZ (c:Addr)(v:V):HO:= .ext λh=>∃u,RelV v u/\h.IsCell c (some u)
def kW (c:Addr)(qual:Str):HO:= .ext λh=>h.CodeRec (.ref c) qual
def defName (s:Stmt):Str:=match s with
 |.FunctionDef n _ _ _ _ _ _ _ _ _=>n
 |_=>""
def FnO (f:Addr)(st:Stmt)(qual:Str)(cl:List (Str×Addr))(a:Addr):HO:=
 .ext λh=>∃doc pm ctv,h.get? f=some (W.fnMade (defName st) qual (jA st) (fD st) (aZ st) cl doc pm a ctv)
def nU (H:Hp)(a:List Addr):Hp:=λb=>if b∈a then none else H b
def xU (H H':Hp)(a:List Addr):Hp:=λb=>if b∈a then H b else H' b
def oR (h:b∈cs):nU H cs b=none:=by unfold nU;rw[if_pos h]
def eQ (h:b∉cs):nU H cs b=H b:=by unfold nU;rw[if_neg h]
def a5B (h:b∈cs):xU H H' cs b=H b:=by unfold xU;rw[if_pos h]
def jF (h:b∉cs):xU H H' cs b=H' b:=by unfold xU;rw[if_neg h]
def Cells (H:Hp)(cl:List (Str×Addr))(ys:List Str)(ws:List V):Prop:=
 cl.map (·.1)=ys/\(cl.map (·.2)).Nodup/\Paired (λ(p:Str×Addr) (v:V)=>H p.2=some (jZ p.2 v)) cl ws
theorem Cells.at:∀{cl:List (Str×Addr)}{ws:List V},Paired (λ(p:Str×Addr) (v:V)=>H p.2=some (jZ p.2 v)) cl ws->∀{i:Nat}{p:Str×Addr},cl[i]? =some p->∃v,ws[i]? =some v/\H p.2=some (jZ p.2 v)
 |_,_,.nil,i,p,h=>by simp at h
 |_,_,.cons r t,0,p,h=>by simp at h;subst h;exact⟨_,rfl,r⟩
 |_,_,.cons r t,i+1,p,h=>Cells.at t (i:=i) (by simpa using h)
def Cells.is {ws:List V}(r:Paired (λ(p:Str×Addr) (v:V)=>H p.2=some (jZ p.2 v)) cl ws){c:Addr}(h:c∈cl.map (·.2)):∃v,H c=some (jZ c v):=by
 obtain⟨p,a,rfl⟩:=YW.mp h
 obtain⟨i,b,e⟩:=X3 a
 obtain⟨v,_,q⟩:=Cells.at r (i:=i) (p:=p) (by rw[Yb b,e])
 exact⟨v,q⟩
structure yD (N ps ys:List Str)(sc:Scope):Prop where
 kind:sc.kind= .function
 co:sc.isCoroutine=false
 gen:sc.isGenerator=false
 nd:N.Nodup
 pre:N.take (ps.length+ys.length)=ps++ys
 par:∀x∈ps,sc.names.lookup x=some .local
 fre:∀x∈ys,sc.names.lookup x=some .free
 only:∀y∈sc.names,y.2≠ .cell/\(y.2= .free->y.1∈ys)
def rQ (N:List Str)(vs ws:List V):St:=(vs++ws).map some++List.replicate (N.length-(vs++ws).length) none
def cxC (P:Program)(w:World)(K:W.Frag)(mg:Str->Option Value)(base:Heap)(N:List Str)(qual:Str)(scope:Scope)(f:Addr)(cd:Value)(cl:List (Str×Addr))(A:Around)(outer:List Env)(s:Shared)(H:Hp):Cx where
 prog:=P
 w:=w
 K:=K
 mg:=mg
 base:=base
 A:=A.deeper (W.envX qual scope s.heap.objs.size f cd cl)
 N:=N
 s₀:=s
 H₀:=H
 env:=W.envX qual scope s.heap.objs.size f cd cl
 outer:=outer
 stack:=W.envX qual scope s.heap.objs.size f cd cl::outer
 ex:=[]
 calm:=true
 fn:=λ_=>false
 pn:=[]
 xe:=λ_ _=>False
theorem oM {α:Type}:∀{l:List (Str×α)}{x:Str}{u:α},(l.map (·.1)).Nodup->(x,u)∈l->l.lookup x=some u
 |[],_,_,_,h=>nomatch h
 | (y, v)::r,x,u,nd,h=>by
  rw[YK,YQ]at nd
  rcases YL.mp h with e | h'
  ·cases e
   rw[List.lookup_cons_self]
  ·have hne:(x == y)=false:=by
    rw[Xf]
    intro z
    exact nd.1 (by rw[<-z];exact YW.mpr ⟨(x,u),h',rfl⟩)
   rw[Y4,hne]
   exact oM nd.2 h'
def b0U {h:Heap}(x:HOk P w H h)(g:∀c∈cs,∃v,H c=some (jZ c v))(k:∀b u,h.get? b=some u->h'.get? b=some u):HOk P w (nU H cs) h':=λa o e=>by
 have i:a∉cs:=λz=>by rw[oR z]at e;cases e
 rw[eQ i]at e
 have nx:∀b u,H b=some u->(∀d,u≠ .ext d)->b∉cs:=λb u q j z=>by
  obtain⟨v,f⟩:=g b z
  rw[q]at f
  exact j _ (Yp f)
 refine(x a o e).stay (λb u _ q=>k b u q) (λb q=>?_) λb xs q=>?_
 ·rw[eQ (nx b _ q λd z=>by cases z)];exact q
 ·rw[eQ (nx b _ q λd z=>by cases z)];exact q
theorem a2L {P:Program}{w:World}{K:W.Frag}{mg:Str->Option Value}{base:Heap}{N ps ys:List Str}{qual:Str}{scope:Scope}{f:Addr}{cd:Value}{cl:List (Str×Addr)}{A:Around}{outer:List Env}{s:Shared}{h':Heap}{tk:Nat}{H:Hp}{us:List Value}{vs ws:List V}
  (S:yD N ps ys scope) (hd:A.handled=none) (e0:uF P w K mg base A outer s H) (hl:vs.length=ps.length) (r:Vals vs us) (hc:Cells H cl ys ws)
  (hn:h'.Ns s.heap.objs.size (λx=>(ps.zip us).reverse.lookup x)) (hk:∀b o,s.heap.get? b=some o->h'.get? b=some o) :
  Inv (cxC P w K mg base N qual scope f cd cl A outer s (nU H (cl.map (·.2)))) [] (rQ N vs ws) (nU H (cl.map (·.2))) { s with heap:=h',toks:=tk }:=by
 obtain⟨t,Y,G⟩:=hc
 have l:∀c∈cl.map (·.2),∃v,H c=some (jZ c v):=λc h=>Cells.is G h
 have Z:cl.length=ws.length:=Paired.length G
 have a0:cl.length=ys.length:=by rw[<-t,Ya]
 have a1:ps.length+ys.length<=N.length:=by have:=YU List.length S.pre;rw[Yj,Yc]at this;lia
 have k:(ps++ys).Nodup:=by rw[<-S.pre];exact S.nd.sublist (List.take_sublist _ _)
 have I:=(List.nodup_append.mp k).1
 have B:=(List.nodup_append.mp k).2.1
 have Q:∀x c,cl.lookup x=some c->c∈cl.map (·.2):=λx c h=>YW.mpr ⟨(x,c),Xa h,rfl⟩
 have J:∀c∈cl.map (·.2),c<s.heap.objs.size:=λc h=>by
  obtain⟨v,e⟩:=l c h
  exact(e0.hok c _ e).lt
 refine⟨⟨e0.mod,S.kind,rfl,rfl,Yd _,λy z c L d=>?_,λy hy=>?_,(λy c h _=>by cases h),(λ_=>hd),Around.frames_deeper e0.frames,.inr ⟨rfl,rfl⟩,λb z=>absurd (show b∈([]:List Addr) from z) (by simp),λb o e=>⟨(e0.bs b o e).1,?_⟩,e0.bsz,λb _ _ z=>absurd (show b∈([]:List Addr) from z) (by simp),λb z=>absurd (show b∈([]:List Addr) from z) (by simp),e0.funs,λb E=>?_⟩,
  rfl,e0.bare,Un.kept hk,⟨_,hn,λi y v L d h3=>?_⟩,λy c h=>?_,?_,λy c h=>oR (Q y c h),λp g=>absurd (show p∈([]:List (Addr×Obj)) from g) (by simp),b0U e0.hok l hk,?_⟩
 ·have m1:(y,c)∈cl:=Xa L
  have m2:(z,c)∈cl:=Xa d
  obtain⟨i,m,R⟩:=X3 m1
  obtain⟨j,hj,M⟩:=X3 m2
  have:(cl.map (·.2))[i]? =(cl.map (·.2))[j]?:=by
   rw[Yl,Yl,Yb m,Yb hj,R,M];rfl
  have:=(List.getElem?_inj (by rw[Ya];exact m) Y).mp this
  subst this
  rw[R]at M
  exact YU Prod.fst M
 ·have hy:scope.names.lookup y=some .cell\/scope.names.lookup y=some .free:=hy
  have T:y∈ys:=by
   rcases hy with hy | hy
   ·exact absurd rfl (S.only _ (Xa hy)).1
   ·exact(S.only _ (Xa hy)).2 rfl
  rw[<-t]at T
  obtain⟨p,g,rfl⟩:=YW.mp T
  have q:cl.lookup p.1=some p.2:=oM (by rw[t];exact B) g
  exact⟨p.2,q⟩
 ·by_cases E:b∈cl.map (·.2)
  ·exact oR E
  ·exact(eQ E).trans (e0.bs b o e).2
 ·by_cases hb':b∈cl.map (·.2)
  ·exact oR hb'
  ·exact(eQ hb').trans (e0.frf b E)
 ·have C:i<(vs++ws).length:=by
   unfold rQ at d
   by_cases m:i<(vs++ws).length
   ·exact m
   ·rw[Yy (by simpa using m),List.getElem?_replicate]at d
    split at d <;> cases d
  have F:(vs++ws)[i]? =some v:=by
   unfold rQ at d
   rw[YF (by simpa using C),Yl]at d
   cases e:(vs++ws)[i]? with
   |none=>rw[e]at d;cases d
   |some a=>rw[e]at d;cases d;rfl
  rw[Yc]at C
  have g:(ps++ys)[i]? =some y:=by
   rw[<-S.pre,Y9 (by lia)];exact L
  by_cases m:i<ps.length
  ·rw[YF m]at g
   rw[YF (by lia)]at F
   obtain⟨u,hu,rv⟩:=r.get F
   refine⟨u,rv,.inl ⟨S.par y (Yx g),?_⟩⟩
   have hm:(y,u)∈ps.zip us:=Yx (i:=i) (by rw[List.getElem?_zip_eq_some];exact⟨g,hu⟩)
   have ul:us.length=ps.length:=by rw[<-r.length];exact hl
   refine oM ?_ (List.mem_reverse.mpr hm)
   unfold List.Nodup
   rw[List.map_reverse,List.pairwise_reverse,List.map_fst_zip (by lia)]
   exact I.imp λh=>h.symm
  ·rw [Yy (by lia)]at g
   rw[Yy (by lia),hl]at F
   obtain⟨p,D,e⟩:∃p,cl[i-ps.length]? =some p/\p.1=y:=by
    rw[<-t,Yl]at g
    exact YH.mp g
   obtain⟨v',U,q⟩:=Cells.at G D
   rw[F]at U;cases U
   obtain⟨⟨u,X,n⟩,_,st⟩:=e0.hok _ _ q
   refine⟨u,X,.inr ⟨.inr (S.fre y (Yx g)),p.2,?_,?_⟩⟩
   ·subst e
    have q:cl.lookup p.1=some p.2:=oM (by rw[t];exact B) (Yx D)
    exact q
   ·obtain⟨o,O,hd⟩:=n
    exact⟨o,hk _ _ O,hd⟩
 ·obtain⟨v,e⟩:=l c (Q y c h)
  obtain⟨⟨u,X,o,O,hd⟩,_,st⟩:=e0.hok _ _ e
  exact⟨_,o,hk _ _ O,hd⟩
 ·show nU H _ s.heap.objs.size=none
  rw[eQ λz=>absurd (J _ z) (YT _)]
  exact e0.hok.fresh (Yd _)
 ·unfold rQ
  show _=N.length
  rw[Yc,Ya,YA,Yc]
  lia
theorem c0G {P:Program}{w:World}{K:W.Frag}{mg:Str->Option Value}{base:Heap}{k:Nat}{f c':Addr}{st:Stmt}{qual:Str}{cl:List (Str×Addr)}{N ps ys:List Str}{A:Around}{outer:List Env}{s:Shared}{H:Hp}{args:Args}{us:List Value}{vs ws:List V}{Q:VK}{E:XK}
  (S:yD N ps ys (aZ st)) (hr:fB (k+1) A) (e0:uF P w K mg base A outer s H) (hf:H f=some (FnO f st qual cl c')) (hcd:H c'=some (kW c' qual)) (hc:Cells H cl ys ws) (hl:vs.length=ps.length) (r:Vals vs us)
  (hb:∀doc pm ctv,BindsTo s (W.fnX (defName st) qual (jA st) (fD st) (aZ st) cl .none .none doc pm none (.ref c') ctv) args (ps.zip us))
  (hbody:fB k (A.deeper (W.envX qual (aZ st) s.heap.objs.size f (.ref c') cl))->∃t,PSs (cxC P w K mg base N qual (aZ st) f (.ref c') cl A outer s (nU H (cl.map (·.2)))) (fD st) t/\
   t { nx:=λ_ H'=>Q .non (xU H H' (cl.map (·.2))),rt:=λv H'=>Q v (xU H H' (cl.map (·.2))) } (rQ N vs ws) (nU H (cl.map (·.2)))) :
  codeAny (model P w) A (.call (.ref f) args) (CR CX0 outer P w H s Q E) s:=by
 obtain⟨⟨doc,pm,ctv,ho⟩,_,_⟩:=e0.hok _ _ hf
 obtain⟨m,_,_⟩:=e0.hok _ _ hcd
 have j:∀c∈cl.map (·.2),∃v,H c=some (jZ c v):=λc h=>Cells.is hc.2.2 h
 have G:s.heap.NoLimit:=e0.mod.nolimit.keeps λb o e=>(e0.bs b o e).1
 have x:∀y∈ps.zip us,(aZ st).names.lookup y.1=some .local:=λ⟨n,v⟩ L=>S.par n (Jq L).1
 refine codeAny_call_function hr.depth ho rfl S.co S.gen rfl m (hb doc pm ctv _ _ _ _ ?_)
 refine wpAny_newFunctionEnv (λy L=>(S.only y L).1) x (λh' M O=>?_) S.kind
 have Y:∀b o,s.heap.get? b=some o->h'.get? b=some o:=λb o e=>by
  have R:b≠s.heap.objs.size:=YI (Yt e)
  rw[O.2 b R]
  exact Yk _ e
 refine⟨G.keeps Y,codeAny_func ?_⟩
 obtain⟨t,ht,hq⟩:=hbody (hr.deeper _)
 have I:=a2L (qual:=qual) (f:=f) (cd:= .ref c') (tk:=s.toks+(ps.zip us).length) S hr.hd e0 hl r hc M Y
 refine Y6 (ht [] _ _ _ _ I hq) (λfl B l=>?_) λe B l=>l.elim
 have fin :∀{g:St}{H':Hp}{v:V}{u:Value},Inv (cxC P w K mg base N qual (aZ st) f (.ref c') cl A outer s (nU H (cl.map (·.2)))) [] g H' B->RelV v u->Q v (xU H H' (cl.map (·.2)))->CE outer P w H s Q u B:=by
  intro g H' v u J T q
  have nx:∀b u,H b=some u->(∀D,u≠ .ext D)->b∉cl.map (·.2):=λb u q M z=>by
   obtain⟨v,i⟩:=j b z
   rw[q]at i
   exact M _ (Yp i)
  have F:∀b,H b=none->b∉cl.map (·.2):=λb q z=>by
   obtain⟨v,i⟩:=j b z
   rw[q]at i;cases i
  have Z:∀c∈cl.map (·.2),H' c=none:=λc hm=>by
   obtain⟨p,hp,rfl⟩:=YW.mp hm
   have q:cl.lookup p.1=some p.2:=oM (by rw[hc.1];exact(List.nodup_append.mp (show (ps++ys).Nodup by rw[<-S.pre];exact S.nd.sublist (List.take_sublist _ _))).2.1) hp
   exact J.freeC p.1 p.2 q
  have un:=J.base
  have a:Un (frs outer) [] (nU H (cl.map (·.2))) H' s.heap B.heap:=un
  refine⟨v,xU H H' (cl.map (·.2)),J.os,J.bare,⟨λb o e n hb C=>a.keep b o e (by rw[eQ (F b n)];exact n) hb C,λb o e n hb C=>a.slot b o e (by rw[eQ (F b n)];exact n) hb C,λb o e n C=>?_,a.there,λb xs q=>?_,λb o u q=>?_,λb U q=>?_⟩,λb o e=>?_,T,q⟩
  ·rw[jF (F b n)]
   exact a.free b o e (by rw[eQ (F b n)];exact n) C
  ·have hb:=nx b _ q λD z=>by cases z
   rw[jF hb]
   exact a.tups b xs (by rw[eQ hb];exact q)
  ·have hb:=nx b _ q λD z=>by cases z
   rw[jF hb]
   exact a.frzs b o u (by rw[eQ hb];exact q)
  ·have hb:=nx b _ q λD z=>by cases z
   obtain⟨more,e⟩:=a.tbls b U (by rw[eQ hb];exact q)
   exact⟨more,by rw[jF hb];exact e⟩
  ·by_cases hb:b∈cl.map (·.2)
   ·rw [a5B hb]at e
    obtain⟨v2,i⟩:=j b hb
    have X:b∉frs outer:=λz=>by
     have:=e0.frf b z
     rw[i]at this;cases this
    rw[i]at e
    cases e
    obtain⟨p,⟨ob,eo⟩,stb⟩:=e0.hok b _ i
    have kk:∀u,s.heap.get? b=some u->B.heap.get? b=some u:=λu q=>a.keep b u q (oR hb) X (by simp)
    exact⟨stb _ _ p kk,⟨ob,kk _ eo⟩,stb⟩
   ·rw [jF hb]at e
    refine(J.hok b o e).stay (λd u _ q=>q) (λd q=>?_) λd xs q=>?_
    ·have hd:d∉cl.map (·.2):=λz=>by rw[Z d z]at q;cases q
     rw[jF hd];exact q
    ·have hd:d∉cl.map (·.2):=λz=>by rw[Z d z]at q;cases q
     rw[jF hd];exact q
 cases fl with
 | ret u=>
  obtain⟨v,g,H',J,T,q⟩:=l
  exact fin J T q
 | next=>
  obtain⟨g,H',J,q⟩:=l
  exact fin (v:=V.non) (u:=Value.none) J rfl q
 | brk=>
  obtain⟨_,_,_,q⟩:=l
  exact False.elim q
 | cont=>
  obtain⟨_,_,_,q⟩:=l
  exact False.elim q
def Bm (K:W.Frag)(mg:Str->Option Value)(bm:Addr):Prop:=mg "__builtins__"=some (.ref bm)/\bm≠builtinsNs/\bm≠mainGlobals/\∃o,K.lookup bm=some o/\o.cls= .type "module"/\o.dict=some builtinsNs/\o.data= .plain
def pY (P:Addr)(pos:Pos)(qual:Str)(H:Hp):Prop:=∃ps,H P=some (.tbl ps)/\TriplesOk ps.toList/\(codeAmong pos ps.toList=none\/∃c',codeAmong pos ps.toList=some (.ref c')/\H c'=some (kW c' qual))
def a0Y (P:Addr)(pos:Pos)(a:Addr)(H:Hp):Prop:=∃ps,H P=some (.tbl ps)/\TriplesOk ps.toList/\codeAmong pos ps.toList=some (.ref a)
abbrev a2P (nm:Str)(params:Arguments)(body:List Stmt)(scope:Scope)(pos:Pos):Stmt:= .FunctionDef nm params body [] none [] scope none nm pos
theorem FnO.stb {st:Stmt}{a f:Addr}:∀h1 h2:Heap,(∃doc pm ctv,h1.get? f=some (W.fnMade (defName st) qual (jA st) (fD st) (aZ st) cl doc pm a ctv))->(∀o,h1.get? f=some o->h2.get? f=some o)->
  ∃doc pm ctv,h2.get? f=some (W.fnMade (defName st) qual (jA st) (fD st) (aZ st) cl doc pm a ctv):=λh1 h2 ⟨doc,pm,ctv,e⟩ k=>⟨doc,pm,ctv,k _ e⟩
def kW.stb {c:Addr}:∀h1 h2:Heap,h1.CodeRec (.ref c) qual->(∀o,h1.get? c=some o->h2.get? c=some o)->h2.CodeRec (.ref c) qual:=λh1 h2 x k=>by
 obtain⟨g,a,b,t,e,d,hd,f⟩:=x
 cases e
 exact⟨_,a,b,t,rfl,k _ d,hd,f⟩
section
variable {c0 P bm:Addr}{nm:Str}{params:Arguments}{body:List Stmt}{scope:Scope}
theorem c2B (I:Inv X pins σ H s)(m:X.env.code= .ref c0)(C:W.codeHdIn X.K c0 P=true)(hb:Bm X.K X.mg bm)(hT:pY P pos qual H)(M:closureFor scope X.env=pure cl)
  (h:∀f c' H' s',H f=none->((H P=some (.tbl #[])->H c'=none)/\(H c'=none\/a0Y P pos c' H)/\a0Y P pos c' H')->(∀b o,b≠P->H b=some o->H' b=some o)->pY P pos qual H'->H' c'=some (kW c' qual)->H' f=some (FnO f (a2P nm params body scope pos) qual cl c')->Inv X pins σ H' s'->Q (.ref f) s') :
  wpAny (model X.prog X.w) A (makeFunction nm qual params (.stmts body) scope X.env [] [] [] pos pos.line) Q E s:=by
 obtain⟨D,y,F,hh⟩:=hT
 have p:s.heap.get? P=some (W.tabObj D):=I.hok _ _ y
 have Z:=Yt p
 have hg:=I.mod.glob.keeps I.bk
 have CH:W.CodeHd s.heap c0 P:=W.codeHd_of_K I.kIn C
 obtain⟨b1,b2,b3,ob,b4,b5,b6,b7⟩:=hb
 have G:=I.kIn _ _ b4
 have a0:mainGlobals≠P:=λq=>by
  obtain⟨o,es,ep,e,hd,_⟩:=hg
  rw[q,p]at e;cases e;cases hd
 have a1:bm≠P:=λq=>by
  rw[q,p]at G;cases G;cases b5
 have hB:s.heap.BuiltinsAt X.mg P:=⟨bm,ob,b1,b2,b3,a1,G,b5,b6,b7⟩
 have N:∀d u,H d=some u->(∀qs,u≠ .tbl qs)->d≠P:=λd u q hn z=>by
  rw[z,y]at q
  exact hn _ (Yp q).symm
 rcases hh with O | ⟨c',R,S⟩
 ·refine W.makeFunction_K (mg:=X.mg) M I.ok.glob hg m CH p F O a0 hB λc' i j a tk hx r T U J=>?_
  obtain⟨v,c⟩:∃v,v=W.fnMade nm qual params body scope cl j ((X.mg "__name__").getD .none) c' i:=⟨_,rfl⟩
  rw[<-c]
  have a2:a.objs.size≠P:=Jx (Yt J)
  have cne:c'≠P:=Jx (Yh Z r)
  have fc:a.objs.size≠c':=Jx T
  have g:s.heap.objs.size<=a.objs.size:=YS r (XD T)
  have x:H a.objs.size=none:=I.hok.fresh g
  have V:H c'=none:=I.hok.fresh r
  obtain⟨H',B⟩:∃H',H'=upd (upd (upd H P (.tbl (D++#[rawInt pos.line,rawInt pos.col,.ref c']))) c' (kW c' qual)) a.objs.size (FnO a.objs.size (a2P nm params body scope pos) qual cl c'):=⟨_,rfl⟩
  have h1:H' a.objs.size=some (FnO a.objs.size (a2P nm params body scope pos) qual cl c'):=by rw[B,aB]
  have h2:H' c'=some (kW c' qual):=by rw[B,aH fc.symm,aB]
  have Y:H' P=some (.tbl (D++#[rawInt pos.line,rawInt pos.col,.ref c'])):=by rw[B,aH a2.symm,aH cne.symm,aB]
  have h4:∀b,b≠P->b≠c'->b≠a.objs.size->H' b=H b:=λb n1 n2 n3=>by rw[B,aH n3,aH n2,aH n1]
  have k:∀b o,b≠P->H b=some o->H' b=some o:=λb o n q=>by
   have l:=(I.hok b o q).lt
   rw[h4 b n (YI (Yh l r)) (YI (Yh l g))];exact q
  have L:∀b o,b≠P->s.heap.get? b=some o->(a.push v).get? b=some o:=λb o n q=>Yk _ (hx b o n q)
  have t1:TriplesOk (D++#[rawInt pos.line,rawInt pos.col,.ref c']).toList:=by rw[Array.toList_append];exact TriplesOk_snoc _ _ _ _ F
  have t2:codeAmong pos (D++#[rawInt pos.line,rawInt pos.col,.ref c']).toList=some (.ref c'):=by rw[Array.toList_append];exact codeAmong_snoc _ F O
  refine h a.objs.size c' H' _ x ⟨λ_=>V,.inl V,_,Y,t1,t2⟩ k ⟨_,Y,t1,.inr ⟨c',t2,h2⟩⟩ h2 h1 (I.call' (ch:=[]) rfl ⟨λb o e n _ _=>L b o (λz=>by rw[z,y]at n;cases n) e,λb o e n _ _=>⟨o.slots,L b o (λz=>by rw[z,y]at n;cases n) e⟩,λb o e n _=>?_,λb o e _=>?_,λb xs q=>k b _ (N b _ q λ_ z=>by cases z) q,λb o u q=>k b _ (N b _ q λ_ z=>by cases z) q,λb qs q=>?_⟩ (λb o e=>?_) I.bare (λb z=>absurd z (by simp)))
  ·have l:=Yt e
   rw[h4 b (λz=>by rw[z,y]at n;cases n) (YI (Yh l r)) (YI (Yh l g))];exact n
  ·by_cases z:b=P
   ·rw[z];exact⟨_,Yk _ J⟩
   ·exact⟨o,L b o z e⟩
  ·by_cases z:b=P
   ·rw[z,y]at q
    cases q
    exact⟨_,by rw[z];exact Y⟩
   ·exact⟨#[],by rw[k b _ z q];simp⟩
  ·by_cases z1:b=a.objs.size
   ·subst z1
    rw[h1]at e
    cases e
    refine⟨⟨j,(X.mg "__name__").getD .none,i,?_⟩,⟨v,YG _ (by rw[c];rfl)⟩,FnO.stb⟩
    rw[c]
    exact YG _ rfl
   ·by_cases z2:b=c'
    ·subst z2
     rw[h2]at e
     cases e
     have hr:(a.push v).CodeRec (.ref b) qual:=kW.stb _ _ U λo q=>Yk _ q
     obtain⟨c2,oc,vs,t,e2,ho,_⟩:=id hr
     cases e2
     exact⟨hr,⟨oc,ho⟩,kW.stb⟩
    ·by_cases z3:b=P
     ·subst z3
      rw[Y]at e
      cases e
      exact Yk _ J
     ·rw[h4 b z3 z2 z1]at e
      refine(I.hok b o e).stay (λd u hd q=>L d u ?_ q) (λd q=>k d _ (N d _ q λ_ z=>by cases z) q) λd xs q=>k d _ (N d _ q λ_ z=>by cases z) q
      rcases hd with rfl | hd
      ·exact z3
      ·exact N d _ hd λ_ z=>by cases z
 ·refine W.makeFunction_hit (mg:=X.mg) M I.ok.glob hg m CH p F R hB λi j a tk hx g=>?_
  obtain⟨v,c⟩:∃v,v=W.fnMade nm qual params body scope cl j ((X.mg "__name__").getD .none) c' i:=⟨_,rfl⟩
  have L:∀b o,s.heap.get? b=some o->(a.push v).get? b=some o:=λb o q=>Yk _ (hx b o q)
  have x:H a.objs.size=none:=I.hok.fresh g
  have k:∀b o,H b=some o->upd H a.objs.size (FnO a.objs.size (a2P nm params body scope pos) qual cl c') b=some o:=λb o q=>by
   rw[aH (aL q x)];exact q
  rw[show (⟨.type "function",none,.func (W.fnX nm qual params body scope cl .none .none j ((X.mg "__name__").getD .none) none (.ref c') i), #[]⟩:Obj)=v from c.symm]
  refine h a.objs.size c' (upd H a.objs.size (FnO a.objs.size (a2P nm params body scope pos) qual cl c')) _ x ⟨(λe=>(by rw[y]at e;cases e;cases R)),.inr ⟨D,y,F,R⟩,D,k _ _ y,F,R⟩ (λb o _ q=>k b o q) ⟨D,k _ _ y,F,.inr ⟨c',R,k _ _ S⟩⟩ (k _ _ S) aB (I.call' (ch:=[]) rfl (Un.laid L g x) (I.hok.laid L g ?_) I.bare (λb z=>absurd z (by simp)))
  refine⟨⟨j,(X.mg "__name__").getD .none,i,?_⟩,⟨v,YG _ (by rw[c];rfl)⟩,FnO.stb⟩
  rw[c]
  exact YG _ rfl
end
def PF (X:Cx)(a:List Stmt)(u:St->Hp->Prop)(b:Flow->Shared->Prop):Prop:=∀(pins:List (Addr×Obj))(s:Shared)(σ:St)(H:Hp),Inv X pins σ H s->u σ H->wpAny (model X.prog X.w) X.A (execs a X.env) b X.xe s
def c3K (t:TS)(u:St->Hp->Prop):St->Hp->Prop:=λa H=>t { nx:=u,rt:=λ_ _=>False } a H
section
variable {st:Stmt}{rest:List Stmt}{t:TS}{u:St->Hp->Prop}{Φ:Flow->Shared->Prop}
def a3V (h1:PS X st t)(h2:PF X rest u Φ):PF X (st::rest) (c3K t u) Φ:=by
 intro a s c H I h
 refine Jw (thn (h1 a s c H _ I h) λf d q=>?_)
 cases f with
 | next=>
  obtain⟨b,e,g,q⟩:=q
  exact h2 a d b e g q
 |ret v=>obtain⟨_,_,_,_,_,q⟩:=q;exact q.elim
 |brk=>obtain⟨_,_,_,q⟩:=q;exact q.elim
 |cont=>obtain⟨_,_,_,q⟩:=q;exact q.elim
def c3G (X:Cx)(y:Str)(Q:VK)(fl:Flow)(a:Shared):Prop:=∃g c w v σ2 H2 pins,fl= .ret (.ref g)/\Inv X pins σ2 H2 a/\X.env.cells.lookup y=some c/\RelV w v/\a.heap.IsCell c (some v)/\Q (.ref g) (upd H2 c (jZ c w))
def uMk (P:Addr)(pos:Pos)(iq:Str)(st:Stmt)(y:Str)(iy:Nat)(Q:VK):St->Hp->Prop:=λa H=>∃w,a[iy]? =some (some w)/\pY P pos iq H/\
 ∀g c c' H3,H g=none->H c=none->((H P=some (.tbl #[])->H c'=none)/\(H c'=none\/a0Y P pos c' H)/\a0Y P pos c' H3)->(∀b o,b≠P->H b=some o->H3 b=some o)->pY P pos iq H3->H3 c'=some (kW c' iq)->H3 c=some (jZ c w)->H3 g=some (FnO g st iq [(y,c)] c')->Q (.ref g) H3
theorem c1O {c0 P bm:Addr}{nm iq y:Str}{r:Arguments}{ib:List Stmt}{e:Scope}{pos p1 p2:Pos}{iy im:Nat}{Q:VK}(f:X.env.code= .ref c0)(C:W.codeHdIn X.K c0 P=true)(hb:Bm X.K X.mg bm)(G:∀c,X.env.cells.lookup y=some c->closureFor e X.env=pure [(y,c)])
  (hN:X.N.Nodup) (L:X.N[im]? =some nm) (h:X.env.scope.names.lookup nm=some .local) (hy:X.N[iy]? =some y) (i:X.env.scope.names.lookup y=some .cell) (M:iy≠im)
  (O:r.defaults= []) (R:r.kw_defaults= []) (ha:annTrees r none X.env= []) (hq:qualnameIn X.env nm nm=iq) (S:(nm == ("__debug__":Str))=false) (T:(nm == ("__classdict__":Str))=false) :
  PF X [a2P nm r ib e pos,.Return (some (.Name nm p1)) p2] (uMk P pos iq (a2P nm r ib e pos) y iy Q) (c3G X y Q):=by
 intro a s σ H I ⟨w,hw,hT,k⟩
 obtain⟨c,t⟩:=I.ok.has y (.inl i)
 refine Jw (W.nestDef_K O R ha ?_)
 rw[hq]
 refine c2B I f C hb hT (G c t) λg c' H' s' hg j U V u x J=>?_
 refine mF (v:= .ref g) J hN L (.inl h) rfl (λs2 J2=>?_) (.inr h)
 refine Jw (wpAny_Return_some ?_)
 have z:im<σ.length:=by rw[I.len];exact(Ye.mp L).1
 refine thn (a2E L (.inl h) S T a s2 (σ.set im (some (.ref g))) H' (λv l=>v= .ref g/\l=H') J2 ⟨_,List.getElem?_set_self z,rfl,rfl⟩) λv s3 ⟨v',l,Y,rv,e1,e2⟩=>?_
 subst e1 e2
 obtain rfl:v=Value.ref g:=rv
 obtain⟨m,_,hl⟩:=Y.loc
 obtain⟨uv,ru,lk⟩:=hl iy y w hy (by rw[Xd (Va M)];exact hw) (.inr (.inl i))
 rcases lk with ⟨hk,_⟩ | ⟨_,c2,A,p⟩
 ·have B:X.env.scope.names.lookup y=some .local:=hk
  rw[i]at B;cases B
 ·rw [t]at A
  cases A
  have D:=Y.freeC y c t
  have E:=I.freeC y c t
  refine⟨g,c,w,uv,_,l,a,rfl,Y,t,ru,p,k g c c' _ hg E ⟨j.1,j.2.1,?_⟩ (λb o n q=>?_) ?_ ?_ aB ?_⟩
  ·obtain⟨Z,F,a2,a3⟩:=j.2.2
   exact⟨Z,by rw[aH (aL F D)];exact F,a2,a3⟩
  ·rw[aH (aL q E)];exact U b o n q
  ·obtain⟨Z,F,a2,a3⟩:=V
   refine⟨Z,by rw[aH (aL F D)];exact F,a2,a3.imp id λ⟨d,d1,d2⟩=>⟨d,d1,by rw[aH (aL d2 D)];exact d2⟩⟩
  ·rw[aH (aL u D)];exact u
  ·rw[aH (aL x D)];exact x
end
theorem Fun.okM {P:Program}{w:World}{K:W.Frag}{mg:Str->Option Value}{base:Heap}{x qual y:Str}{st:Stmt}{f c0 P0:Addr}{B:FuncData}{N ps:List Str}{k:Nat}{sp:Sp}(F:Fun K x qual st f B)(i:B.code= .ref c0)(C:W.codeHdIn K c0 P0=true)(S:jO N ps (aZ st))(a4:(aZ st).names.lookup y=some .cell)(len:∀vs H Q E,sp vs H Q E->vs.length=ps.length)
  (j:∀(A:Around)(a:List Env)(s:Shared)(H:Hp)(vs:List V)(Q:VK)(E:XK),fB k (A.deeper (envOfC qual (aZ st) s.heap.objs.size f (.ref c0)))->sp vs H Q E->
   ∃u,PF (tK CX0 P w K mg base N qual (aZ st) f (.ref c0) A a s H E).nox (fD st) u (c3G (tK CX0 P w K mg base N qual (aZ st) f (.ref c0) A a s H E).nox y Q)/\u (start N vs) H):iV P w K mg base CX0 (k+1) f B ps sp:=by
 obtain⟨oc,od,kV,a5,pm,an,D,ct,a6,rfl,lk,G⟩:=F.ex
 have L:D= .ref c0:=i
 subst L
 refine⟨len,λA a s H a2 us vs Q E M m hb r p=>?_⟩
 have hl:=len _ _ _ _ p
 have KX:K.In s.heap:=m.mod.kin.keeps λb o e=>(m.bs b o e).1
 have O:s.heap.NoLimit:=m.mod.nolimit.keeps λb o e=>(m.bs b o e).1
 have l:∀y∈ps.zip us,(aZ st).names.lookup y.1=some .local\/((aZ st).names.lookup y.1=some .cell/\((cellsFrom (s.heap.objs.size+1) (aZ st).names []).lookup y.1).isSome=true):=λ⟨n,v⟩ hy=>by
  rcases S.par n (Jq hy).1 with q | q
  ·exact .inl q
  ·exact .inr ⟨q,W.cellsFrom_some _ _ _ (.inl q)⟩
 refine codeAny_call_function M.depth (KX _ _ lk) rfl S.co S.gen rfl (W.codeRec_of KX G) (hb _ _ _ _ ?_)
 refine wpAny_newFunctionEnv_cells S.kind l λa7 R s1 xx=>?_
 subst R
 refine⟨O.keeps xx.toInCall.keep,codeAny_func ?_⟩
 obtain⟨u,hu,hq⟩:=j A a s H vs Q E (M.deeper _) p
 have I:Inv (tK CX0 P w K mg base N qual (aZ st) f (.ref c0) A a s H E) [] (start N vs) H s1:=vH S M.hd m hl r xx
 refine Y6 (hu [] s1 (start N vs) H (I.wish _) hq) (λfl T U=>?_) λe T U=>U.elim
 obtain⟨g,c,wv,v,a8,H2,a3,rfl,J,hc,rv,h,q⟩:=U
 have X:s.heap.objs.size<=c:=J.ok.cab y c rfl hc
 have t:=J.freeC y c hc
 have un:Un (frs a) [] H H2 s.heap T.heap:=J.base
 have Y:∃o,T.heap.get? c=some o:=by obtain⟨o,ho,_⟩:=h;exact⟨o,ho⟩
 have Z:∀b o,s.heap.get? b=some o->b≠c:=λb o e=>YI (Yh (Yt e) X)
 refine⟨.ref g,upd H2 c (jZ c wv),J.os,J.bare,⟨un.keep,un.slot,λb o e n R=>?_,un.there,λb xs z=>?_,λb o u' z=>?_,λb qs z=>?_⟩,λb o e=>?_,rfl,q⟩
 ·rw[aH (Z b o e)];exact un.free b o e n R
 ·have:=un.tups b xs z
  rw[aH (aL this t)];exact this
 ·have:=un.frzs b o u' z
  rw[aH (aL this t)];exact this
 ·obtain⟨more,z2⟩:=un.tbls b qs z
  exact⟨more,by rw[aH (aL z2 t)];exact z2⟩
 ·by_cases hbc:b=c
  ·subst hbc
   rw[aB]at e
   cases e
   refine⟨⟨v,rv,h⟩,Y,λh1 h2 ⟨v1,r1,o1,a0,a1⟩ kk=>⟨v1,r1,o1,kk _ a0,a1⟩⟩
  ·rw[aH hbc]at e
   refine(J.hok b o e).stay (λd u' _ z=>z) (λd z=>?_) λd xs z=>?_
   ·rw[aH (aL z t)];exact z
   ·rw[aH (aL z t)];exact z
def b6Q (P:Program)(w:World)(K:W.Frag)(mg:Str->Option Value)(base:Heap)(k:Nat)(a:Addr->List V->Hp->VK->Prop):Prop:=
 ∀(f:Addr)(A:Around)(outer:List Env)(s:Shared)(H:Hp)(us:List Value)(vs:List V)(Q:VK),fB k A->uF P w K mg base A outer s H->Vals vs us->a f vs H Q->codeAny (model P w) A (.call (.ref f) ⟨us, []⟩) (CR CX0 outer P w H s Q E0) s
section
variable {spc:Addr->List V->Hp->VK->Prop}
end
def b2D (ts:List Addr)(H:Hp):Prop:=(∀P∈ts,H P=some (.tbl #[]))/\∀b,b∈ts\/H b=none\/∃o xs,H b=some (.frz o (.lst xs))
theorem a6O {P:Program}{w:World}{K:W.Frag}{mg mb:Str->Option Value}{CX:CXT}{k:Nat}{fa a:Addr}{fd:FuncData}{x:Str}{sp:Sp}{s₁:Shared}{vs:List Value}{ns:List Int}{ts:List Addr}
    (hts:∀T∈ts,K.lookup T=none/\s₁.heap.get? T=some (W.tabObj #[])/\isCodeTable s₁.heap T)
    (KX:K.In s₁.heap) (hns:s₁.heap.Ns mainGlobals mg) (hb:s₁.heap.Ns builtinsNs mb) (hbb:∀x:Str,x≠"__name__"->mb x=bootBuiltins x) (hlim:s₁.heap.NoLimit) (hg:s₁.gens=#[])
    (ha:s₁.heap.get? a=some { cls:= .type "list",data:= .seq vs.toArray }) (hi:IntsAre vs ns) (hl:ns.length<=sizeLine) (hr:fB k callerA)
    (F:∀base:Heap,K.In base->base.Ns mainGlobals mg->iV P w K mg base CX k fa fd [x] sp) (hbind:∀(s:Shared)(u:Value),BindsTo s fd ⟨[u], []⟩ [(x,u)])
    (hsp:∀H:Hp,b2D ts H->SqL K H a (ns.map V.int)->sp [.ref a] H (λv _=>v= .bl true) λ_ _ _=>False)
    (hCX:∀H e s',CX [] H s₁ (λ_ _ _=>False) e s'->False) :
    codeAny (model P w) callerA (.call (.ref fa) ⟨[.ref a], []⟩) (λr s'=>r= .ok (.ret (.bool true))/\OldK s₁.heap s'.heap/\s'.os=s₁.os/\AllBare s'.gens) s₁:=by
  have U:=uI hi
  have A:=hi.length
  have aT:a∉ts:=λz=>by
    have:=(hts a z).2.1
    rw[ha]at this;cases this
  have l : ∀g:Hp,(∀b,g b=none\/∃o xs,g b=some (.frz o (.lst xs)))->SqL K g a (ns.map V.int)->HOk P w g s₁.heap->(∀b,g b≠none->b=a)->(g a≠none->K.lookup a=none)->
      codeAny (model P w) callerA (.call (.ref fa) ⟨[.ref a], []⟩) (λr s'=>r= .ok (.ret (.bool true))/\OldK s₁.heap s'.heap/\s'.os=s₁.os/\AllBare s'.gens) s₁:=by
    intro g B J p i L
    obtain⟨H,X⟩:∃H:Hp,H=λb=>if b∈ts then some (.tbl #[]) else g b:=⟨_,rfl⟩
    have y:∀b,b∈ts->H b=some (.tbl #[]):=λb z=>by rw[X];exact if_pos z
    have c:∀b,b∉ts->H b=g b:=λb z=>by rw[X];exact if_neg z
    have M:∀b,b∈ts->g b=none:=λb z=>by
      cases q:g b with
      |none=>rfl
      |some u=>exact absurd (by rw[<-i b (by rw[q];simp)];exact z) aT
    have sub:∀b u,g b=some u->H b=some u:=λb u q=>by
      rw[c b λz=>by rw[M b z]at q;cases q];exact q
    have hO:b2D ts H:=⟨y,λb=>by
      by_cases z:b∈ts
      · exact .inl z
      · rw[c b z];exact .inr (B b)⟩
    have hS:SqL K H a (ns.map V.int):=by
      rcases J with (h | ⟨o,h⟩) | h
      · exact .inl (.inl (sub _ _ h))
      · exact .inl (.inr ⟨o,sub _ _ h⟩)
      · exact .inr h
    have N:HOk P w H s₁.heap:=λb u e=>by
      by_cases z:b∈ts
      · rw[y b z]at e
        cases e
        exact(hts b z).2.1
      · rw[c b z]at e
        exact(p b u e).stay (λ_ _ _ q=>q) (λd q=>sub d _ q) λd xs q=>sub d _ q
    have fr:∀{b:Addr}{o:Obj},s₁.heap.get? b=some o->o.cls≠ .none->b≠a->H b=none:=λ{b o} e hc O=>by
      have z:b∉ts:=λz=>by
        have:=(hts b z).2.1
        rw[e]at this
        cases this
        exact hc rfl
      rw[c b z]
      cases q:g b with
      |none=>rfl
      |some u=>exact absurd (i b (by rw[q];simp)) O
    have f:∀{b:Addr}{o:Obj},s₁.heap.get? b=some o->H b=none->(xN s₁.heap H).get? b=some o:=λe n=>b0T e n
    have Q:∀{b:Addr}{o:Obj}{G:Array DictEntry}{I:Nat},s₁.heap.get? b=some o->o.data= .dict G I->H b=none:=λ{b o G I} e d=>by
      have z:b∉ts:=λz=>by
        have:=(hts b z).2.1
        rw[e]at this
        cases this
        cases d
      rw[c b z]
      cases q:g b with
      |none=>rfl
      | some u=>
        have R:b=a:=i b (by rw[q];simp)
        subst R
        rw[ha]at e;cases e
        cases d
    have j:∀{b:Addr}{m:Str->Option Value},s₁.heap.Ns b m->(xN s₁.heap H).Ns b m:=λ{b m} ⟨o,G,I,e,d,r⟩=>⟨o,G,I,f e (Q e d),d,r⟩
    have C:K.In (xN s₁.heap H):=λb o e=>f (KX b o e) (by
      have z:b∉ts:=λz=>by rw[(hts b z).1]at e;cases e
      rw[c b z]
      cases q:g b with
      |none=>rfl
      | some u=>
        have R:b=a:=i b (by rw[q];simp)
        subst R
        rw[L (by rw[q];simp)]at e;cases e)
    have hM:Mod K mg (xN s₁.heap H):=⟨C,j hns,⟨mb,j hb,hbb⟩,let ⟨mc,h1,h2⟩:=hlim;⟨mc,j h1,h2⟩⟩
    have e0:uF P w K mg (xN s₁.heap H) callerA [] s₁ H:=⟨rfl,hM,λb o e=>b4L e,Nat.le_of_eq (a6S _ _),trivial,λb hb=>absurd (show b∈([]:List Addr) from hb) (by simp),N,.of_eq hg⟩
    refine codeAny_mono ((F _ C (j hns)).run callerA [] s₁ H ⟨[.ref a], []⟩ [.ref a] [.ref a] _ _ hr e0 (hbind s₁ (.ref a)) (.cons rfl .nil) (hsp H hO hS)) λr s' h=>?_
    cases r with
    |error e=>exact(hCX H e s' h).elim
    | ok fl =>
      cases fl with
      |next=>exact False.elim h
      |brk=>exact False.elim h
      |cont=>exact False.elim h
      | ret u =>
        obtain⟨v,H',os,D,un,t,r',q⟩:=h
        have q':v= .bl true:=q
        subst q'
        obtain rfl:u=Value.bool true:=r'
        refine⟨rfl,⟨λb o e=>?_,λb o e=>un.there b o e (by simp)⟩,os,D⟩
        by_cases z:b∈ts
        · obtain⟨t1,Y,t3⟩:=hts b z
          rw[e]at Y
          cases Y
          obtain⟨more,S⟩:=un.tbls b #[] (y b z)
          have e3:s'.heap.get? b=some { cls:= .none,data:= .fields (#[]++more) }:=t b _ S
          exact .inr (.inl ⟨t3,rfl, #[],more,rfl,e3⟩)
        · refine .inl ?_
          cases q:g b with
          |none=>exact un.keep b o e (by rw[c b z];exact q) (λz=>absurd (show b∈([]:List Addr) from z) (by simp)) (by simp)
          | some u=>
            rcases B b with E | ⟨ob,xs,E⟩
            · rw[q]at E;cases E
            · have z2:=un.frzs b ob _ (sub _ _ E)
              obtain⟨Z,_⟩:=p b _ E
              obtain⟨S,_⟩:=t b _ z2
              rw[e]at Z;cases Z
              exact S
  cases hk:K.lookup a with
  | some o=>
    have e:=KX a o hk
    rw[ha]at e
    cases e
    refine l (λ_=>none) (λ_=> .inl rfl) (.inr ⟨_,vs.toArray,_,hk,rfl,rfl,rfl,by rw[YB,A];exact hl,by simpa using U⟩) (λb u z=>by cases (show (none:Option HO)=some u from z)) (λb z=>absurd rfl z) λz=>absurd rfl z
  | none =>
    refine l (λb=>if b=a then some (.frz { cls:= .type "list",data:= .seq vs.toArray } (.lst (ns.map V.int))) else none) (λb=>?_) (.inl (.inr ⟨{ cls:= .type "list",data:= .seq vs.toArray },if_pos rfl⟩)) (λb u z=>?_) (λb z=>?_) λ_=>hk
    · by_cases hb:b=a
      · exact .inr ⟨_,_,if_pos hb⟩
      · exact .inl (if_neg hb)
    · by_cases hb:b=a
      · cases (if_pos hb).symm.trans z
        subst hb
        exact⟨ha,by rw[Ya];exact hl,vs,_,U,ha⟩
      · cases (if_neg hb).symm.trans z
    · by_cases hb:b=a
      · exact hb
      · exact absurd (if_neg hb) z
theorem walk_ofT {l:W.OpenLaw}{n k:Nat}{q:Program}{loose:List Str}{XP:(Str->Option Value)->Heap->Prop}{YP:World->Heap->Prop}{d:DefRec}{K:Params->W.Frag}{CX:World->CXT}{sp:World->Sp}{x:Str}{tc:List (Addr×Addr)}
  (J:l.most=some n) (r:n<=sizeLine) (y:d.params.defaults= []) (L:fB k callerA)
  (M:∀(w:World)(h:Heap),YP w h->(K w.params).In h/\∀q∈tc,(K w.params).lookup q.2=none/\h.get? q.2=some (W.tabObj #[])/\W.codeHdIn (K w.params) q.1 q.2=true)
  (F : ∀(w:World)(mg:Str->Option Value)(p:Addr)(h:Heap),(K w.params).In h->h.Ns mainGlobals mg->mg d.name=some (.ref p)->
   ∃ fd:FuncData,(∀(s:Shared)(u:Value),BindsTo s fd ⟨[u], []⟩ [(x,u)])/\
    ∀base:Heap,(K w.params).In base->base.Ns mainGlobals mg->iV l.prog w (K w.params) mg base (CX w) k p fd [x] (sp w))
  (z:∀(w:World)(H:Hp)(a:Addr)(ns:List Int),ns.length<=n->b2D (tc.map (·.2)) H->SqL (K w.params) H a (ns.map V.int)->sp w [.ref a] H (λv _=>v= .bl true) λ_ _ _=>False)
  (A:∀(w:World)(H:Hp)(s:Shared)(e:Value)(B:Shared),CX w [] H s (λ_ _ _=>False) e B->False) :
  W.WalkO q loose XP YP l.row.toRowW d [] (λf vs=>PySem.call f vs):=by
 refine Att.attach_call J y λw E j mg mb p o pm cd N a vs ns G Y ho hd O C m i c P=>?_
 obtain⟨D,T⟩:=M w _ Y
 obtain⟨fd,Q,R⟩:=F w mg p _ D G.T.g C
 refine a6O (ts:=tc.map (·.2)) (λt S=>?_) D G.T.g G.T.b G.T.builtins G.T.nolimit P m i (YS c r) L R Q (λH U X=>z w H a ns c U X) λH e B=>A w H j e B
 obtain⟨q,Z,rfl⟩:=YW.mp S
 obtain⟨t1,I,t3⟩:=T q Z
 exact⟨t1,I,((W.codeHd_of_K D t3).tab I).isCodeTable⟩
section
variable {c0 P bm:Addr}{params:Arguments}{body:Expr}{scope:Scope}
end
def FnE (K:W.Frag)(H:Hp)(f:Addr):Prop:=(∃oc od fd sl,K.lookup f=some ⟨oc,od,.func fd,sl⟩)\/∃φ,H f=some (.ext φ)/\∀h,φ h->W.FnAt f h
def b7K (K:W.Frag)(a:Addr->List V->Hp->VK->Prop)(i:Nat)(t:TA):TE:=λb H Q=>∃f,b[i]? =some (some (.ref f))/\FnE K H f/\t b H λd c=>FnE K c f/\a f d c Q
section
variable {spc:Addr->List V->Hp->VK->Prop}
def FnE.at {f:Addr}(I:Inv X pins σ H s)(h:FnE X.K H f):W.FnAt f s.heap:=by
 rcases h with ⟨a,b,c,d,e⟩ | ⟨g,e,z⟩
 ·exact⟨a,b,c,d,I.kIn _ _ e⟩
 ·exact z _ (I.hok _ _ e).1
def a9Q (F:b6Q X.prog X.w X.K X.mg X.base k spc)(hr:fB k X.A)(hv:PE X (.Name x p) (b7F i))(ha:PA X (e::es) t)(hK:X.K=K:=by rfl)(he:starEach (e::es) X.env=(false,eval e X.env)::starEach es X.env:=by rfl)(hpl:(backTo pos (starEach es X.env)).any (·.1)=false:=by rfl):
  PE X (.Call (.Name x p) (e::es) [] pos) (b7K K spc i t):=by
 subst hK
 intro a s g H Q I ⟨f,j,l,m⟩
 refine Xu (thn (hv a s g H (λv n=>v= .ref f/\n=H) I ⟨_,j,rfl,rfl⟩) λu o c=>?_)
 obtain⟨v,q,h,y,z,B⟩:=c
 subst z B
 obtain rfl:u=Value.ref f:=y
 refine W.callWith_F (l.at h) (thn (ha pos a o g q _ h m) λC D ⟨E,G,d,r,J,L⟩=>⟨J.at d,?_⟩) he hpl
 refine wpAny_call (codeAny_mono (F f X.A X.stack D G C E Q hr d.env0 r L) λr M b=>?_)
 cases r with
 |error e=>exact b.elim
 | ok fl=>
  cases fl with
  |ret u=>exact d.after b
  |next=>exact False.elim b
  |brk=>exact False.elim b
  |cont=>exact False.elim b
end
def b4D:PE X e (λ_ _ _=>False):=λ_ _ _ _ _ _ h=>h.elim
section
variable {spc:Addr->Sp}{E:XK}
end
section
variable {mg:Str->Option Value}{base:Heap}{n:Nat}{d:FuncData}{ps:List Str}{sp:Sp}{spc spd:Addr->Sp}
end
end L2
namespace Bm
def gG (n j:Nat):Int:=if n.testBit j then 1 else 0
def bO (n m:Nat):List Int:=(List.range m).map λi=>gG n (m-1-i)
def lU (bs:List Int):Int:=bs.foldl (λx b=>x*2+b) 0
def bF (bs:List Int):Prop:=∀b∈bs,b=0\/b=1
def b5O (n j:Nat):gG n j=0\/gG n j=1:=by unfold gG;split <;> simp
def iU (n m:Nat):bF (bO n m):=λb a=>by
 obtain⟨i,_,rfl⟩:=YW.mp a
 exact b5O _ _
def cF (n m:Nat):(bO n m).length=m:=by unfold bO;rw[Ya,YZ]
def vJ {n m k:Nat}(h:k<(bO n m).length):(bO n m)[k]=gG n (m-1-k):=by simp[bO]
def b1K (n j:Nat):((n / 2 ^ j:Nat):Int)=((n / 2 ^ (j+1):Nat):Int)*2+gG n j:=by
 have e:n / 2 ^ (j+1)=n / 2 ^ j / 2:=by rw[Xw,Nat.div_div_eq_div_mul]
 unfold gG
 rw[Y5,e]
 generalize n / 2 ^ j=q
 by_cases h:q % 2=1
 ·rw[Yq h,if_pos rfl];lia
 ·rw[Yu h,if_neg (by decide)];lia
def b0A:lU []=0:=rfl
def pQ (l:List Int)(b:Int):lU (l++[b])=lU l*2+b:=by
 unfold lU;rw[Xb];rfl
def a6C (l:List Int):∀x:Int,l.foldl (λx b=>x*2+b) x=x*2 ^ l.length+lU l:=by
 induction l with
 |nil=>intro x;simp[lU]
 | cons b r ih=>
  intro x
  unfold lU
  rw[Y0,Y0,ih,ih,Yo,Int.pow_succ]
  have:(x*2+b)*2 ^ r.length=x*(2 ^ r.length*2)+b*2 ^ r.length:=by
   rw[Int.add_mul,Int.mul_assoc,Int.mul_comm 2 (2 ^ r.length)]
  rw[this]
  simp only[Int.zero_mul,XE]
  lia
def uX (b:Int)(l:List Int):lU (b::l)=b*2 ^ l.length+lU l:=by
 show (b::l).foldl _ 0=_
 rw[Y0,a6C];simp
def wW {l:List Int}(h:bF l):0<=lU l/\lU l<2 ^ l.length:=by
 induction l with
 |nil=>exact⟨Xy _,by decide⟩
 | cons b r ih=>
  have:=ih λz a=>h z (Yv _ a)
  rw[uX,Yo,Int.pow_succ]
  have p:(0:Int)<2 ^ r.length:=Int.pow_pos (by decide)
  rcases h b YC with rfl | rfl
  ·lia
  ·lia
def a9Y (n m:Nat)(hn:n<2 ^ m):∀k,k<=m->lU ((bO n m).take k)=((n / 2 ^ (m-k):Nat):Int):=by
 intro k
 induction k with
 | zero=>
  intro _
  rw[JA,b0A,Nat.sub_zero,Nat.div_eq_of_lt hn];rfl
 | succ k ih=>
  intro e
  have a:k<(bO n m).length:=by rw[cF];lia
  rw[Yg a,pQ,ih (by lia)]
  have b:(bO n m)[k]=gG n (m-1-k):=vJ a
  rw[b]
  have c:m-k=(m-1-k)+1:=by lia
  have d:m-(k+1)=m-1-k:=by lia
  rw[c,d,b1K n (m-1-k)]
def a9Z {n m:Nat}(a:n<2 ^ m):lU (bO n m)=(n:Int):=by
 have h:=a9Y n m a m (Yd _)
 rw[Yi (by rw[cF];exact Yd _),X1,Nat.pow_zero,Nat.div_one]at h
 exact h
end Bm
namespace Rn
open Bm
def Win (l:List Int)(a n:Nat):Prop:=a+n<=l.length/\∀i j,a<=i->i<a+n->a<=j->j<a+n->l.getD i 0=l.getD j 0
def rO {l:List Int}(h:bF l):0<=l.sum/\l.sum<=l.length:=by
 induction l with
 |nil=>exact⟨Xy _,Xy _⟩
 | cons b r ih=>
  have:=ih λz a=>h z (Yv _ a)
  rw[XU,Yo]
  rcases h b YC with rfl | rfl <;> lia
def yQ {l:List Int}(h:bF l)(e:l.sum=0):∀b∈l,b=0:=by
 induction l with
 |nil=>intro b hb;cases hb
 | cons c r ih=>
  have a:bF r:=λz d=>h z (Yv _ d)
  have s:=rO a
  rw[XU]at e
  intro b hb
  rcases h c YC with rfl | rfl
  ·rcases YL.mp hb with rfl | hb
   ·rfl
   ·exact ih a (by lia) b hb
  ·lia
def yR {l:List Int}(h:bF l)(e:l.sum=l.length):∀b∈l,b=1:=by
 induction l with
 |nil=>intro b hb;cases hb
 | cons c r ih=>
  have a:bF r:=λz d=>h z (Yv _ d)
  have s:=rO a
  rw[XU,Yo]at e
  intro b hb
  rcases h c YC with rfl | rfl
  ·lia
  ·rcases YL.mp hb with rfl | hb
   ·rfl
   ·exact ih a (by lia) b hb
def a5M {c:Int}{l:List Int}(h:∀b∈l,b=c):l.sum=c*l.length:=by
 induction l with
 |nil=>simp
 | cons b r ih=>
  rw[XU,ih λz a=>h z (Yv _ a),h b YC,Yo]
  have:((r.length+1:Nat):Int)=(r.length:Int)+1:=by lia
  rw[this,Int.mul_add,Int.mul_one];lia
def a4Y {l:List Int}{a n i:Nat}(h:i<n)(b:a+n<=l.length):((l.drop a).take n).getD i 0=l.getD (a+i) 0:=by
 rw[Yf,Yf,Y9 h,List.getElem?_drop]
def pA {l:List Int}{a n:Nat}(b:a+n<=l.length):((l.drop a).take n).length=n:=by
 rw[Yj,Xp];lia
def b4Q {l:List Int}{a n:Nat}{b:Int}(f:a+n<=l.length)(h:b∈(l.drop a).take n):∃i,i<n/\b=l.getD (a+i) 0:=by
 obtain⟨i,d,e⟩:=List.mem_iff_getElem.mp h
 have c:i<n:=by rw[pA f]at d;exact d
 refine⟨i,c,?_⟩
 rw[<-a4Y c f,Yf,Yb d,<-e];rfl
def b2K {l:List Int}(t:bF l){a n:Nat}(w:0<n)(c:a+n<=l.length):((l.drop a).take n).sum % (n:Int)=0↔Win l a n:=by
 have d:bF ((l.drop a).take n):=λb h=>t b (XZ (Y1 h))
 have s:=rO d
 rw[pA c]at s
 constructor
 ·intro h
  have:((l.drop a).take n).sum=0\/((l.drop a).take n).sum=n:=by
   by_cases z:((l.drop a).take n).sum=n
   ·exact .inr z
   ·rw[Int.emod_eq_of_lt s.1 (by lia)]at h;exact .inl h
  refine⟨c,λi j g m o p=>?_⟩
  have f:∀k,a<=k->k<a+n->l.getD k 0∈(l.drop a).take n:=λk x y=>by
   have q:k-a<((l.drop a).take n).length:=by rw[pA c];lia
   have e:=a4Y (l:=l) (a:=a) (n:=n) (i:=k-a) (by lia) c
   have u:a+(k-a)=k:=by lia
   rw[u,Yf,Yb q]at e
   rw[<-e];exact YE q
  rcases this with e | e
  ·rw[yQ d e _ (f i g m),yQ d e _ (f j o p)]
  ·have r:((l.drop a).take n).sum=((l.drop a).take n).length:=by rw[pA c];exact e
   rw[yR d r _ (f i g m),yR d r _ (f j o p)]
 ·intro h
  have:∀b∈(l.drop a).take n,b=l.getD a 0:=λb v=>by
   obtain⟨i,A,rfl⟩:=b4Q c v
   exact h.2 (a+i) a (by lia) (by lia) (by lia) (by lia)
  rw[a5M this,pA c]
  exact Int.mul_emod_left _ _
end Rn
namespace Cl
def xs:Nat->(Nat->Nat)->Nat
 |0,_=>0
 |n+1,f=>xs n f ^^^ f n
def xs_congr {n:Nat}{f g:Nat->Nat}(h:∀k,k<n->f k=g k):xs n f=xs n g:=by
 induction n with
 |zero=>rfl
 | succ n ih=>
  show xs n f ^^^ f n=xs n g ^^^ g n
  rw[ih (λk a=>h k (by lia)),h n (by lia)]
def xs_zero {n:Nat}{f:Nat->Nat}(h:∀k,k<n->f k=0):xs n f=0:=by
 induction n with
 |zero=>rfl
 | succ n ih=>
  show xs n f ^^^ f n=0
  rw[ih (λk a=>h k (by lia)),h n (by lia)];rfl
def xor4 (a b c d:Nat):(a ^^^ b) ^^^ (c ^^^ d)=(a ^^^ c) ^^^ (b ^^^ d):=by
 rw[Xk,<-Xk b c d,Ji b c,Xk c b d,<-Xk]
def xs_xor {n:Nat}{f g:Nat->Nat}:xs n (λk=>f k ^^^ g k)=xs n f ^^^ xs n g:=by
 induction n with
 |zero=>exact(Xx 0).symm
 | succ n ih=>
  show xs n (λk=>f k ^^^ g k) ^^^ (f n ^^^ g n)=(xs n f ^^^ f n) ^^^ (xs n g ^^^ g n)
  rw[ih,xor4]
def xs_more {n m:Nat}{f:Nat->Nat}(hnm:n<=m)(h:∀k,n<=k->k<m->f k=0):xs m f=xs n f:=by
  induction m with
  | zero => have:n=0:=by lia
            subst this;rfl
  | succ m ih=>
    by_cases e:n=m+1
    · subst e;rfl
    · show xs m f ^^^ f m=xs n f
      rw[ih (by lia) (λk a b=>h k a (by lia)),h m (by lia) (by lia)]
      exact Xx _
def self {n:Nat}:∀{a:Nat},a<2 ^ n->a=xs n (λj=>if a.testBit j then 1 <<< j else 0):=by
  induction n with
  | zero => intro a h;have:a=0:=by simpa using h
            subst this;rfl
  | succ n ih=>
    intro a h
    show a=xs n (λj=>if a.testBit j then 1 <<< j else 0) ^^^ (if a.testBit n then 1 <<< n else 0)
    have b:a % 2 ^ n<2 ^ n:=Nat.mod_lt _ (Ja n)
    have e:xs n (λj=>if a.testBit j then 1 <<< j else 0)=xs n (λj=>if (a % 2 ^ n).testBit j then 1 <<< j else 0):=by
      refine xs_congr λk f=>?_
      rw[Nat.testBit_mod_two_pow]
      simp[f]
    rw[e,<-ih b]
    apply Nat.eq_of_testBit_eq
    intro i
    rw[XR,Nat.testBit_mod_two_pow]
    by_cases hi:i<n
    · have c:(if a.testBit n=true then 1 <<< n else 0).testBit i=false:=by
        split
        · rw[Jk];simp;lia
        · simp
      rw[c];simp[hi]
    · by_cases hin:i=n
      · subst hin
        cases hb:a.testBit i with
        |true=>simp[Jk]
        |false=>simp
      · have d:a.testBit i=false:=Xe (Yh h (Yz (by decide) (by lia)))
        have c:(if a.testBit n=true then 1 <<< n else 0).testBit i=false:=by
          split
          · rw[Jk]
            have g:(1:Nat).testBit (i-n)=false:=Xe (Yh (by decide:1<2 ^ 1) (Yz (by decide) (by lia)))
            rw[g,Bool.and_false]
          · simp
        rw[c,d];simp[hi]
def xs_lt {n m:Nat}{f:Nat->Nat}(h:∀k,k<n->f k<2 ^ m):xs n f<2 ^ m:=by
 induction n with
 |zero=>exact Ja m
 |succ n ih=>exact JB (ih λk a=>h k (by lia)) (h n (by lia))
end Cl
namespace Rm
open Bm
def b7A {a b n:Nat}(h:a<2 ^ (n+1))(j:b<2 ^ (n+1))(c:2 ^ n<=a)(d:2 ^ n<=b):a ^^^ b<2 ^ n:=by
 apply Nat.lt_pow_two_of_testBit
 intro i k
 rw[XR]
 by_cases e:i=n
 ·subst e
  have f:a.testBit i=true:=by
   rw[Y5]
   have:a / 2 ^ i=1:=by
    apply Js
    ·simpa using c
    ·rw[Xw]at h;lia
   rw[this];rfl
  have g:b.testBit i=true:=by
   rw[Y5]
   have:b / 2 ^ i=1:=by
    apply Js
    ·simpa using d
    ·rw[Xw]at j;lia
   rw[this];rfl
  rw[f,g];rfl
 ·have f:a.testBit i=false:=Xe (Yh h (Yz (by decide) (by lia)))
  have g:b.testBit i=false:=Xe (Yh j (Yz (by decide) (by lia)))
  rw[f,g];rfl
def nx (r:Nat):Nat:=if 32768<=2*r then (2*r) ^^^ 64647 else 2*r
def rr:Nat->Nat
 |0=>1
 |k+1=>nx (rr k)
def a9X {r:Nat}(h:r<32768):nx r<32768:=by
 unfold nx
 split
 ·exact b7A (n:=15) (by lia) (by decide) (by lia) (by decide)
 ·lia
theorem a3P:∀k,rr k<32768
 |0=>by decide
 |k+1=>a9X (a3P k)
def wV:nx 0=0:=by decide
def b2M (a b:Nat):2*(a ^^^ b)=2*a ^^^ 2*b:=by
 have h:(a ^^^ b) <<< 1=a <<< 1 ^^^ b <<< 1:=Nat.shiftLeft_xor_distrib
 have e:∀z:Nat,z <<< 1=2*z:=λz=>by rw[Xq];lia
 rw[e,e,e]at h
 exact h
def b5Y {a:Nat}(h:a<32768):32768<=2*a↔a.testBit 14=true:=by
 rw[Y5,Jd]
 show _↔a / 16384 % 2=1
 lia
def a4A {a:Nat}(h:a<32768):nx a=2*a ^^^ (if a.testBit 14=true then 64647 else 0):=by
 unfold nx
 by_cases c:a.testBit 14=true
 ·rw[if_pos c,if_pos ((b5Y h).mpr c)]
 ·rw[if_neg c,if_neg λz=>c ((b5Y h).mp z),Xx]
def a9W {a b:Nat}(d:a<32768)(e:b<32768):nx (a ^^^ b)=nx a ^^^ nx b:=by
 have c:a ^^^ b<32768:=JB (n:=15) d e
 rw[a4A d,a4A e,a4A c,Cl.xor4,b2M,XR]
 cases a.testBit 14 <;> cases b.testBit 14 <;> rfl
def tm (n k:Nat):Nat:=if n.testBit k then rr k else 0
def R (n:Nat):Nat:=Cl.xs 600 (tm n)
def b5Z (n k:Nat):tm n k<32768:=by unfold tm;split;exact a3P k;decide
def c5C (n:Nat):R n<32768:=Cl.xs_lt (m:=15) λk _=>b5Z n k
def c3D (a b:Nat):R (a ^^^ b)=R a ^^^ R b:=by
 unfold R
 rw[<-Cl.xs_xor]
 refine Cl.xs_congr λk _=>?_
 unfold tm
 rw[XR]
 cases a.testBit k <;> cases b.testBit k <;> simp
def c0P:R 0=0:=Cl.xs_zero λk _=>by unfold tm;rw[Nat.zero_testBit];rfl
def a9C:∀k,k<15->rr k=1 <<< k:=by decide
def rD {r:Nat}(h:r<32768):R r=r:=by
 unfold R
 have e:Cl.xs 600 (tm r)=Cl.xs 15 (tm r):=Cl.xs_more (by decide) λk a _=>by
  unfold tm
  rw[Xe (Yh h (Yz (n:=2) (i:=15) (by decide) a))];rfl
 rw[e]
 have s:=Cl.self (n:=15) h
 conv=>rhs;rw[s]
 refine Cl.xs_congr λk b=>?_
 unfold tm
 rw[a9C k b]
def c1V {n:Nat}{f:Nat->Nat}(h:∀k,f k<32768):nx (Cl.xs n f)=Cl.xs n λk=>nx (f k):=by
 induction n with
 |zero=>exact wV
 | succ n ih=>
  show nx (Cl.xs n f ^^^ f n)=_ ^^^ _
  rw[a9W (Cl.xs_lt (m:=15) λk _=>h k) (h n),ih]
def a7K {n:Nat}{f:Nat->Nat}:Cl.xs (n+1) f=f 0 ^^^ Cl.xs n λk=>f (k+1):=by
 induction n with
 |zero=>show 0 ^^^ f 0=f 0 ^^^ 0;rw[Jj,Xx]
 | succ n ih=>
  show Cl.xs (n+1) f ^^^ f (n+1)=f 0 ^^^ (Cl.xs n (λk=>f (k+1)) ^^^ f (n+1))
  rw[ih,Xk]
def tb2 (n b k:Nat)(a:b<2):(2*n+b).testBit (k+1)=n.testBit k:=by
 rw[XH]
 congr 1;lia
def c0Z (n b:Nat)(a:b<2):(2*n+b).testBit 0=decide (b=1):=by
 rw[Nat.testBit_zero]
 congr 1
 have:(2*n+b) % 2=b:=by lia
 rw[this]
def a3A {n b:Nat}(c:n<2 ^ 599)(a:b<2):R (2*n+b)=nx (R n) ^^^ b:=by
 unfold R
 have e:Cl.xs 600 (tm n)=Cl.xs 599 (tm n):=Cl.xs_more (by decide) λk d _=>by
  unfold tm
  rw[Xe (Yh c (Yz (by decide) d))];rfl
 rw[e,c1V (b5Z n),a7K,Ji]
 congr 1
 ·refine Cl.xs_congr λk _=>?_
  unfold tm
  rw[tb2 n b k a]
  cases n.testBit k
  ·exact wV.symm
  ·rfl
 ·unfold tm
  rw[c0Z n b a]
  have:b=0\/b=1:=by lia
  rcases this with rfl | rfl <;> rfl
def c3E {n:Nat}(a:n<2 ^ 599):R (2*n)=nx (R n):=by
 have:=a3A a (b:=0) (by decide)
 rwa [Nat.add_zero,Xx]at this
def c3F:∀p,p<=500->R (64647 <<< p)=0:=by
 intro p
 induction p with
 | zero=>
  intro _
  have e:(64647:Nat) <<< 0=2*32323+1:=by decide
  rw[e,a3A (Yh (m:=2 ^ 15) (by decide) (Yz (by decide) (by decide))) (by decide),rD (by decide)]
  decide
 | succ p ih=>
  intro a
  have e:(64647:Nat) <<< (p+1)=2*64647 <<< p:=by rw[Xq,Xq,Xw];lia
  rw[e,c3E,ih (by lia)]
  ·exact wV
  ·rw[Xq]
   have:(64647:Nat)*2 ^ p<2 ^ 16*2 ^ p:=Nat.mul_lt_mul_of_pos_right (by decide) (Ja p)
   rw[<-Nat.pow_add]at this
   exact Yh this (Yz (by decide) (by lia))
def b2C {r p:Nat}(a:p<=500):R (r ^^^ 64647 <<< p)=R r:=by
 rw[c3D,c3F p a,Xx]
def nm (bs:List Int):Nat:=(lU bs).toNat
def qU {bs:List Int}(h:bF bs):((nm bs:Nat):Int)=lU bs:=Int.toNat_of_nonneg (wW h).1
def nJ {bs:List Int}(h:bF bs):nm bs<2 ^ bs.length:=by
 have a:=(wW h).2
 have b:=qU h
 have:((nm bs:Nat):Int)<((2 ^ bs.length:Nat):Int):=by rw[b];simpa using a
 exact_mod_cast this
def oK {bs:List Int}{b:Int}(h:bF bs)(a:b=0\/b=1):nm (bs++[b])=2*nm bs+b.toNat:=by
 have f:=qU h
 have c:bF (bs++[b]):=λz d=>by
  rcases YO.mp d with q | q
  ·exact h z q
  ·rw[Ym.mp q];exact a
 have e:=qU c
 rw[pQ]at e
 rcases a with rfl | rfl <;> (simp only[Int.toNat_zero,Int.toNat_one];lia)
def rst (bs:List Int):Nat:=R (nm bs)
def a2A (bs:List Int):rst bs<32768:=c5C _
def b3Q:rst []=0:=c0P
def a9A {bs:List Int}{b:Int}(h:bF bs)(c:bs.length<=500)(a:b=0\/b=1):rst (bs++[b])=nx (rst bs) ^^^ b.toNat:=by
 unfold rst
 rw[oK h a]
 refine a3A (Yh (nJ h) (Yz (by decide) (by lia))) ?_
 rcases a with rfl | rfl <;> decide
def tab:List Nat:=[1,2,4,8,16,32,64,128,256,512,1024,2048,4096,8192,16384,31879,1417,2834,5668,11336,22672,19879,26569,13077,26154,12499,24998,16331,32662,939,1878,3756,7512,15024,30048,5703,11406,22812,20159,25081,16245,32490,339,678,1356,2712,5424,10848,21696,21767,22153,20885,24493,17373,31549,2813,5626,11252,22504,21335,23081,18645,27949,9949,19898,26611,13153,26306,12547,25094,14475,28950,7851,15702,31404,2527,5054,10108,20216,24951,15977,31954,1315,2630,5260,10520,21040,22759,19785,26133,12461,24922,15923,31846,1099,2198,4396,8792,17584,30183,5961,11922,23844,18127,28953,7861,15722,31444,2351,4702,9404,18808,28279,8297,16594,32035,1729,3458,6916,13832,27664,9383,18766,28187,8369,16738,32323]
def b7D:tab=(List.range 127).map rr:=by decide +kernel
def prs:List Nat->List Nat
 |[]=>[]
 |x::r=>r.map (λy=>x ^^^ y)++prs r
def chk:List Nat->Nat->Bool
 |[],_=>true
 |x::r,0=>chk r (1 <<< x)
 |x::r,k+1=>if (k+1).testBit x then false else chk r ((k+1) ||| 1 <<< x)
def c0H:∀(l:List Nat)(m:Nat),chk l m=true->l.Nodup/\∀x∈l,m.testBit x=false:=by
 intro l
 induction l with
 |nil=>intro m _;exact⟨XG,λx d=>nomatch d⟩
 | cons x r ih=>
  have a:∀m,m.testBit x=false->chk r (m ||| 1 <<< x)=true->(x::r).Nodup/\∀y∈x::r,m.testBit y=false:=by
   intro m f h
   obtain⟨g,e⟩:=ih _ h
   refine⟨YQ.mpr ⟨λd=>?_,g⟩,λy hy=>?_⟩
   ·have:=e x d
    rw[Nat.testBit_or,Nat.one_shiftLeft,Nat.testBit_two_pow,Yq rfl,Bool.or_true]at this
    cases this
   ·rcases YL.mp hy with rfl | hy
    ·exact f
    ·have:=e y hy
     rw[Nat.testBit_or,Bool.or_eq_false_iff]at this
     exact this.1
  intro m h
  cases m with
  | zero=>
   refine a 0 (Nat.zero_testBit x) ?_
   rw[Nat.zero_or];exact h
  | succ k=>
   have b:(if (k+1).testBit x then false else chk r ((k+1) ||| 1 <<< x))=true:=h
   by_cases c:(k+1).testBit x=true
   ·rw[if_pos c]at b;cases b
   ·rw[if_neg c]at b
    exact a (k+1) (by simpa using c) b
def a5Y:(prs tab).Nodup:=(c0H _ 0 (by decide +kernel)).1
theorem wO:∀(l:List Nat)(i j:Nat)(hi:i<j)(hj:j<l.length),(l[i]'(by lia)) ^^^ l[j]∈prs l
 |[],_,_,_,hj=>by cases hj
 |x::r,0,j+1,_,hj=>YO.mpr (.inl (YW.mpr ⟨_,YE (by simpa using hj),rfl⟩))
 |x::r,i+1,j+1,hi,hj=>YO.mpr (.inr (wO r i j (by lia) (by simpa using hj)))
def b3X:∀(l:List Nat),(prs l).Nodup->∀(i j k m:Nat)(hi:i<j)(hj:j<l.length)(hk:k<m)(hm:m<l.length),(l[i]'(by lia)) ^^^ l[j]=(l[k]'(by lia)) ^^^ l[m]->i=k/\j=m:=by
 intro l
 induction l with
 |nil=>intro _ i j k m _ hj;cases hj
 | cons x r ih=>
  intro d i j k m hi hj hk hm e
  obtain⟨f,g,c⟩:=List.nodup_append.mp d
  match i,j,k,m,hi,hj,hk,hm,e with
  | 0, j+1,0,m+1,_,hj,_,hm,e=>
   refine⟨rfl,?_⟩
   have a:j<r.length:=by simpa using hj
   have b:m<r.length:=by simpa using hm
   have h:(r.map (λy=>x ^^^ y))[j]'(by rw[Ya];exact a)=(r.map (λy=>x ^^^ y))[m]'(by rw[Ya];exact b):=by
    rw[List.getElem_map,List.getElem_map];exact e
   have:=(List.getElem_inj f).mp h
   lia
  | 0,j+1,k+1,m+1,_,hj,hk,hm,e=>
   exact absurd e (c _ (YW.mpr ⟨_,YE (by simpa using hj),rfl⟩) _ (wO r k m (by lia) (by simpa using hm)))
  | i+1,j+1,0,m+1,hi,hj,_,hm,e=>
   exact absurd e.symm (c _ (YW.mpr ⟨_,YE (by simpa using hm),rfl⟩) _ (wO r i j (by lia) (by simpa using hj)))
  | i+1,j+1,k+1,m+1,hi,hj,hk,hm,e=>
   have:=ih g i j k m (by lia) (by simpa using hj) (by lia) (by simpa using hm) e
   lia
def wG:tab.length=127:=by decide
def qN {i:Nat}(h:i<127):tab[i]'(by rw[wG];exact h)=rr i:=by
 have:∀(l:List Nat)(e:l=(List.range 127).map rr)(a:i<l.length),l[i]=rr i:=by
  intro l e a
  subst e
  rw[List.getElem_map,List.getElem_range]
 exact this tab b7D _
def qL {a b c d:Nat}(f:a<b)(h:b<127)(g:c<d)(hd:d<127)(e:rr a ^^^ rr b=rr c ^^^ rr d):a=c/\b=d:=by
 rw[<-qN (i:=a) (by lia),<-qN h,<-qN (i:=c) (by lia),<-qN hd]at e
 exact b3X tab a5Y a b c d f (by rw[wG];exact h) g (by rw[wG];exact hd) e
def yK {a b c d:Nat}(i:a≠b)(f:a<127)(g:b<127)(j:c≠d)(h:c<127)(hd:d<127)(e:rr a ^^^ rr b=rr c ^^^ rr d):(a=c/\b=d)\/(a=d/\b=c):=by
 by_cases h1:a<b
 ·by_cases h2:c<d
  ·exact .inl (qL h1 g h2 hd e)
  ·exact .inr (qL h1 g (c:=d) (d:=c) (by lia) h (by rw[e,Ji]))
 ·by_cases h2:c<d
  ·have:=qL (a:=b) (b:=a) (by lia) f h2 hd (by rw[<-e,Ji])
   exact .inr ⟨this.2,this.1⟩
  ·have:=qL (a:=b) (b:=a) (c:=d) (d:=c) (by lia) f (by lia) h (by rw[Ji,e,Ji])
   exact .inl ⟨this.2,this.1⟩
def par (n:Nat):Bool:=(List.range 15).foldl (λz k=>z ^^ n.testBit k) false
def a9T (l:List Nat)(a b:Nat):∀x y:Bool,l.foldl (λz k=>z ^^ (a ^^^ b).testBit k) (x ^^ y)=(l.foldl (λz k=>z ^^ a.testBit k) x ^^ l.foldl (λz k=>z ^^ b.testBit k) y):=by
 induction l with
 |nil=>intro x y;rfl
 | cons k r ih=>
  intro x y
  rw[Y0,Y0,Y0,<-ih]
  congr 1
  rw[XR]
  cases x <;> cases y <;> cases a.testBit k <;> cases b.testBit k <;> rfl
def a3X (a b:Nat):par (a ^^^ b)=(par a ^^ par b):=a9T _ a b false false
def b8P:∀k,par (rr k)=true:=by
 intro k
 induction k with
 |zero=>decide
 | succ k ih=>
  show par (nx (rr k))=true
  have h :∀r,r<32768->par (nx r)=par r:=by
   intro r a
   rw[a4A a]
   have e:par (2*r ^^^ if r.testBit 14=true then 64647 else 0)=par r:=by
    have b:∀j,(2*r).testBit (j+1)=r.testBit j:=λj=>by have:=tb2 r 0 j (by decide);rwa [Nat.add_zero]at this
    have c:(2*r).testBit 0=false:=by have:=c0Z r 0 (by decide);rwa [Nat.add_zero]at this
    rw[a3X]
    have d:par (2*r)=(par r ^^ r.testBit 14):=by
     unfold par
     simp only[List.range,List.range.loop,Y0,List.foldl_nil,b,c]
     simp only[Bool.false_xor,Bool.xor_assoc]
     cases r.testBit 14 <;> simp
    rw[d]
    cases r.testBit 14
    ·have:par (if false=true then 64647 else 0)=false:=by decide
     rw[this];cases par r <;> rfl
    ·have:par (if true=true then 64647 else 0)=true:=by decide
     rw[this];cases par r <;> rfl
   exact e
  rw[h _ (a3P k),ih]
def sm (ps:List Nat):Nat:=ps.foldl (λt p=>t ^^^ rr p) 0
def b3I (ps:List Nat):∀t,ps.foldl (λt p=>t ^^^ rr p) t=t ^^^ sm ps:=by
 induction ps with
 |nil=>intro t;exact(Xx t).symm
 | cons p r ih=>
  intro t
  unfold sm
  rw[Y0,Y0,ih,ih (0 ^^^ rr p),Jj,Xk]
def kI (p:Nat)(r:List Nat):sm (p::r)=rr p ^^^ sm r:=by
 show (p::r).foldl _ 0=_
 rw[Y0,b3I,Jj]
def b8O (ps:List Nat):par (sm ps)=decide (ps.length % 2=1):=by
 induction ps with
 |nil=>decide
 | cons p r ih=>
  rw[kI,a3X,b8P,ih,Yo]
  by_cases h:r.length % 2=1
  ·rw[Yq h,Yu (by lia)];rfl
  ·rw[Yu h,Yq (by lia)];rfl
def nW {a b:Nat}(h:a ^^^ b=0):a=b:=by
 have:a ^^^ b ^^^ b=0 ^^^ b:=by rw[h]
 rwa [Xk,Nat.xor_self,Xx,Jj]at this
def b8A {a b:Nat}(g:a≠b)(h:a<127)(i:b<127):rr a≠rr b:=by
 intro e
 obtain⟨c,f,j,k⟩:∃c,c<127/\c≠a/\c≠b:=by
  by_cases h0:0≠a/\0≠b
  ·exact⟨0,by decide,h0.1,h0.2⟩
  by_cases h1:1≠a/\1≠b
  ·exact⟨1,by decide,h1.1,h1.2⟩
  exact⟨2,by decide,by lia,by lia⟩
 have:=yK (a:=a) (b:=c) (c:=b) (d:=c) (by lia) h f (by lia) i f (by rw[e])
 lia
def few {ps:List Nat}(nd:ps.Nodup)(hp:∀p∈ps,p<127)(h1:1<=ps.length)(h5:ps.length<=5):sm ps≠0:=by
 intro e
 have h:=b8O ps
 rw[e]at h
 have i:¬ ps.length % 2=1:=by
  intro z
  rw[Yq z]at h
  exact absurd h (by decide)
 match ps,nd,hp,h1,h5,e,i with
 | [a,b],nd,hp,_,_,e,_=>
  rw[kI,kI]at e
  simp only[YQ,YL,Xz,or_false,not_or,not_false_eq_true,XG,and_true]at nd
  refine b8A nd (hp a (by simp)) (hp b (by simp)) (nW ?_)
  rw[<-e];show _=rr a ^^^ (rr b ^^^ 0);rw[Xx]
 | [a,b,c,d],nd,hp,_,_,e,_=>
  rw[kI,kI,kI,kI]at e
  simp only[YQ,YL,Xz,or_false,not_or,not_false_eq_true,XG,and_true]at nd
  obtain⟨⟨j,m,n⟩,⟨o,q⟩,k⟩:=nd
  have l:rr a ^^^ rr b=rr c ^^^ rr d:=by
   apply nW
   rw[<-e];show _=rr a ^^^ (rr b ^^^ (rr c ^^^ (rr d ^^^ 0)))
   rw[Xx,Xk]
  have:=yK j (hp a (by simp)) (hp b (by simp)) k (hp c (by simp)) (hp d (by simp)) l
  lia
 |[a],_,_,_,_,_,i=>exact i (by simp)
 |[a,b,c],_,_,_,_,_,i=>exact i (by simp)
 |[a,b,c,d,f],_,_,_,_,_,i=>exact i (by simp)
 |a::b::c::d::f::g::r,_,_,_,h5,_,_=>simp at h5
 |[],_,_,h1,_,_,_=>simp at h1
def stp (r:Nat)(b:Int):Nat:=nx r ^^^ b.toNat
def nxn:Nat->Nat->Nat
 |0,d=>d
 |n+1,d=>nxn n (nx d)
def c0J {b:Int}(h:b=0\/b=1):b.toNat<32768:=by rcases h with rfl | rfl <;> decide
def a1Q {r:Nat}{b:Int}(a:r<32768)(c:b=0\/b=1):stp r b<32768:=JB (n:=15) (a9X a) (c0J c)
def mJ {bs:List Int}(h:bF bs)(hl:bs.length<=500):rst bs=bs.foldl stp 0:=by
 have a:∀k,k<=bs.length->rst (bs.take k)=(bs.take k).foldl stp 0:=by
  intro k
  induction k with
  |zero=>intro _;exact b3Q
  | succ k ih=>
   intro e
   have c:bF (bs.take k):=λb d=>h b (Y1 d)
   rw[Yg (by lia),Xb,<-ih (by lia),a9A c (by rw[Yj];lia) (h _ (YE _))]
   rfl
 have:=a bs.length (Yd _)
 rwa [Yi (Yd _)]at this
theorem tG:∀(suf:List Int),bF suf->∀r d,r<32768->d<32768->suf.foldl stp (r ^^^ d)=suf.foldl stp r ^^^ nxn suf.length d
 |[],_,_,_,_,_=>rfl
 | b ::s,h,r,d,hr,hd=>by
  have hb:=h b YC
  rw[Y0,Y0]
  have e:stp (r ^^^ d) b=stp r b ^^^ nx d:=by
   unfold stp
   rw[a9W hr hd,Xk,Ji (nx d),<-Xk]
  rw[e,tG s (λz hz=>h z (Yv _ hz)) _ _ (a1Q hr hb) (a9X hd)]
  rfl
theorem a9V:∀n m,nxn n (rr m)=rr (m+n)
 |0,_=>rfl
 | n+1,m=>by
  show nxn n (rr (m+1))=_
  rw[a9V n (m+1)];congr 1;lia
theorem fold_lt:∀(l:List Int),bF l->∀r,r<32768->l.foldl stp r<32768
 |[],_,_,hr=>hr
 | b::s,h,r,hr=>by
  rw[Y0]
  exact fold_lt s (λz hz=>h z (Yv _ hz)) _ (a1Q hr (h b YC))
def a0U {bs:List Int}(h:bF bs){k:Nat}{c:Int}(a:c=0\/c=1):bF (bs.set k c):=λz b=>by
 rcases List.mem_or_eq_of_mem_set b with q | q
 ·exact h z q
 ·rw[q];exact a
def a9B {bs:List Int}(h:bF bs)(d:bs.length<=500){k:Nat}(a:k<bs.length):rst (bs.set k (1-bs[k]))=rst bs ^^^ rr (bs.length-1-k):=by
 have c:=h _ (YE a)
 have j:1-bs[k]=0\/1-bs[k]=1:=by rcases c with e | e <;> rw[e] <;> simp
 rw[mJ h d,mJ (a0U h j) (by rw[Y8];exact d)]
 have f:bs.foldl stp 0=(bs.drop (k+1)).foldl stp (stp ((bs.take k).foldl stp 0) bs[k]):=by
  conv=>lhs;rw[<-Jl k bs,X2 a,Xb,Y0]
 have g:(bs.set k (1-bs[k])).foldl stp 0=(bs.drop (k+1)).foldl stp (stp ((bs.take k).foldl stp 0) (1-bs[k])):=by
  rw[List.set_eq_take_append_cons_drop,if_pos a,Xb,Y0]
 have l:bF (bs.take k):=λb q=>h b (Y1 q)
 have hd:bF (bs.drop (k+1)):=λb q=>h b (XZ q)
 have i:=fold_lt (bs.take k) l 0 (by decide)
 generalize (bs.take k).foldl stp 0=r at f g i
 have m:stp r (1-bs[k])=stp r bs[k] ^^^ rr 0:=by
  unfold stp
  rw[Xk]
  congr 1
  rcases c with e | e <;> rw[e] <;> rfl
 rw[f,g,m,tG _ hd _ _ (a1Q i c) (a3P 0),a9V,Xp]
 congr 2;lia
end Rm
namespace Wm
open Bm Rn
abbrev S:=Option Int×Nat
def skp (s:S)(b:Int):S:=(some b,if s.1=some b then s.2+1 else 1)
def sk (w:List Int):S:=w.foldl skp (none,0)
def run (w:List Int):Nat:=(sk w).2
def iY (w:List Int)(b:Int):sk (w++[b])=skp (sk w) b:=by unfold sk;rw[Xb];rfl
def run_snoc (w:List Int)(b:Int):run (w++[b])=if (sk w).1=some b then run w+1 else 1:=by unfold run;rw[iY];rfl
def last_snoc (w:List Int)(b:Int):(sk (w++[b])).1=some b:=by rw[iY];rfl
def snoc_ind {P:List Int->Prop}(h0:P [])(hs:∀w b,P w->P (w++[b]))(w:List Int):P w:=by
 have :∀n,∀w:List Int,w.length=n->P w:=by
  intro n
  induction n with
  |zero=>intro w a;rw[XN a];exact h0
  | succ n ih=>
   intro w a
   have c:w≠ []:=λz=>by rw[z]at a;cases a
   rw[<-XS c]
   exact hs _ _ (ih _ (by rw[List.length_dropLast,a];rfl))
 exact this _ w rfl
def a8Z (w:List Int):run w<=w.length:=by
 refine snoc_ind (P:=λw=>run w<=w.length) (Yd _) (λw b ih=>?_) w
 rw[run_snoc,Yc,Yw]
 split <;> lia
def run_pos {w:List Int}(h:w≠ []):1<=run w:=by
 rw[<-XS h,run_snoc]
 split <;> lia
def last_eq (w:List Int)(h:0<w.length):(sk w).1=some (w.getD (w.length-1) 0):=by
 have a:w≠ []:=λz=>by rw[z]at h;cases h
 conv=>lhs;rw[<-XS a]
 rw[last_snoc,Yf,Yb (by lia),List.getLast_eq_getElem];rfl
def b3O (w:List Int):∀n,1<=n->n<=w.length->(n<=run w↔Win w (w.length-n) n):=by
 refine snoc_ind (P:=λw=>∀n,1<=n->n<=w.length->(n<=run w↔Win w (w.length-n) n)) (λn s k=>absurd k (by simp;lia)) (λw b ih n s k=>?_) w
 rw[Yc,Yw]at k ⊢
 have e:∀i,i<w.length->(w++[b]).getD i 0=w.getD i 0:=λi l=>by
  rw[Yf,Yf,YF l]
 have p:(w++[b]).getD w.length 0=b:=by
  rw[Yf,Yy (Yd _),X1];rfl
 rw[run_snoc]
 by_cases hn:n=1
 ·subst hn
  refine iff_of_true (by split <;> lia) ⟨by rw[Yc,Yw];lia,λi j f g m o=>?_⟩
  have:i=j:=by lia
  rw[this]
 have t:0<w.length:=by lia
 have a:=ih (n-1) (by lia) (by lia)
 have q:=last_eq w t
 constructor
 ·intro h
  by_cases c:(sk w).1=some b
  ·rw [if_pos c]at h
   have u:w.getD (w.length-1) 0=b:=by rw[q]at c;exact Yp c
   have W:=a.mp (by lia)
   refine⟨by rw[Yc,Yw];lia,?_⟩
   have d:∀i,w.length+1-n<=i->i<w.length+1-n+n->(w++[b]).getD i 0=b:=λi f g=>by
    by_cases l:i<w.length
    ·rw[e i l,<-u]
     exact W.2 i (w.length-1) (by lia) (by lia) (by lia) (by lia)
    ·have:i=w.length:=by lia
     rw[this,p]
   intro i j f g m o
   rw[d i f g,d j m o]
  ·rw[if_neg c]at h;lia
 ·intro W
  have r:=W.2 (w.length-1) w.length (by lia) (by lia) (by lia) (by lia)
  rw[e _ (by lia),p]at r
  have c:(sk w).1=some b:=by rw[q,r]
  rw[if_pos c]
  have:=a.mpr ⟨by lia,λi j f g m o=>by
   have:=W.2 i j (by lia) (by lia) (by lia) (by lia)
   rwa [e i (by lia),e j (by lia)]at this⟩
  lia
def a7M {w:List Int}{k a n:Nat}(h:a+n<=k)(l:k<=w.length):Win (w.take k) a n↔Win w a n:=by
 have e:∀i,i<k->(w.take k).getD i 0=w.getD i 0:=λi g=>by
  rw[Yf,Yf,Y9 g]
 constructor
 ·intro W
  exact⟨by lia,λi j b c d f=>by rw[<-e i (by lia),<-e j (by lia)];exact W.2 i j b c d f⟩
 ·intro W
  exact⟨by rw[Yj];lia,λi j b c d f=>by rw[e i (by lia),e j (by lia)];exact W.2 i j b c d f⟩
def b2R {w:List Int}(b:bF w){n k:Nat}(a:0<n)(e:n<=k)(c:k<=w.length):((w.drop (k-n)).take n).sum % (n:Int)=0↔n<=run (w.take k):=by
 have d:(w.take k).length=k:=by rw[Yj];lia
 rw[b2K b a (by lia),b3O (w.take k) n a (by lia),d]
 exact(a7M (by lia) c).symm
def pst (w:List Int)(b:Int):List Int:=if run (w++[b])=5 then w++[b]++[1-b] else w++[b]
def put (l:List Int):List Int:=l.foldl pst []
def iB (l:List Int)(b:Int):put (l++[b])=pst (put l) b:=by unfold put;rw[Xb];rfl
def wX (b:Int):¬ (some b:Option Int)=some (1-b):=λz=>by have:=Yp z;lia
def b3V {w:List Int}{b:Int}(h:run w<=4):run (pst w b)<=4:=by
 unfold pst
 by_cases c:run (w++[b])=5
 ·rw[if_pos c,run_snoc,last_snoc,if_neg (wX b)];lia
 ·rw[if_neg c]
  rw[run_snoc]at c ⊢
  split at c <;> rename_i z
  ·rw[if_pos z];lia
  ·rw[if_neg z];lia
def oG (l:List Int):run (put l)<=4:=snoc_ind (P:=λl=>run (put l)<=4) (by decide) (λw b ih=>by rw[iB];exact b3V ih) l
def oH {l:List Int}(h:bF l):bF (put l):=by
 have : ∀ k,k<=l.length->bF (put (l.take k)):=by
  intro k
  induction k with
  |zero=>intro _ z a;rw[JA]at a;cases a
  | succ k ih=>
   intro d
   have b:=h _ (YE (show k<l.length by lia))
   have c:=ih (by lia)
   rw[Yg (by lia),iB]
   intro z a
   unfold pst at a
   split at a
   ·rcases YO.mp a with q | q
    ·rcases YO.mp q with q | q
     ·exact c z q
     ·rw[Ym.mp q];exact b
    ·rw[Ym.mp q];lia
   ·rcases YO.mp a with q | q
    ·exact c z q
    ·rw[Ym.mp q];exact b
 have:=this l.length (Yd _)
 rwa [Yi (Yd _)]at this
def b3W (w:List Int)(b:Int):w.length+1<=(pst w b).length/\(pst w b).length<=w.length+2:=by
 unfold pst
 split <;> simp
def kJ (l:List Int):l.length<=(put l).length/\(put l).length<=2*l.length:=by
 refine snoc_ind (P:=λl=>l.length<=(put l).length/\(put l).length<=2*l.length) ⟨Yd _,Yd _⟩ (λw b ih=>?_) l
 have:=b3W (put w) b
 rw[iB,Yc,Yw]
 lia
def kst (s:S×List Int)(b:Int):S×List Int:=(skp s.1 b,if s.1.2=5 then s.2 else s.2++[b])
def kp (w:List Int):List Int:=(w.foldl kst ((none,0), [])).2
def b4T (w:List Int):(w.foldl kst ((none,0), [])).1=sk w:=by
 refine snoc_ind (P:=λw=>(w.foldl kst ((none,0), [])).1=sk w) rfl (λw b ih=>?_) w
 rw[Xb,iY,<-ih];rfl
def kp_snoc (w:List Int)(b:Int):kp (w++[b])=if run w=5 then kp w else kp w++[b]:=by
 unfold kp run
 rw[Xb,<-b4T];rfl
def b9J:kp []= []:=rfl
def Good (w:List Int):Prop:=∀k,k<=w.length->run (w.take k)<=5
def Good.snoc {w:List Int}{b:Int}(h:Good w)(a:run (w++[b])<=5):Good (w++[b]):=λk d=>by
 rw[Yc,Yw]at d
 by_cases c:k<=w.length
 ·rw[Y3 c];exact h k c
 ·rw[Yi (by rw[Yc,Yw];lia)];exact a
def rT {w:List Int}{b:Int}:run (w++[b])<=run w+1:=by rw[run_snoc];split <;> lia
def lF (l:List Int):Good (put l):=by
 refine snoc_ind (P:=λl=>Good (put l)) (λk d=>?_) (λw b ih=>?_) l
 ·have:k=0:=Nat.le_zero.mp d
  subst this;decide
 ·rw [iB]
  have e:=oG w
  have a:run (put w++[b])<=5:=YS rT (by lia)
  unfold pst
  split
  ·rename_i c
   refine(ih.snoc a).snoc ?_
   rw[run_snoc,last_snoc,if_neg (wX b)];lia
  ·exact ih.snoc a
def xF (l:List Int):kp (put l)=l:=by
 refine snoc_ind (P:=λl=>kp (put l)=l) rfl (λw b ih=>?_) l
 rw[iB]
 have d:=oG w
 have a:kp (put w++[b])=w++[b]:=by rw[kp_snoc,if_neg (by lia),ih]
 unfold pst
 split
 ·rename_i c
  rw[kp_snoc,if_pos c,a]
 ·exact a
def wN {w:List Int}(hb:bF w)(hg:Good w):put (kp w)=if run w=5 then w++[1-w.getD (w.length-1) 0] else w:=by
 have : ∀ k,k<=w.length->put (kp (w.take k))=if run (w.take k)=5 then w.take k++[1-w.getD (k-1) 0] else w.take k:=by
  intro k
  induction k with
  |zero=>intro _;rfl
  | succ k ih=>
   intro f
   have a:k<w.length:=by lia
   have g:=hb _ (YE a)
   have i:w.getD (k+1-1) 0=w[k]:=by rw[Nat.add_sub_cancel,Yf,Yb a];rfl
   have b:=ih (by lia)
   have e:=hg (k+1) f
   rw[Yg a]at e ⊢
   rw[kp_snoc,i]
   by_cases c:run (w.take k)=5
   ·rw [if_pos c,b,if_pos c]
    have j:0<k:=by
     have:=a8Z (w.take k)
     rw[Yj]at this
     lia
    have l:(w.take k).length=k:=by rw[Yj];lia
    have l1:=last_eq (w.take k) (by lia)
    have m:(w.take k).getD (k-1) 0=w.getD (k-1) 0:=by
     rw[Yf,Yf,Y9 (by lia)]
    rw[l,m]at l1
    have d:¬ (sk (w.take k)).1=some w[k]:=λz=>by
     rw[run_snoc,if_pos z,c]at e;lia
    have n:w.getD (k-1) 0=0\/w.getD (k-1) 0=1:=by
     rw[Yf,Yb (show k-1<w.length by lia)]
     exact hb _ (YE _)
    have o:1-w.getD (k-1) 0=w[k]:=by
     have:¬ w.getD (k-1) 0=w[k]:=λz=>d (by rw[l1,z])
     lia
    rw[o,if_neg]
    rw[run_snoc,if_neg d];decide
   ·rw[if_neg c,iB,b,if_neg c]
    unfold pst
    split <;> rfl
 have h:=this w.length (Yd _)
 rwa [Yi (Yd _)]at h
def xG {w:List Int}(hb:bF w):bF (kp w):=by
 have : ∀k,k<=w.length->bF (kp (w.take k)):=by
  intro k
  induction k with
  |zero=>intro _ z a;rw[JA,b9J]at a;cases a
  | succ k ih=>
   intro c z a
   have b:=ih (by lia)
   rw[Yg (show k<w.length by lia),kp_snoc]at a
   split at a
   ·exact b z a
   ·rcases YO.mp a with q | q
    ·exact b z q
    ·rw[Ym.mp q];exact hb _ (YE _)
 have h:=this w.length (Yd _)
 rwa [Yi (Yd _)]at h
def kp_len (w:List Int):(kp w).length<=w.length:=by
 refine snoc_ind (P:=λw=>(kp w).length<=w.length) (Yd _) (λw b ih=>?_) w
 rw[kp_snoc,Yc,Yw]
 split
 ·lia
 ·rw[Yc,Yw];lia
end Wm
namespace Rm
open Bm
def b0C {a:List Int}(h:bF a)(b:a.length<=15):nm a<32768:=Yh (nJ h) (Yz (n:=2) (j:=15) (by decide) b)
def a5X {a:List Int}(h:bF a)(b:a.length<=15):rst a=nm a:=rD (b0C h b)
def iG {as bs:List Int}(a:bF as)(b:bF bs):bF (as++bs):=λz c=>(YO.mp c).elim (a z) (b z)
def a3O {bs a:List Int}(h:bF bs)(b:bF a)(d:bs.length+a.length<=500)(c:a.length<=15):rst (bs++a)=nm a ^^^ nxn a.length (rst bs):=by
 rw[mJ (iG h b) (by rw[Yc];exact d),Xb,<-mJ h (by lia)]
 have:=tG a b 0 (rst bs) (by decide) (a2A bs)
 rw[Jj,<-mJ b (by lia),a5X b c]at this
 exact this
def zs (n:Nat):List Int:=List.replicate n 0
def vY (n:Nat):bF (zs n):=λb a=> .inl (List.eq_of_mem_replicate a)
def b6H:∀n,nm (zs n)=0:=by
 intro n
 have:∀n,lU (zs n)=0:=λn=>by
  induction n with
  |zero=>rfl
  |succ n ih=>unfold zs;rw[Xg,uX];show 0*_+lU (zs n)=0;rw[ih];simp
 unfold nm;rw[this];rfl
def ckn (bs:List Int):Nat:=rst (bs++zs 15)
def b1S (bs:List Int):ckn bs<32768:=a2A _
def ck (bs:List Int):List Int:=bO (ckn bs) 15
def iC {n m:Nat}(h:n<2 ^ m):nm (bO n m)=n:=by unfold nm;rw[a9Z h];rfl
def a2B {bs a:List Int}(h:bF bs)(c:bF a)(d:bs.length<=400)(b:a.length=15):rst (bs++a)=nm a ^^^ ckn bs:=by
 rw[a3O h c (by lia) (by lia)]
 unfold ckn
 rw[a3O h (vY 15) (by unfold zs;rw[YA];lia) (by unfold zs;rw[YA];exact Yd _),b6H,Jj,b]
 unfold zs
 rw[YA]
def b7Z {bs:List Int}(h:bF bs)(a:bs.length<=400):rst (bs++ck bs)=0:=by
 unfold ck
 rw[a2B h (iU _ _) a (cF _ _),iC (m:=15) (b1S bs),Nat.xor_self]
def fl (l:List Int)(p:Nat):List Int:=l.set p (1-l.getD p 0)
def fls (l:List Int)(ps:List Nat):List Int:=ps.foldl fl l
def a2R (l:List Int)(p:Nat):(fl l p).length=l.length:=Y8
def b5A {l:List Int}(h:bF l){p:Nat}(a:p<l.length):bF (fl l p):=by
 unfold fl
 refine a0U h ?_
 rw[Yf,Yb a]
 rcases h _ (YE a) with e | e <;> simp[e]
def b7Y {l:List Int}(h:bF l)(b:l.length<=500){p:Nat}(a:p<l.length):rst (fl l p)=rst l ^^^ rr (l.length-1-p):=by
 unfold fl
 have e:l.getD p 0=l[p]:=by rw[Yf,Yb a];rfl
 rw[e]
 exact a9B h b a
theorem a3N:∀(ps:List Nat){l:List Int},bF l->l.length<=500->(∀p∈ps,p<l.length)->rst (fls l ps)=rst l ^^^ sm (ps.map λp=>l.length-1-p)
 |[],l,_,_,_=>(Xx _).symm
 | p::r,l,h,hl,hp=>by
  have h1:=hp p YC
  have ih:=a3N r (l:=fl l p) (b5A h h1) (by rw[a2R];exact hl) λq hq=>by rw[a2R];exact hp q (Yv _ hq)
  show rst (fls (fl l p) r)=_
  rw[ih,b7Y h hl h1,YK,kI,a2R,Xk]
theorem nM {n:Nat}:∀{ps:List Nat},ps.Nodup->(∀p∈ps,p<n)->(ps.map λp=>n-1-p).Nodup
 |[],_,_=>XG
 | p::r,h,hp=>by
  obtain⟨h1,h2⟩:=YQ.mp h
  refine YQ.mpr ⟨λhm=>?_,nM h2 λq hq=>hp q (Yv _ hq)⟩
  obtain⟨q,hq,e⟩:=YW.mp hm
  have a1:=hp p YC
  have a2:=hp q (Yv _ hq)
  have e':n-1-q=n-1-p:=e
  have:q=p:=by lia
  exact h1 (this▸hq)
def five {l:List Int}{ps:List Nat}(c:ps.Nodup)(b:∀p∈ps,p<l.length)(g:l.length<=127)(d:1<=ps.length)(e:ps.length<=5):sm (ps.map λp=>l.length-1-p)≠0:=by
 refine few (nM c b) (λq f=>?_) (by rw[Ya];exact d) (by rw[Ya];exact e)
 obtain⟨p,a,rfl⟩:=YW.mp f
 have:=b p a
 lia
end Rm
namespace Wm
open L2 Bm Rn
def a9E (l:List Int):(put l).head? =l.head?:=snoc_ind (P:=λl=>(put l).head? =l.head?) rfl (λw b ih=>by
 rw[iB]
 unfold pst
 split
 ·rw[Xh,Xh,Xh,ih]
  cases w.head? <;> rfl
 ·rw[Xh,Xh,ih]) l
def b4U (w:List Int):(kp w).head? =w.head?:=snoc_ind (P:=λw=>(kp w).head? =w.head?) rfl (λw b ih=>by
 rw[kp_snoc]
 split
 ·rename_i h
  rw[ih,Xh]
  cases w with
  |nil=>exact absurd h (by decide)
  |cons x r=>rfl
 ·rw[Xh,Xh,ih]) w
def a6U {l:List Int}{x:Int}(h:l.head? =some x):l.getD 0 0=x:=by
 cases l with
 |nil=>cases h
 |cons y r=>exact Yp h
end Wm
namespace Wm
open Bm Rn Rm
def kf:S->List Int->List Int
 |_, []=>[]
 |s,b::r=>if s.2=5 then kf (skp s b) r else b::kf (skp s b) r
theorem sY:∀(B A:List Int),kp (A++B)=kp A++kf (sk A) B
 |[],A=>by rw[YD];exact(YD _).symm
 | b ::r,A=>by
  have e:A++b::r=(A++[b])++r:=by rw[Ys];rfl
  rw[e,sY r (A++[b]),kp_snoc,iY]
  show _=kp A++(if (sk A).2=5 then kf (skp (sk A) b) r else b::kf (skp (sk A) b) r)
  by_cases c:(sk A).2=5
  ·have c':run A=5:=c
   rw[if_pos c,if_pos c']
  ·have c':¬ run A=5:=c
   rw[if_neg c,if_neg c',Ys];rfl
def gf:S->List Int->Prop
 |_, []=>True
 |s,b::r=>(skp s b).2<=5/\gf (skp s b) r
theorem a4P:∀(B A:List Int),Good (A++B)->gf (sk A) B
 |[],_,_=>trivial
 | b::r,A,h=>by
  have e:A++b::r=(A++[b])++r:=by rw[Ys];rfl
  rw[e]at h
  have h1:=h (A++[b]).length (by rw[Yc (as:=A++[b])];lia)
  rw[List.take_left' rfl]at h1
  have h2:=a4P r (A++[b]) h
  rw[iY]at h2
  refine⟨?_,h2⟩
  have:run (A++[b])=(skp (sk A) b).2:=by unfold run;rw[iY]
  rw[<-this];exact h1
theorem rK (x:Int)(hx:x=0\/x=1):∀(B:List Int)(u v:Nat),v<u->u<=5->bF B->gf (some x,u) B->
  kf (some x,u) B=kf (some x,v) B\/∃i suf,kf (some x,v) B=List.replicate i x++(1-x)::suf/\kf (some x,u) B=List.replicate i x++suf
 |[],_,_,_,_,_,_=> .inl rfl
 | c :: r,u,v,h1,h2,hb,hg=>by
  have hc:=hb c YC
  have hr:bF r:=λz hz=>hb z (Yv _ hz)
  by_cases e:c=x
  ·subst e
   obtain⟨g1,g2⟩:=hg
   have s1:∀n,skp (some c,n) c=(some c,n+1):=λn=>by unfold skp;rw[if_pos rfl]
   rw[s1]at g1 g2
   have g1':u+1<=5:=g1
   have k1:∀n,n≠5->kf (some c,n) (c::r)=c::kf (some c,n+1) r:=λn hn=>by
    show (if n=5 then _ else c::kf (skp (some c,n) c) r)=_
    rw[if_neg hn,s1]
   rw[k1 u (by lia),k1 v (by lia)]
   rcases rK c hx r (u+1) (v+1) (by lia) g1' hr g2 with h | ⟨i,suf,h3,h4⟩
   ·exact .inl (by rw[h])
   ·exact .inr ⟨i+1,suf,by rw[h3,Xg];rfl,by rw[h4,Xg];rfl⟩
  ·have ec:c=1-x:=by rcases hx with rfl | rfl <;> rcases hc with rfl | rfl <;> first | rfl | exact absurd rfl e
   have s1:∀n,skp (some x,n) c=(some c,1):=λn=>by unfold skp;rw[if_neg λz=>e (Yp z).symm]
   have kv:kf (some x,v) (c::r)=c::kf (some c,1) r:=by
    show (if v=5 then _ else c::kf (skp (some x,v) c) r)=_
    rw[if_neg (by lia),s1]
   by_cases h5:u=5
   ·have ku:kf (some x,u) (c::r)=kf (some c,1) r:=by
     show (if u=5 then kf (skp (some x,u) c) r else _)=_
     rw[if_pos h5,s1]
    exact .inr ⟨0,kf (some c,1) r,by rw[kv,ec];rfl,by rw[ku];rfl⟩
   ·have ku:kf (some x,u) (c::r)=c::kf (some c,1) r:=by
     show (if u=5 then _ else c::kf (skp (some x,u) c) r)=_
     rw[if_neg h5,s1]
    exact .inl (by rw[ku,kv])
def Df (l a:List Int):Prop:=l.length+1=a.length\/a.length+1=l.length\/(∃A x t,l=A++x::t/\a=A++(1-x)::t)\/∃A x M y t,l=A++x::(M++y::t)/\a=A++(1-x)::(M++(1-y)::t)
def Df.symm {l c:List Int}(h:Df l c):Df c l:=by
 have e:∀x:Int,x=1-(1-x):=λx=>by lia
 rcases h with h | h | ⟨A,x,t,a,b⟩ | ⟨A,x,M,y,t,a,b⟩
 ·exact .inr (.inl h)
 ·exact .inl h
 ·exact .inr (.inr (.inl ⟨A,1-x,t,b,by rw[<-e x];exact a⟩))
 ·exact .inr (.inr (.inr ⟨A,1-x,M,1-y,t,b,by rw[<-e x,<-e y];exact a⟩))
def Df.ahead {l c:List Int}(A:List Int)(h:Df l c):Df (A++l) (A++c):=by
 rcases h with h | h | ⟨B,x,t,a,b⟩ | ⟨B,x,M,y,t,a,b⟩
 ·exact .inl (by rw[Yc,Yc];lia)
 ·exact .inr (.inl (by rw[Yc,Yc];lia))
 ·exact .inr (.inr (.inl ⟨A++B,x,t,by rw[a,Ys],by rw[b,Ys]⟩))
 ·exact .inr (.inr (.inr ⟨A++B,x,M,y,t,by rw[a,Ys],by rw[b,Ys]⟩))
theorem rZ (x:Int)(s:List Int):∀i,x::(List.replicate i x++s)=List.replicate i x++x::s
 |0=>rfl
 |i+1=>by rw[Xg,List.cons_append,List.cons_append,rZ x s i]
def yJ (x:Int)(p:x=0\/x=1)(B:List Int)(a b:Nat)(q:bF B)(u:1<=a)(r:gf (some x,a) (x::B))(s:b<=5) :
  Df (x::kf (some x,a) (x::B)) ((1-x)::kf (some (1-x),b) (x::B)):=by
 have d:¬ (some (1-x):Option Int)=some x:=λz=>by have:=Yp z;lia
 obtain⟨k,l⟩:=r
 have m:skp (some x,a) x=(some x,a+1):=by unfold skp;rw[if_pos rfl]
 have n:skp (some (1-x),b) x=(some x,1):=by unfold skp;rw[if_neg d]
 rw[m]at k l
 have e:a+1<=5:=k
 have t:kf (some x,a) (x::B)=x::kf (some x,a+1) B:=by
  show (if a=5 then _ else x::kf (skp (some x,a) x) B)=_
  rw[if_neg (by lia),m]
 rw[t]
 have o:=rK x p B (a+1) 1 (by lia) e q l
 by_cases h5:b=5
 ·have f:kf (some (1-x),b) (x::B)=kf (some x,1) B:=by
   show (if b=5 then kf (skp (some (1-x),b) x) B else _)=_
   rw[if_pos h5,n]
  rw[f]
  rcases o with h | ⟨i,c,g,j⟩
  ·exact .inr (.inl (by rw[h,Yo,Yo,Yo]))
  ·refine .inr (.inr (.inr ⟨[],x,List.replicate i x,x,c,?_,?_⟩))
   ·rw[j,rZ];rfl
   ·rw[g];rfl
 ·have f:kf (some (1-x),b) (x::B)=x::kf (some x,1) B:=by
   show (if b=5 then _ else x::kf (skp (some (1-x),b) x) B)=_
   rw[if_neg h5,n]
  rw[f]
  rcases o with h | ⟨i,c,g,j⟩
  ·exact .inr (.inr (.inl ⟨[],x,x::kf (some x,1) B,by rw[h];rfl,rfl⟩))
  ·refine .inl ?_
   rw[g,j]
   simp only[Yo,Yc]
   lia
def a8X {s:S}{b:Int}(h:(skp s b).2<=5):skp s b=(some b,(skp s b).2)/\1<=(skp s b).2:=by
 refine⟨rfl,?_⟩
 unfold skp
 show 1<=(if s.1=some b then s.2+1 else 1)
 split <;> lia
def turned {A B:List Int}{b:Int}(hb:b=0\/b=1)(hB:bF B)(h1:Good (A++b::B))(h2:Good (A++(1-b)::B))(hA:bF A):Df (kp (A++b::B)) (kp (A++(1-b)::B)):=by
 have q:=a4P _ _ h1
 have r:=a4P _ _ h2
 rw[sY,sY]
 refine Df.ahead _ ?_
 obtain⟨h,f⟩:=q
 obtain⟨i,g⟩:=r
 have l:=a8X h
 have m:=a8X i
 have n:¬ (sk A).2=5:=λz=>by
  have s:(if (sk A).1=some b then (sk A).2+1 else 1)<=5:=h
  have t:(if (sk A).1=some (1-b) then (sk A).2+1 else 1)<=5:=i
  have o:¬ (sk A).1=some b:=λy=>by rw[if_pos y]at s;lia
  have p:¬ (sk A).1=some (1-b):=λy=>by rw[if_pos y]at t;lia
  have j:∀c,(sk A).1=some c->c=0\/c=1->False:=λc a k=>by
   rcases hb with rfl | rfl <;> rcases k with rfl | rfl
   ·exact o a
   ·exact p a
   ·exact p a
   ·exact o a
  by_cases h0:0<A.length
  ·exact j _ (last_eq A h0) (by
    rw[Yf,Yb (by lia)]
    exact hA _ (YE _))
  ·have:A= []:=XN (by lia)
   rw[this]at z
   exact absurd (show (0:Nat)=5 from z) (by decide)
 show Df (if (sk A).2=5 then _ else b::kf (skp (sk A) b) B) (if (sk A).2=5 then _ else (1-b)::kf (skp (sk A) (1-b)) B)
 rw[if_neg n,if_neg n]
 match B,hB,f,g with
 |[],_,_,_=>exact .inr (.inr (.inl ⟨[],b, [],rfl,rfl⟩))
 | c ::B,hB,f,g=>
  have a:=hB c YC
  have d:bF B:=λz u=>hB z (Yv _ u)
  rw[l.1]at f ⊢
  rw[m.1]at g ⊢
  by_cases e:c=b
  ·subst e
   exact yJ c a B _ _ d l.2 f i
  ·have v:c=1-b:=by rcases hb with rfl | rfl <;> rcases a with rfl | rfl <;> first | rfl | exact absurd rfl e
   subst v
   have w:b=1-(1-b):=by lia
   have:=yJ (1-b) a B _ _ d m.2 g h
   rw[<-w]at this
   exact this.symm
def a2Q (x:Int)(t:List Int):∀A:List Int,fl (A++x::t) A.length=A++(1-x)::t:=λA=>by
 unfold fl
 have e:(A++x::t).getD A.length 0=x:=by rw[Yf,Yy (Yd _),X1];rfl
 rw[e,List.set_append_right _ _ (Yd _),X1];rfl
def Df.seen {l d:List Int}(g:bF l)(i:l.length<=127)(h:Df l d)(r:rst l=0)(m:l.length % 8=d.length % 8):rst d≠0:=by
 have go:∀a:List Nat,d=fls l a->a.Nodup->(∀p∈a,p<l.length)->1<=a.length->a.length<=5->rst d≠0:=λa e j c b k=>by
  rw[e,a3N a g (by lia) c,r,Jj]
  exact five j c i b k
 rcases h with h | h | ⟨A,x,t,b,f⟩ | ⟨A,x,M,y,t,b,f⟩
 ·lia
 ·lia
 ·refine go [A.length] ?_ (YQ.mpr ⟨Xz,XG⟩) (λp c=>?_) (show 1<=1 by decide) (show 1<=5 by decide)
  ·rw[b,f];exact(a2Q x t A).symm
  ·rw[Ym.mp c,b,Yc,Yo];lia
 ·refine go [A.length,A.length+1+M.length] ?_ (YQ.mpr ⟨λz=>by have:=Ym.mp z;lia,YQ.mpr ⟨Xz,XG⟩⟩) (λp c=>?_) (show 1<=2 by decide) (show 2<=5 by decide)
  ·rw[b,f]
   show _=fl (fl (A++x::(M++y::t)) A.length) _
   rw[a2Q]
   have n:A++(1-x)::(M++y::t)=(A++(1-x)::M)++y::t:=by rw[Ys];rfl
   have o:A.length+1+M.length=(A++(1-x)::M).length:=by rw[Yc,Yo];lia
   rw[n,o,a2Q,Ys];rfl
  ·rw [b,Yc,Yo,Yc,Yo]
   rcases YL.mp c with z | z
   ·lia
   ·have:=Ym.mp z
    lia
theorem ones_sk:∀k,1<=k->sk (0::List.replicate k 1)=(some 1,k)
 |1,_=>rfl
 | k+2,_=>by
  have e:(0:Int)::List.replicate (k+2) 1=(0::List.replicate (k+1) 1)++[1]:=by rw[Xj (n:=k+1)];rfl
  rw[e,iY,ones_sk (k+1) (by lia)]
  unfold skp
  rw[if_pos rfl]
def b4K:∀k,k<=5->kp (0::List.replicate k 1)=0::List.replicate k 1:=by
 intro k a
 have:k=0\/k=1\/k=2\/k=3\/k=4\/k=5:=by lia
 rcases this with rfl | rfl | rfl | rfl | rfl | rfl <;> decide
def missed {k:Nat}{B:List Int}(e:k<=5)(f:bF B)(j:Good ((0::List.replicate k 1)++0::B))(l:bF (kp ((0::List.replicate k 1)++0::B)))(n:(kp ((0::List.replicate k 1)++0::B)).length<=127)(r:rst (kp ((0::List.replicate k 1)++0::B))=0)(m:(kp ((0::List.replicate k 1)++0::B)).length % 8=(kp (0::B)).length % 8):rst (kp (0::B))≠0:=by
 have c:kp (0::B)=0::kf (some 0,1) B:=sY B [0]
 have a:=sY (0::B) (0::List.replicate k 1)
 rw[b4K k e]at a
 by_cases k0:k=0
 ·subst k0
  have d:kf (sk (0::List.replicate 0 1)) (0::B)=0::kf (some 0,2) B:=rfl
  rw[d]at a
  have g:=a4P _ _ j
  have o:gf (some 0,2) B:=g.2
  rcases rK 0 (.inl rfl) B 2 1 (by decide) (by decide) f o with h | ⟨i,b,p,q⟩
  ·rw[a,c,h]at m
   simp only[Yc,Yo,YA]at m
   lia
  ·refine Df.seen l n (.inr (.inr (.inl ⟨0::List.replicate i 0,0,b,?_,?_⟩))) r m
   ·rw[a,q]
    show 0::0::(List.replicate i 0++b)=0::(List.replicate i 0++0::b)
    rw[rZ]
   ·rw[c,p];rfl
 ·have s:=ones_sk k (by lia)
  rw[s]at a
  have t:skp (some 1,k) 0=(some 0,1):=by unfold skp;rw[if_neg (show ¬ (some (1:Int))=some 0 by decide)]
  have d:kf (some 1,k) (0::B)=if k=5 then kf (some 0,1) B else 0::kf (some 0,1) B:=by
   show (if k=5 then kf (skp (some 1,k) 0) B else 0::kf (skp (some 1,k) 0) B)=_
   rw[t]
  rw[d]at a
  exfalso
  rw[a,c,Yc,Yo,Yo,YA]at m
  split at m
  ·lia
  ·rw[Yo]at m
   lia
end Wm
namespace Wm
open Bm
def a3T (w:List Int)(b:Int):∃s,pst w b=w++b::s:=by
 unfold pst
 split
 ·exact⟨[1-b],by rw[Ys];rfl⟩
 ·exact⟨[],rfl⟩
theorem a0M:∀(r w:List Int),∃s,r.foldl pst w=w++s
 |[],w=>⟨[],by rw[YD];rfl⟩
 | b::r,w=>by
  obtain⟨s,hs⟩:=a3T w b
  obtain⟨t,ht⟩:=a0M r (pst w b)
  refine⟨b::s++t,?_⟩
  show r.foldl pst (pst w b)=_
  rw[ht,hs,Ys]
def put_pre (l:List Int)(b:Int)(r:List Int):∃s,put (l++b::r)=put l++b::s:=by
 obtain⟨s,a⟩:=a3T (put l) b
 obtain⟨t,c⟩:=a0M r (pst (put l) b)
 refine⟨s++t,?_⟩
 unfold put at a c ⊢
 rw[Xb]
 show r.foldl pst (pst (l.foldl pst []) b)=_
 rw[c,a,Ys]
 rfl
def bitsI_split {a b s:Nat}(f:s<8)(h:∀j,s<j->a.testBit j=b.testBit j)(g:a.testBit s=true)(k:b.testBit s=false):∃c t1 t2:List Int,bO a 8=c++1::t1/\bO b 8=c++0::t2/\c.length=7-s:=by
 have e:∀n:Nat,bO n 8=((List.range (7-s)).map λi=>gG n (7-i))++gG n s::((List.range s).map λi=>gG n (s-1-i)):=by
  intro n
  unfold bO
  have l:List.range 8=List.range (7-s)++(7-s)::((List.range s).map λi=>8-s+i):=by
   have:∀s,s<8->List.range 8=List.range (7-s)++(7-s)::((List.range s).map λi=>8-s+i):=by decide
   exact this s f
  rw[l,Yn,YK,Jv]
  refine congr (YU _ rfl) (congr (YU _ ?_) (X4 λi d=>?_))
  ·show gG n (8-1-(7-s))=gG n s
   rw[show 8-1-(7-s)=s by lia]
  ·show gG n (8-1-(8-s+i))=gG n (s-1-i)
   have:=Jy.mp d
   rw[show 8-1-(8-s+i)=s-1-i by lia]
 have m:gG a s=1:=by unfold gG;rw[g];rfl
 have o:gG b s=0:=by unfold gG;rw[k];rfl
 refine⟨(List.range (7-s)).map λi=>gG a (7-i),(List.range s).map λi=>gG a (s-1-i),(List.range s).map λi=>gG b (s-1-i),(e a).trans (by rw[m]),(e b).trans ?_,by rw[Ya,YZ]⟩
 rw[o]
 refine YU (·++_) (X4 λi d=>?_)
 have p:=Jy.mp d
 unfold gG
 rw[h (7-i) (by lia)]
end Wm
namespace Wm
open Bm Rn Rm
def sS {a:List Int}(e:bF a):∀{b:List Int},bF b->nm (a++b)=2 ^ b.length*nm a+nm b:=by
 intro b
 refine snoc_ind (P:=λb=>bF b->nm (a++b)=2 ^ b.length*nm a+nm b) (λ_=>by rw[YD];show nm a=1*nm a+0;lia) (λl x ih h=>?_) b
 have c:bF l:=λz f=>h z (Xr _ f)
 have d:x=0\/x=1:=h x (by simp)
 rw[<-Ys,oK (iG e c) d,oK c d,ih c,Yc,Yw,Xw,Nat.mul_add,Jg (2 ^ l.length) 2,Nat.mul_assoc]
 lia
def b9B:∀{a b:List Int},bF a->bF b->a.length=b.length->nm a=nm b->a=b:=by
 intro a
 refine snoc_ind (P:=λa=>∀{b:List Int},bF a->bF b->a.length=b.length->nm a=nm b->a=b) (λ{b} _ _ c _=>(XN c.symm).symm) (λl x ih {b} g h c e=>?_) a
 have d:b≠ []:=λz=>by rw[z,Yc]at c;simp at c
 obtain⟨m,y,rfl⟩:∃m y,b=m++[y]:=⟨b.dropLast,b.getLast d,(XS d).symm⟩
 have i:bF l:=λz f=>g z (Xr _ f)
 have j:bF m:=λz f=>h z (Xr _ f)
 have k:x=0\/x=1:=g x (by simp)
 have n:y=0\/y=1:=h y (by simp)
 rw[oK i k,oK j n]at e
 rw[Yc,Yc]at c
 have o:x=y/\nm l=nm m:=by rcases k with rfl | rfl <;> rcases n with rfl | rfl <;> simp at e <;> lia
 rw[o.1,ih i j (by simpa using c) o.2]
def b1Z {c:List Int}(h:bF c):bO (nm c) c.length=c:=b9B (iU _ _) h (cF _ _) (iC (nJ h))
end Wm
namespace My
open PySem L2
variable {H:Hp}{p:Addr}{H':Hp}{a:Addr}{v:Nat}{n:Nat}{x:Nat->Prop}{C:Addr}{dx:Addr}{fs:List (Nat×Nat×List Int)}{m:Nat}{i:Nat}{bs:List Int}{xs:List (List Int)}{w:List Int}{CK:Addr}{r:Addr}{st:Stmt}{ks:Addr}{t:Addr}{ds:List Int}{l:Nat}{j:Nat}{k:Nat}{b:Int}{C1:Addr}{C2:Addr}{K:W.Frag}{vs:List V}{H1:Hp}{h:List Int}{nwf:Addr}{ch:Nat->Nat×Nat}{wl:Addr}{ul:Addr}{ct:Value}{ws:List V}{us:List V}{nw:Addr}{d:FuncData}{H0:Hp}{nw':Addr}{y:List Int}{c:Nat}{dp:Addr}{ps:List (Int×Int)}{L:List (Addr×HO)}{v':HO}{as:List Addr}{hs:List Int}{L1:List (Addr×HO)}{mg:Str->Option Value}{cd:Value}{n1:Nat}{ds1:List Int}{N:Nat}{vt:Nat}{z:Nat}{wp:Option Nat}{T:Int}{q:Nat}{Z:Nat}{X:List Int}{ts:Nat->List Addr}{rl:Addr}{ev:Addr}{ras:List Addr}{oc:Value}{kV:Value}{dc:Value}{pm:Value}{od:Option Addr}{an:Option Addr}{sl:Array (Option Value)}
def top (i:Nat):Stmt:=PySem.Challenge.pw_bitrail_k91_whole_one_wrong_bit.main.body.getD i (.Pass ⟨0,0,0,0⟩)
def aQ (s:Stmt):List Stmt:=match s with | .ClassDef _ _ _ b _ _ _ _ _ _ _=>b | _=>[]
abbrev Zg4:Stmt:=top 84
abbrev Zgj:Stmt:=(aQ (top 27)).getD 0 (.Pass ⟨0,0,0,0⟩)
abbrev Zez:Stmt:=(aQ (top 27)).getD 1 (.Pass ⟨0,0,0,0⟩)
abbrev ZeW:Stmt:=(aQ (top 27)).getD 2 (.Pass ⟨0,0,0,0⟩)
abbrev Zd7:Stmt:=(aQ (top 27)).getD 3 (.Pass ⟨0,0,0,0⟩)
abbrev Zjc:Stmt:=top 10
abbrev ZhN:Stmt:=top 11
abbrev ZhL:Stmt:=top 12
abbrev Zjd:Stmt:=top 14
abbrev Zjf:Stmt:=top 18
abbrev ZiA:Stmt:=top 19
abbrev Zje:Stmt:=top 23
abbrev Zky:Stmt:=top 28
abbrev Zgn:Stmt:=top 35
abbrev ZgY:Stmt:=top 36
abbrev Zjg:Stmt:=top 40
abbrev ZhO:Stmt:=top 38
abbrev Zgp:Stmt:=top 37
abbrev ZgZ:Stmt:=top 39
abbrev Zgf:Stmt:=(aQ (top 48)).getD 0 (.Pass ⟨0,0,0,0⟩)
abbrev Ze9:Stmt:=(aQ (top 48)).getD 2 (.Pass ⟨0,0,0,0⟩)
abbrev Zge:Stmt:=(aQ (top 48)).getD 1 (.Pass ⟨0,0,0,0⟩)
abbrev ZfA:Stmt:=(aQ (top 48)).getD 3 (.Pass ⟨0,0,0,0⟩)
abbrev Zfz:Stmt:=(aQ (top 48)).getD 4 (.Pass ⟨0,0,0,0⟩)
abbrev ZhF:Stmt:=(aQ (top 52)).getD 0 (.Pass ⟨0,0,0,0⟩)
abbrev ZhG:Stmt:=(aQ (top 52)).getD 1 (.Pass ⟨0,0,0,0⟩)
abbrev Zfa:Stmt:=(aQ (top 52)).getD 3 (.Pass ⟨0,0,0,0⟩)
abbrev Zer:Stmt:=(aQ (top 52)).getD 4 (.Pass ⟨0,0,0,0⟩)
abbrev ZhE:Stmt:=(aQ (top 52)).getD 2 (.Pass ⟨0,0,0,0⟩)
abbrev Ze8:Stmt:=(aQ (top 53)).getD 0 (.Pass ⟨0,0,0,0⟩)
abbrev ZeV:Stmt:=(aQ (top 54)).getD 0 (.Pass ⟨0,0,0,0⟩)
abbrev ZgO:Stmt:=(aQ (top 46)).getD 0 (.Pass ⟨0,0,0,0⟩)
abbrev ZeS:Stmt:=(aQ (top 46)).getD 6 (.Pass ⟨0,0,0,0⟩)
abbrev Zfw:Stmt:=(aQ (top 46)).getD 7 (.Pass ⟨0,0,0,0⟩)
abbrev ZgP:Stmt:=(aQ (top 46)).getD 4 (.Pass ⟨0,0,0,0⟩)
abbrev Zf9:Stmt:=(aQ (top 46)).getD 1 (.Pass ⟨0,0,0,0⟩)
abbrev Zf8:Stmt:=(aQ (top 46)).getD 2 (.Pass ⟨0,0,0,0⟩)
abbrev ZgN:Stmt:=(aQ (top 46)).getD 3 (.Pass ⟨0,0,0,0⟩)
abbrev ZfE:Stmt:=top 60
abbrev Zhv:Stmt:=(aQ (top 65)).getD 0 (.Pass ⟨0,0,0,0⟩)
abbrev Zgg:Stmt:=(aQ (top 66)).getD 0 (.Pass ⟨0,0,0,0⟩)
abbrev ZgS:Stmt:=(aQ (top 67)).getD 0 (.Pass ⟨0,0,0,0⟩)
abbrev Zga:Stmt:=(aQ (top 68)).getD 0 (.Pass ⟨0,0,0,0⟩)
abbrev Ze4:Stmt:=(aQ (top 69)).getD 0 (.Pass ⟨0,0,0,0⟩)
abbrev ZfB:Stmt:=(aQ (top 70)).getD 0 (.Pass ⟨0,0,0,0⟩)
abbrev ZgV:Stmt:=(aQ (top 71)).getD 0 (.Pass ⟨0,0,0,0⟩)
abbrev Ze7:Stmt:=(aQ (top 78)).getD 8 (.Pass ⟨0,0,0,0⟩)
abbrev Zgd:Stmt:=(aQ (top 78)).getD 9 (.Pass ⟨0,0,0,0⟩)
abbrev ZeT:Stmt:=(aQ (top 78)).getD 10 (.Pass ⟨0,0,0,0⟩)
abbrev Zd6:Stmt:=(aQ (top 78)).getD 11 (.Pass ⟨0,0,0,0⟩)
abbrev Zd5:Stmt:=(aQ (top 78)).getD 12 (.Pass ⟨0,0,0,0⟩)
abbrev ZhM:Stmt:=top 24
abbrev Zfx:Stmt:=(aQ (top 78)).getD 13 (.Pass ⟨0,0,0,0⟩)
abbrev Zhy:Stmt:=(aQ (top 78)).getD 1 (.Pass ⟨0,0,0,0⟩)
abbrev Zkx:Stmt:=top 77
abbrev ZgQ:Stmt:=(aQ (top 78)).getD 5 (.Pass ⟨0,0,0,0⟩)
abbrev Ziw:Stmt:=(aQ (top 78)).getD 6 (.Pass ⟨0,0,0,0⟩)
abbrev Zg1:Stmt:=top 61
abbrev ZiB:Stmt:=top 62
abbrev Zg0:Stmt:=top 63
abbrev Ziz:Stmt:=top 64
abbrev Zgo:Stmt:=top 75
abbrev ZfF:Stmt:=top 76
abbrev ZhA:Stmt:=(aQ (top 78)).getD 0 (.Pass ⟨0,0,0,0⟩)
abbrev Zhw:Stmt:=(aQ (top 65)).getD 2 (.Pass ⟨0,0,0,0⟩)
abbrev Zgh:Stmt:=(aQ (top 66)).getD 2 (.Pass ⟨0,0,0,0⟩)
abbrev ZgT:Stmt:=(aQ (top 67)).getD 2 (.Pass ⟨0,0,0,0⟩)
abbrev Zgb:Stmt:=(aQ (top 68)).getD 2 (.Pass ⟨0,0,0,0⟩)
abbrev Ze5:Stmt:=(aQ (top 69)).getD 2 (.Pass ⟨0,0,0,0⟩)
abbrev ZfC:Stmt:=(aQ (top 70)).getD 2 (.Pass ⟨0,0,0,0⟩)
abbrev ZgW:Stmt:=(aQ (top 71)).getD 2 (.Pass ⟨0,0,0,0⟩)
abbrev Ziu:Stmt:=(aQ (top 72)).getD 1 (.Pass ⟨0,0,0,0⟩)
abbrev Ziv:Stmt:=(aQ (top 72)).getD 2 (.Pass ⟨0,0,0,0⟩)
abbrev Ze6:Stmt:=(aQ (top 69)).getD 3 (.Pass ⟨0,0,0,0⟩)
abbrev ZfD:Stmt:=(aQ (top 70)).getD 3 (.Pass ⟨0,0,0,0⟩)
abbrev ZgX:Stmt:=(aQ (top 71)).getD 3 (.Pass ⟨0,0,0,0⟩)
abbrev Zhx:Stmt:=(aQ (top 65)).getD 3 (.Pass ⟨0,0,0,0⟩)
abbrev ZgU:Stmt:=(aQ (top 67)).getD 3 (.Pass ⟨0,0,0,0⟩)
abbrev Zgi:Stmt:=(aQ (top 66)).getD 3 (.Pass ⟨0,0,0,0⟩)
abbrev Zgc:Stmt:=(aQ (top 68)).getD 3 (.Pass ⟨0,0,0,0⟩)
abbrev ZhB:Stmt:=(aQ (top 78)).getD 2 (.Pass ⟨0,0,0,0⟩)
abbrev Zhz:Stmt:=(aQ (top 78)).getD 3 (.Pass ⟨0,0,0,0⟩)
abbrev Zfy:Stmt:=(aQ (top 81)).getD 5 (.Pass ⟨0,0,0,0⟩)
abbrev ZhD:Stmt:=(aQ (top 81)).getD 0 (.Pass ⟨0,0,0,0⟩)
abbrev ZhC:Stmt:=(aQ (top 81)).getD 1 (.Pass ⟨0,0,0,0⟩)
abbrev ZeU:Stmt:=(aQ (top 81)).getD 4 (.Pass ⟨0,0,0,0⟩)
abbrev Ziy:Stmt:=(aQ (top 81)).getD 3 (.Pass ⟨0,0,0,0⟩)
abbrev Zix:Stmt:=(aQ (top 81)).getD 13 (.Pass ⟨0,0,0,0⟩)
abbrev ZgR:Stmt:=(aQ (top 81)).getD 12 (.Pass ⟨0,0,0,0⟩)
abbrev ZhH:Stmt:=top 86
abbrev ZhJ:Stmt:=top 87
abbrev Zgl:Stmt:=top 88
abbrev Zgk:Stmt:=top 89
abbrev Zgm:Stmt:=top 90
abbrev ZhK:Stmt:=top 91
abbrev ZhI:Stmt:=top 92
abbrev ZlJ:Stmt:=top 93
def aK (h:H p=none)(o:HO):Same H (upd H p o):=λb u q=>by rw[aH (aL q h)];exact q
def nS {v:HO}(h:H a=none)(e:upd H a v=H'):Same H H':=e▸aK h v
def nE {v:HO}(e:upd H a v=H'):H' a=some v:=e▸aB
def small (h:n<=1000):n<=sizeLine:=XD (uT h)
def aO (h:decide (n<=1000)=true):n<=sizeLine:=small (Y2 h)
def bT (h:n<=1000):n<sizeLine:=uT h
def _root_.L2.Same.put {o:HO}(g:Same H H')(h:H p=none):Same H (upd H' p o):=λb u q=>by rw[aH (aL q h)];exact g b u q
def _root_.L2.Same.none {x:Addr}(g:Same H H')(h:H' x=none):H x=none:=by
 cases e:H x with
 |none=>rfl
 |some o=>rw[g x o e]at h;cases h
def bN {x:Addr}{fs:List (Str×V)}(a:H x=none)(hd:H dx=none):Same H (upd (upd (upd H dx (.own x)) x (.ins C dx [])) x (.ins C dx fs)):=λb u q=>by
 rw[aH (aL q a),aH (aL q a),aH (aL q hd)];exact q
open Bm Rm
def b6P (n k:Nat):Builtin.bitAnd ((n:Int) / 2 ^ ((k:Int)).toNat) 1=gG n k:=by
 rw[c4O]
 have h:Builtin.bitAnd ((n >>> k:Nat):Int) 1=(((n >>> k:Nat) &&& 1:Nat):Int):=band (n >>> k) 1
 rw[h]
 unfold gG
 have a:=bit_at n k
 have b:((n >>> k:Nat) &&& 1)=(n >>> k) % 2:=Nat.and_one_is_mod _
 split
 ·rename_i c;exact a.mpr c
 ·rename_i c
  have:¬ (((n >>> k:Nat) &&& 1:Nat):Int)=1:=λz=>c (a.mp z)
  lia
def a8V:Sp:=λa H Q _=>∃n m:Nat,a= [.int n,.int m]/\n<2 ^ m/\m<=128/\∀p,H p=none->Q (.ref p) (upd H p (.lst ((bO n m).map V.int)))
def a1T (K:W.Frag):Sp:=λb H Q _=>∃(a:Addr)(bs:List Int),b= [.ref a]/\SqL K H a (bs.map V.int)/\bF bs/\bs.length<=450/\Q (.int ((nm bs:Nat):Int)) H
def a6Y (h:n<2 ^ m):(n:Int) / 2 ^ ((m:Int)).toNat=0:=by
 rw[sJ]
 exact Int.ediv_eq_zero_of_lt (Int.natCast_nonneg n) (by exact_mod_cast h)
def a5J (h:i<m):(bO n m).take (i+1)=(bO n m).take i++[gG n (m-1-i)]:=by
 have a:i<(bO n m).length:=by rw[cF];exact h
 rw[Yg a,vJ a]
def xV (h:i<bs.length):atI (bs.map V.int) ((i:Nat):Int)=some (.int bs[i]):=eV (by rw[Yl,Yb h];rfl)
def oX {x:V}(a:(bs.map V.int)[i]? =some x):∃h:i<bs.length,x= .int bs[i]:=by
 have b:i<bs.length:=by
  have:=(Ye.mp a).1
  rwa [Ya]at this
 refine⟨b,?_⟩
 rw[Yl,Yb b]at a
 exact(Yp a).symm
abbrev bl (a:Nat):Nat:=Builtin.Int.intBits (a:Int)
def c3A {a:Nat}(h:a≠0):2 ^ (bl a-1)<=a:=by
 show 2 ^ (Builtin.Int.intBits (a:Int)-1)<=a
 rw[tM,if_neg h]
 exact Nat.log2_self_le h
def b1Y {a:Nat}(h:a<2 ^ n):bl a<=n:=bits_le h
def b6L (a:Nat):a<2 ^ bl a:=b5N a
def a2X:bl 64647=16:=by decide
def b0S {r:Nat}(d:r<2 ^ 450)(h:16<=bl r):(r ^^^ 64647 <<< (bl r-16))<2 ^ 450/\R (r ^^^ 64647 <<< (bl r-16))=R r/\bl (r ^^^ 64647 <<< (bl r-16))<bl r:=by
 have e:=b1Y d
 have b:r≠0:=by
  intro z
  subst z
  have:bl 0=0:=by decide
  lia
 have l1:64647 <<< (bl r-16)<2 ^ (bl r-1+1):=by
  rw[Xq]
  have a:bl r-1+1=16+(bl r-16):=by lia
  rw[a,Nat.pow_add]
  exact Nat.mul_lt_mul_of_lt_of_le (by decide) (Yd _) (Ja _)
 have l2:2 ^ (bl r-1)<=64647 <<< (bl r-16):=by
  rw[Xq]
  have a:bl r-1=15+(bl r-16):=by lia
  rw[a,Nat.pow_add]
  exact Nat.mul_le_mul_right _ (by decide)
 have l3:r<2 ^ (bl r-1+1):=by
  have a:bl r-1+1=bl r:=by lia
  rw[a];exact b6L r
 have c:=b2H l3 l1 (c3A b) l2
 have f:bl (r ^^^ 64647 <<< (bl r-16))<=bl r-1:=b1Y c
 exact⟨Yh c (Yz (by decide) (by lia)),b2C (by lia),by lia⟩
def a5T:Sp:=λb H Q _=>∃a:Nat,b= [.int a,.int 64647]/\a<2 ^ 450/\∀(w:Nat)(p:Addr),H p=none->Q (.ref p) (upd H p (.tup [.int (w:Int),.int ((R a:Nat):Int)]))
def b7P (K:W.Frag):Sp:=λb H Q _=>∃(a:Addr)(bs:List Int),b= [.ref a]/\SqL K H a (bs.map V.int)/\bF bs/\bs.length<=450/\∀H',Same H H'->Q (.int ((rst bs:Nat):Int)) H'
def b3E (K:W.Frag):Sp:=λb H Q _=>∃(a:Addr)(bs:List Int),b= [.ref a]/\SqL K H a (bs.map V.int)/\bF bs/\bs.length<=400/\∀p H',H p=none->Same H H'->H' p=some (.lst ((ck bs).map V.int))->Q (.ref p) H'
def b4M (h:bF bs):lU bs=((nm bs:Nat):Int):=(qU h).symm
def szB (bs:List Int):Nat:=nm ((bs.drop 9).take 3)
def nmB (bs:List Int):Nat:=nm ((bs.drop 1).take 8)
def dtB (bs:List Int)(k:Nat):Int:=((nm ((bs.drop (12+8*k)).take 8):Nat):Int)
def daB (bs:List Int):List Int:=(List.range (szB bs)).map (dtB bs)
def lN (bs:List Int):Prop:=12<=bs.length/\bs.length=27+8*szB bs
def a2Z (bs:List Int):Prop:=lN bs/\bs.getD 0 0=0/\rst bs=0
def mO (h:bF bs)(a n:Nat):bF ((bs.drop a).take n):=λb c=>h b (XZ (Y1 c))
def a7V (h:bF bs):szB bs<8:=by
 have:=nJ (mO h 9 3)
 refine Yh this (Yz (n:=2) (j:=3) (by decide) ?_)
 rw[Yj];lia
def b7O (K:W.Frag):Sp:=λb H Q _=>∃(a:Addr)(bs:List Int),b= [.ref a]/\SqL K H a (bs.map V.int)/\bF bs/\12<=bs.length/\bs.length<=450/\∀H',Same H H'->Q (.int ((szB bs:Nat):Int)) H'
def c1J (K:W.Frag):Sp:=λb H Q _=>∃(a:Addr)(bs:List Int),b= [.ref a]/\SqL K H a (bs.map V.int)/\bF bs/\bs.length<=450/\(lN bs->∀H',Same H H'->Q (.bl true) H')/\(¬ lN bs->∀H',Same H H'->Q (.bl false) H')
def b7Q (K:W.Frag)(C:Addr):Sp:=λb H Q E=>∃(a:Addr)(bs:List Int),b= [.ref a]/\SqL K H a (bs.map V.int)/\bF bs/\bs.length<=450/\
 (a2Z bs->∀t p H',H p=none->Same H H'->H' p=some (.lst ((daB bs).map V.int))->H' t=some (.tup [.int ((nmB bs:Nat):Int),.ref p])->Q (.ref t) H')/\(¬ a2Z bs->∀H',Same H H'->False)
def a4W (bs:List Int):(daB bs).length=szB bs:=by unfold daB;rw[Ya,YZ]
def b1M (h:i<szB bs):(daB bs).take (i+1)=(daB bs).take i++[dtB bs i]:=by
 have a:i<(daB bs).length:=by rw[a4W];exact h
 have e:(daB bs)[i]=dtB bs i:=by simp[daB]
 rw[Yg a,e]
def c4Q (h:0<bs.length):bs[0]=bs.getD 0 0:=by rw[Yf,Yb h];rfl
def a2T {a n:Nat}{x y:Int}(b:x=(a:Int))(c:y=((a+n:Nat):Int))(h:a+n<=bs.length):kZ (bs.map V.int) (some x) (some y)=((bs.drop a).take n).map V.int:=by
 rw[b,c];exact b5K h
open Bm Rn Wm
def c2L:Option Int->V
 |none=> .non
 |some b=> .int b
abbrev skF (s:S):List (Str×V):=[("last",c2L s.1),("alike",.int ((s.2:Nat):Int))]
def lL (C:Addr)(H:Hp)(a:Addr)(s:S):Prop:=∃dx,H a=some (.ins C dx (skF s))
def lL.same {n:S}(h:lL C H a n)(g:Same H H'):lL C H' a n:=by
 obtain⟨b,e⟩:=h
 exact⟨b,g _ _ e⟩
def lL.at_ {n:S}(h:lL C H a n)(g:H' a=H a):lL C H' a n:=by
 obtain⟨b,e⟩:=h
 exact⟨b,g.trans e⟩
def lL.ne {n:S}{xs:List V}(h:lL C H a n)(e:H p=some (.lst xs)):p≠a:=λz=>by
 obtain⟨b,q⟩:=h
 rw[z,q]at e;cases e
def lL.set {n:S}{xs ys:List V}(h:lL C H a n)(e:H p=some (.lst xs)):lL C (upd H p (.lst ys)) a n:=by
 obtain⟨b,q⟩:=h
 exact⟨b,by rw[aH (λz=>by rw[z,e]at q;cases q)];exact q⟩
def a8E (C:Addr):Sp:=λb H Q _=>∃a dx,b= [.ref a]/\H a=some (.ins C dx [])/\∀H',H'=upd H a (.ins C dx (skF (none,0)))->Q .non H'
def b2W (C:Addr):Sp:=λc H Q _=>∃a s b,c= [.ref a,.int b]/\lL C H a s/\∀H',lL C H' a (skp s b)->(∀x,x≠a->H' x=H x)->Q .non H'
def a8F (C:Addr):Sp:=λb H Q _=>∃a s,b= [.ref a]/\lL C H a s/\Q (.bl (decide (s.2=5))) H
def a8D (C:Addr):Sp:=λb H Q _=>∃a s,b= [.ref a]/\lL C H a s/\Q (.bl (decide (5<s.2))) H
def a6Z (n:Nat):decide ((n:Int)=5)=decide (n=5):=by
 by_cases h:n=5
 ·subst h;rfl
 ·rw[Yu h,Yu (by lia)]
def b5F (n:Nat):decide ((5:Int)<(n:Int))=decide (5<n):=by
 by_cases h:5<n
 ·rw[Yq h,Yq (by lia)]
 ·rw[Yu h,Yu (by lia)]
def b0W:Good []:=λk a=>by
 have:k=0:=Nat.le_zero.mp a
 subst this;decide
def b2X (K:W.Frag):Sp:=λb H Q _=>∃(a:Addr)(bs:List Int),b= [.ref a]/\SqL K H a (bs.map V.int)/\bs.length<=400/\∀p H',H p=none->Same H H'->H' p=some (.lst ((put bs).map V.int))->Q (.ref p) H'
def zH (h:i<bs.length):put (bs.take (i+1))=pst (put (bs.take i)) bs[i]:=by rw[Yg h,iB]
instance decCmp (bs:List Int):Decidable (lN bs):=by unfold lN;infer_instance
def ans (w:List Int):Str:=if 5<run w then "six" else if run w=5\/¬ lN (kp w) then "more" else if rst (kp w)=0 then "whole" else "bad"
def jC (h:5<run w):ans w="six":=if_pos h
def mQ (h:¬ 5<run w)(g:run w=5\/¬ lN (kp w)):ans w="more":=(if_neg h).trans (if_pos g)
def pX (h:¬ 5<run w)(g:¬ (run w=5\/¬ lN (kp w)))(r:rst (kp w)=0):ans w="whole":=(if_neg h).trans ((if_neg g).trans (if_pos r))
def xX (h:¬ 5<run w)(g:¬ (run w=5\/¬ lN (kp w)))(r:¬ rst (kp w)=0):ans w="bad":=(if_neg h).trans ((if_neg g).trans (if_neg r))
abbrev rdF (st ks:Addr)(t:Str):List (Str×V):=[("streak",.ref st),("kept",.ref ks),("answer",.str t)]
structure jN (C CK:Addr)(H:Hp)(r st ks:Addr)(w:List Int)(t:Str):Prop where
 rd:∃dx,H r=some (.ins C dx (rdF st ks t))
 sk:lL CK H st (sk w)
 kp:H ks=some (.lst ((kp w).map V.int))
def jN.same {st:Addr}{t:Str}(h:jN C CK H r st ks w t)(g:Same H H'):jN C CK H' r st ks w t:=⟨let ⟨dx,e⟩:=h.rd;⟨dx,g _ _ e⟩,h.sk.same g,g _ _ h.kp⟩
def jN.ne1 {st:Addr}{t:Str}(h:jN C CK H r st ks w t):r≠st:=λz=>by
 obtain⟨a,e⟩:=h.rd
 obtain⟨b,f⟩:=h.sk
 rw[z,f]at e
 cases e
def jN.ne2 {st:Addr}{t:Str}(h:jN C CK H r st ks w t):r≠ks:=λz=>by
 obtain⟨a,e⟩:=h.rd
 rw[z,h.kp]at e
 cases e
def jN.ne3 {st:Addr}{t:Str}(h:jN C CK H r st ks w t):ks≠st:=λz=>by
 obtain⟨a,f⟩:=h.sk
 rw[<-z,h.kp]at f
 cases f
def b5T (H H':Hp)(r st a:Addr):Prop:=∀x o,x≠r->x≠st->x≠a->H x=some o->H' x=some o
def a8M (C b:Addr):Sp:=λc H Q _=>∃a dx,c= [.ref a]/\H a=some (.ins C dx [])/\∀H' st ks,jN C b H' a st ks [] "more"->H st=none->H ks=none->(∀x o,x≠a->H x=some o->H' x=some o)->Q .non H'
def a1R (C a:Addr):Sp:=λb H Q _=>∃r st ks w t,b= [.ref r]/\jN C a H r st ks w t/\bF w/\w.length<=450/\∀H',Same H H'->Q (.str (ans w)) H'
def a8N (C a:Addr):Sp:=λc H Q _=>∃r st ks w t b,c= [.ref r,.int b]/\jN C a H r st ks w t/\bF (w++[b])/\w.length<450/\∀H',jN C a H' r st ks (w++[b]) (ans (w++[b]))->b5T H H' r st ks->Q (.str (ans (w++[b]))) H'
def a5R (C a:Addr):Sp:=λb H Q _=>∃r st ks w t,b= [.ref r]/\jN C a H r st ks w t/\∀p H',H p=none->Same H H'->H' p=some (.lst ((kp w).map V.int))->Q (.ref p) H'
def a5S (C a:Addr):Sp:=λb H Q _=>∃r st ks w,b= [.ref r]/\jN C a H r st ks w (ans w)/\bF w/\w.length<=450/\(ans w="whole"->(kp w).getD 0 0=0)/\
 (ans w="whole"->a2Z (kp w)->∀t p H',H p=none->Same H H'->H' p=some (.lst ((daB (kp w)).map V.int))->H' t=some (.tup [.int ((nmB (kp w):Nat):Int),.ref p])->Q (.ref t) H')/\(ans w≠"whole"->Q .non H)
def jM (h:ans w="whole"):lN (kp w)/\rst (kp w)=0:=by
 by_cases h1:5<run w
 ·rw[jC h1]at h;exact absurd h (by decide +kernel)
 by_cases h2:run w=5\/¬ lN (kp w)
 ·rw[mQ h1 h2]at h;exact absurd h (by decide +kernel)
 by_cases h3:rst (kp w)=0
 ·exact⟨YN λz=>h2 (.inr z),h3⟩
 ·rw[xX h1 h2 h3]at h;exact absurd h (by decide +kernel)
def byt (n:Int):Bool:=decide (0<=n) && decide (n<=255)
def gK {n:Int}:byt n=true↔0<=n/\n<=255:=by unfold byt;simp
def xR {n:Int}(h:byt n=true):∃m:Nat,n=m/\m<256:=by
 obtain⟨a,b⟩:=gK.mp h
 exact⟨n.toNat,by lia,by lia⟩
def c1K:Sp:=λa H Q _=>∃n,a= [.int n]/\Q (.bl (byt n)) H
def b3F (K:W.Frag):Sp:=λb H Q _=>∃(a:Addr)(ns:List Int),b= [.ref a]/\SqA K H a (ns.map V.int)/\ns.length<=500/\∀H',Same H H'->Q (.bl (ns.all byt)) H'
def qC (n:Int)(ds:List Int):Prop:=byt n=true/\ds.length<=7/\ds.all byt=true
def b7V (K:W.Frag)(C:Addr):Sp:=λb H Q E=>∃(n:Int)(a:Addr)(ds:List Int),b= [.int n,.ref a]/\SqL K H a (ds.map V.int)/\ds.length<=500/\(qC n ds->∀H',Same H H'->Q .non H')/\(¬ qC n ds->∀H',Same H H'->False)
def b8 (d:Int):List Int:=bO d.toNat 8
def hdD (n:Int)(k:Nat)(ds:List Int):List Int:=[0]++b8 n++bO k 3++(ds.map b8).flatten
def hd (n:Int)(ds:List Int):List Int:=hdD n ds.length ds
def fb (n:Int)(ds:List Int):List Int:=hd n ds++ck (hd n ds)
def lA (d:Int):(b8 d).length=8:=cF _ _
def pD (d:Int):bF (b8 d):=iU _ _
theorem a0N:∀ds:List Int,(ds.map b8).flatten.length=8*ds.length
 |[]=>rfl
 |d::r=>by rw[YK,Xv,Yc,a0N r,lA,Yo];lia
theorem vL:∀ds:List Int,bF (ds.map b8).flatten
 |[]=>λ_ z=>nomatch z
 |d::r=>by rw[YK,Xv];exact iG (pD d) (vL r)
def rA (n:Int)(k:Nat)(ds:List Int):(hdD n k ds).length=12+8*ds.length:=by
 unfold hdD
 rw[Yc,Yc,Yc,a0N,lA,cF,Yw]
def oW (n:Int)(k:Nat)(ds:List Int):bF (hdD n k ds):=by
 unfold hdD
 refine iG (iG (iG ?_ (pD n)) (iU _ _)) (vL ds)
 intro b a
 exact .inl (Ym.mp a)
def a0I (n:Int)(k:Nat)(ds:List Int)(d:Int):hdD n k (ds++[d])=hdD n k ds++b8 d:=by
 unfold hdD
 rw[Yn,List.flatten_append,<-Ys]
 simp
def a2M (n:Int)(ds:List Int):(hd n ds).length=12+8*ds.length:=rA n _ ds
def oU (n:Int)(ds:List Int):bF (hd n ds):=oW n _ ds
def a2W (bs:List Int):(ck bs).length=15:=cF _ _
def a5A (bs:List Int):bF (ck bs):=iU _ _
def kY (n:Int)(ds:List Int):(fb n ds).length=27+8*ds.length:=by unfold fb;rw[Yc,a2M,a2W];lia
def nD (n:Int)(ds:List Int):bF (fb n ds):=iG (oU n ds) (a5A _)
def b9S (n:Int)(ds:List Int)(h:ds.length<=40):rst (fb n ds)=0:=b7Z (oU n ds) (by rw[a2M];lia)
def b3A (K:W.Frag)(C:Addr):Sp:=λb H Q E=>∃(n:Int)(a:Addr)(ds:List Int),b= [.int n,.ref a]/\SqL K H a (ds.map V.int)/\ds.length<=500/\(qC n ds->∀p H',H p=none->Same H H'->H' p=some (.lst ((fb n ds).map V.int))->Q (.ref p) H')/\(¬ qC n ds->∀H',Same H H'->False)
def b0B {n:Int}(h:¬ byt n=true\/7<ds.length\/∃d∈ds,¬ byt d=true):¬ qC n ds:=λ⟨a,c,b⟩=>by
 rcases h with h | h | ⟨d,hd,h⟩
 ·exact h a
 ·lia
 ·exact h (Jn.mp b d hd)
def a0X (h:ds.all byt=true)(a:i<ds.length):byt ds[i]=true:=Jn.mp h _ (YE a)
def a4Q (a:n<256)(b:ds.length<=7):szB (fb (n:Int) ds)=ds.length:=by
 unfold szB fb hd hdD
 have e:(([0]++b8 (n:Int)++bO ds.length 3++(ds.map b8).flatten++ck ([0]++b8 (n:Int)++bO ds.length 3++(ds.map b8).flatten)).drop 9).take 3=bO ds.length 3:=by
  have c:([0]++b8 (n:Int)).length=9:=by rw[Yc,lA];rfl
  rw[Ys,Ys ([0]++b8 (n:Int)),XO (by lia),List.drop_of_length_le (by lia),List.nil_append,Y3 (by rw[cF];exact Yd _),Yi (by rw[cF];exact Yd _)]
 rw[e]
 exact iC (by show ds.length<2 ^ 3;lia)
def b5B (a:n<256):nmB (fb (n:Int) ds)=n:=by
 unfold nmB fb hd hdD
 have e:(([0]++b8 (n:Int)++bO ds.length 3++(ds.map b8).flatten++ck ([0]++b8 (n:Int)++bO ds.length 3++(ds.map b8).flatten)).drop 1).take 8=b8 (n:Int):=by
  rw[Ys,Ys,Ys [0]]
  show (b8 (n:Int)++_).take 8=_
  rw[Y3 (by rw[lA];exact Yd _),Yi (by rw[lA];exact Yd _)]
 rw[e]
 exact iC (by show n<2 ^ 8;lia)
theorem a0O:∀(ds:List Int)(k:Nat)(h:k<ds.length)(r:List Int),(((ds.map b8).flatten++r).drop (8*k)).take 8=b8 ds[k]
 | d::ds,0,_,r=>by
  rw[YK,Xv,Nat.mul_zero,List.drop_zero,Ys,Y3 (by rw[lA];exact Yd _),Yi (by rw[lA];exact Yd _)];rfl
 | d::ds,k+1,h,r=>by
  rw[YK,Xv,Ys]
  have e:8*(k+1)=(b8 d).length+8*k:=by rw[lA];lia
  rw[e,<-List.drop_drop,List.drop_left,a0O ds k (by simpa using h) r];rfl
def b5C (c:n<256)(d:ds.length<=7)(a:ds.all byt=true):daB (fb (n:Int) ds)=ds:=by
 unfold daB
 rw[a4Q c d]
 apply List.ext_getElem
 ·rw[Ya,YZ]
 ·intro k h b
  rw[List.getElem_map,List.getElem_range]
  unfold dtB fb hd hdD
  have f:([0]++b8 (n:Int)++bO ds.length 3).length=12:=by rw[Yc,Yc,lA,cF];rfl
  rw[Ys,<-List.drop_drop]
  have e:([0]++b8 (n:Int)++bO ds.length 3++((ds.map b8).flatten++ck ([0]++b8 (n:Int)++bO ds.length 3++(ds.map b8).flatten))).drop 12=(ds.map b8).flatten++ck ([0]++b8 (n:Int)++bO ds.length 3++(ds.map b8).flatten):=by
   rw[XO (by lia),List.drop_of_length_le (by lia),List.nil_append]
  rw[e,a0O ds k b]
  obtain⟨m,g,i⟩:=xR (a0X a b)
  rw[g]
  show ((nm (bO m 8):Nat):Int)=_
  rw[iC (by show m<2 ^ 8;lia)]
def b1C (a:n<256)(b:ds.length<=7):a2Z (fb (n:Int) ds):=by
 refine⟨⟨by rw[kY];lia,by rw[kY,a4Q a b]⟩,?_,b9S _ _ (by lia)⟩
 unfold fb hd hdD
 rfl
def pH {as:List Int}(a:bF as)(b:bF bs):bF (as++bs):=λz c=>(YO.mp c).elim (a z) (b z)
def wF {as:List Int}(a:bF as):bF (as.take n):=λz b=>a z (Y1 b)
def b0R (u:List Int):∀v:List Int,∃x,kp (u++v)=kp u++x:=by
 refine snoc_ind (P:=λv=>∃x,kp (u++v)=kp u++x) ⟨[],by rw[YD,YD]⟩ (λv b ih=>?_)
 obtain⟨x,e⟩:=ih
 rw[<-Ys,kp_snoc]
 split
 ·exact⟨x,e⟩
 ·exact⟨x++[b],by rw[e,Ys]⟩
def a5L {l x:List Int}(h:12<=l.length):szB (l++x)=szB l:=by
 unfold szB
 rw[XO (by lia),Y3 (by rw[Xp];lia)]
structure Wr (w:List Int)(bs:List Int):Prop where
 w:w=put bs
 bits:bF bs
 ok:a2Z bs
def Wr.take_run (h:Wr w bs)(a:j<=w.length):run (w.take j)<=5:=by
 have:=lF bs
 rw[<-h.w]at this
 exact this j a
def Wr.wbits (h:Wr w bs):bF w:=by rw[h.w];exact oH h.bits
def Wr.kp (h:Wr w bs):kp w=bs:=by rw[h.w];exact xF bs
def Wr.more (h:Wr w bs)(g:j<w.length):ans (w.take j)="more":=by
 have s:=h.take_run (XD g)
 refine mQ (by lia) (YN λz=>?_)
 have i:¬ run (w.take j)=5:=λy=>z (.inl y)
 have a:lN (Wm.kp (w.take j)):=YN λy=>z (.inr y)
 obtain⟨x,e⟩:=b0R (w.take j) (w.drop j)
 rw[Jl,h.kp]at e
 have m:lN (Wm.kp (w.take j)):=a
 have b:=a.1
 have o:=a.2
 have p:=a5L (l:=Wm.kp (w.take j)) (x:=x) b
 have d:=h.ok.1.2
 rw[e]at d
 have c:(Wm.kp (w.take j)++x).length=27+8*szB (Wm.kp (w.take j)++x):=d
 rw[p,Yc]at c
 have q:x= []:=XN (by lia)
 rw[q,YD]at e
 have good:Good (w.take j):=λk r=>by
  rw[List.take_take]
  exact h.take_run (by rw[Yj]at r;lia)
 have f:=wN (wF (n:=j) h.wbits) good
 rw[if_neg i,<-e,<-h.w]at f
 have:=YU List.length f
 rw[Yj]at this
 lia
def Wr.whole (h:Wr w bs):ans w="whole":=by
 have a:=oG bs
 rw[<-h.w]at a
 refine pX (by lia) (λz=>?_) ?_
 ·rcases z with z | z
  ·lia
  ·rw[h.kp]at z;exact z h.ok.1
 ·rw[h.kp];exact h.ok.2.2
def b4W (h:k<n):ixN n ((k:Nat):Int)=some k:=by
 unfold ixN
 rw[if_pos (by lia),if_pos (by lia),YR]
structure On (w:List Int):Prop where
 good:Good w
 le:12<=(kp w).length->(kp w).length<=27+8*szB (kp w)
 five:lN (kp w)->run w=5
def On.nil:On []:=⟨b0W,λz=>absurd z (by decide),λz=>absurd z.1 (by decide)⟩
def a7U {l:List Int}(h:12<=l.length):szB (l++[b])=szB l:=by
 unfold szB
 rw[XO (by lia),Y3 (by rw[Xp];lia)]
def On.le' (h:On w):12<=(kp (w++[b])).length->(kp (w++[b])).length<=27+8*szB (kp (w++[b])):=by
 rw[kp_snoc]
 by_cases c:run w=5
 ·rw[if_pos c];exact h.le
 ·rw [if_neg c]
  intro a
  rw[Yc,Yw]at a ⊢
  by_cases z:12<=(kp w).length
  ·rw[a7U z]
   have d:=h.le z
   have e:¬ (kp w).length=27+8*szB (kp w):=λy=>c (h.five ⟨z,y⟩)
   lia
  ·lia
def On.next (h:On w)(a:ans (w++[b])="more"):On (w++[b]):=by
 have c:¬ 5<run (w++[b]):=λz=>by
  rw[jC z]at a;exact absurd a (by decide +kernel)
 refine⟨h.good.snoc (by lia),h.le',λe=>YN λz=>?_⟩
 have d:¬ (run (w++[b])=5\/¬ lN (kp (w++[b]))):=λy=>y.elim z λx=>x e
 by_cases r:rst (kp (w++[b]))=0
 ·rw[pX c d r]at a;exact absurd a (by decide +kernel)
 ·rw[xX c d r]at a;exact absurd a (by decide +kernel)
def a7W (K:W.Frag)(C:Addr):Sp:=λb H Q E=>∃(n:Int)(a:Addr)(ds:List Int),b= [.int n,.ref a]/\SqL K H a (ds.map V.int)/\ds.length<=500/\(qC n ds->∀p H',H p=none->Same H H'->H' p=some (.lst ((put (fb n ds)).map V.int))->Q (.ref p) H')/\(¬ qC n ds->∀H',Same H H'->False)
def b2V (C:Addr):Sp:=λa H Q E=>∃v:Int,a= [.int v]/\((v=1\/v=3\/v=5)->Q .non H)/\(¬ (v=1\/v=3\/v=5)->False)
def uZ (v:Int):decide (v∈ [(1:Int),3,5])=true↔(v=1\/v=3\/v=5):=by
 rw[Jd]
 simp
structure TCl (K:W.Frag)(C:Addr):Prop where
 cls:Cls K C
 n1:bM K C "votes"
 n2:bM K C "spoke"
 n3:bM K C "over"
 n4:bM K C "noughts"
abbrev tlF (v:Nat)(s:Bool)(o n:Nat):List (Str×V):=[("votes",.int v),("spoke",.bl s),("over",.int o),("noughts",.int n)]
def qK (a b:Addr)(H:Hp)(t:Addr)(v:Nat)(s:Bool)(o n:Nat):Prop:=∃C dx,(C=a\/C=b)/\H t=some (.ins C dx (tlF v s o n))
def qK.same {s:Bool}{o:Nat}(h:qK C1 C2 H t v s o n)(g:Same H H'):qK C1 C2 H' t v s o n:=let ⟨C,dx,c,e⟩:=h;⟨C,dx,c,g _ _ e⟩
def fH (s:Bool)(o:Nat):Int:=if o=1/\s=false then 0 else 1
def dF (s:Bool)(o:Nat)(b:Int):Bool:=if o=1 then s && decide (b=1) else decide (b=0)
def tlN (o:Nat)(b:Int)(n:Nat):Nat:=if 9<=o/\b=0 then n+1 else n
def nO (v o n:Nat):Str:=if o<9+v then ("more":Str) else if v / 2<n then ("refused":Str) else ("taken":Str)
def bJ (v:Nat)(s:Bool)(o n:Nat)(b:Int):Str:=if 9<=o then nO v (o+1) (tlN o b n) else if dF s o b=true then ("fault":Str) else ("more":Str)
def b2F (H H':Hp)(t:Addr):Prop:=∀x o,x≠t->H x=some o->H' x=some o
def a8B (K:W.Frag)(a b:Addr):Sp:=λc H Q _=>∃(t C dx:Addr)(v:Nat)(s:Bool),c= [.ref t,.int v,.bl s]/\(C=a\/C=b)/\H t=some (.ins C dx [])/\Q .non (upd H t (.ins C dx (tlF v s 0 0)))
def yW (C:Addr)(s:Bool):Sp:=λa H Q _=>∃(t dx:Addr)(v:Nat),a= [.ref t,.int v]/\H t=some (.ins C dx [])/\∀H',H'=upd H t (.ins C dx (tlF v s 0 0))->Q .non H'
def a8A (a b:Addr):Sp:=λc H Q _=>∃t v s o n,c= [.ref t]/\qK a b H t v s o n/\Q (.int (fH s o)) H
def a5O (c d:Addr):Sp:=λe H Q _=>∃t v s o n,∃(a:Nat)(b:Int),e= [.ref t,.int (a:Int),.int b]/\qK c d H t v s o n/\Q (.bl (dF s a b)) H
def a5N (a c:Addr):Sp:=λd H Q _=>∃t v s o n,∃b:Int,d= [.ref t,.int b]/\qK a c H t v s o n/\∀H',qK a c H' t v s o (if b=0 then n+1 else n)->b2F H H' t->Q (.str (nO v o (if b=0 then n+1 else n))) H'
def a8C (a c:Addr):Sp:=λd H Q _=>∃t v s o n,∃b:Int,d= [.ref t,.int b]/\qK a c H t v s o n/\∀H',qK a c H' t v s (o+1) (tlN o b n)->b2F H H' t->Q (.str (bJ v s o n b)) H'
def lZ (a:TCl K C1)(b:TCl K C2)(h:C=C1\/C=C2):TCl K C:=h.elim (λz=>z▸a) (λz=>z▸b)
def uL {a:Addr}{m:Str}(b:Meth K C1 m a)(c:Meth K C2 m a)(h:C=C1\/C=C2):Meth K C m a:=h.elim (λz=>z▸b) (λz=>z▸c)
abbrev ctF (n:Int):List (Str×V):=[("total",.int n)]
def yC (C:Addr)(H:Hp)(a:Addr)(n:Int):Prop:=∃dx,H a=some (.ins C dx (ctF n))
def a8S (C:Addr):Sp:=λb H Q _=>∃a dx,b= [.ref a]/\H a=some (.ins C dx [])/\Q .non (upd H a (.ins C dx (ctF 0)))
def b6D (C:Addr)(b:Int):Sp:=λc H Q _=>∃a n,c= [.ref a]/\yC C H a n/\Q (.bl (decide (b<=n))) H
def mvd (n st:Int):Int:=if 18<=n then n else max 0 (n+st)
def a8R (C:Addr):Sp:=λc H Q _=>∃a n st,c= [.ref a,.int st]/\yC C H a n/\∀H',yC C H' a (mvd n st)->(∀b,b≠a->H' b=H b)->Q .non H'
def a5U (C:Addr):Sp:=λc H Q _=>∃a n b,c= [.ref a,.bl b]/\yC C H a n/\∀H',yC C H' a (mvd n (if b=true then 8 else 1))->(∀b,b≠a->H' b=H b)->Q .non H'
def yX (C:Addr)(st:Int):Sp:=λc H Q _=>∃a n,c= [.ref a]/\yC C H a n/\∀H',yC C H' a (mvd n st)->(∀b,b≠a->H' b=H b)->Q .non H'
abbrev Own:=Addr->Prop
variable {o:Own}{o':Own}{o1:Own}{ob:Own}{os:Own}
def isT (o:HO):Prop:=∃vs,o= .tup vs
def cV (o:Own)(H H':Hp):Prop:=∀x v,H x=some v->(¬ o x\/isT v)->H' x=some v
def Mv (o:Own)(H:Hp)(o':Own)(H':Hp):Prop:=cV o H H'/\∀x,o' x->o x\/H x=none
abbrev Or2 (a b:Own):Own:=λx=>a x\/b x
def cV.of (g:Same H H'):cV o H H':=λx v e _=>g x v e
def cV.refl:cV o H H:=λ_ _ e _=>e
def cV.tup {x:Addr}(k:cV o H H')(e:H x=some (.tup vs)):H' x=some (.tup vs):=k x _ e (.inr ⟨vs,rfl⟩)
def cV.le (k:cV o H H')(h:∀x,o x->o' x):cV o' H H':=λx v e z=>k x v e (z.elim (λy=> .inl λw=>y (h x w)) .inr)
def Mv.refl:Mv o H o H:=⟨cV.refl,λ_=> .inl⟩
def Mv.of (g:Same H H'):Mv o H o H':=⟨cV.of g,λ_=> .inl⟩
def Mv.trans {o2:Own}{H2:Hp}(a:Mv o H o1 H1)(b:Mv o1 H1 o2 H2):Mv o H o2 H2:=by
 refine⟨λx v e z=>b.1 x v (a.1 x v e z) ?_,λx d=>?_⟩
 ·rcases z with z | z
  ·exact .inl λw=>(a.2 x w).elim z λn=>by rw[n]at e;cases e
  ·exact .inr z
 ·rcases b.2 x d with h | h
  ·exact a.2 x h
  ·rcases Classical.em (o x) with c | c
   ·exact .inl c
   ·right
    cases e:H x with
    |none=>rfl
    |some v=>rw[a.1 x v e (.inl c)]at h;cases h
def Mv.out (a:Mv o H o1 H1){x:Addr}{v:HO}(e:H x=some v)(h:¬ o x):¬ o1 x:=λw=>(a.2 x w).elim h λn=>by rw[n]at e;cases e
structure Cs where
 (post count free speaks reads intail flag settles rests off reader streak rtail stail:Addr)
variable {A:Cs}
inductive Stc where
 |free (k:Nat) | speaks (n:Nat) (ds:List Int) (k:Nat) | reads (h:List Int) | tlS (v c:Nat) | tlR (n:Nat) (ds:List Int) (v c:Nat) | flag (l:Nat) (m:Bool) | settles (m:Bool) | rests (l:Nat) | off
abbrev Fr:=Nat×List Int
variable {g:Nat->List Fr}
structure PS where
 (m1 m2 vt:Nat) (wt up:List Fr) (tot:Int) (now:Stc)
variable {S:PS}{S':PS}{B:Nat->PS}{B0:Nat->PS}
abbrev wr (n:Nat)(ds:List Int):List Int:=put (fb (n:Int) ds)
def Stc.shown:Stc->Str×Nat
 |.free k=>("free",k)
 |.speaks _ _ k=>("speaks",k)
 |.reads h=>("reads",h.length)
 |.tlS v _=>("tail speaks",v)
 |.tlR _ _ v _=>("tail reads",v)
 |.flag l _=>("flag",l)
 |.settles _=>("settles",0)
 |.rests l=>("rests",l)
 |.off=>("off",0)
def bI (S:PS):Int:=match S.now with
 |.free k=>if S.wt= [] then 1 else if 12<=S.tot/\k<8 then 1 else 0
 |.speaks n ds k=>(wr n ds).getD k 0
 |.tlS v _=>fH true v
 |.tlR _ _ v _=>fH false v
 |.flag _ _=>0
 |_=>1
def dY (S:PS)(st:Int)(w:Str)(nx:Stc):Str×PS:=if 18<=mvd S.tot st then ("off",{ S with tot:=mvd S.tot st,now:= .off }) else (w,{ S with tot:=mvd S.tot st,now:=nx })
def bW (S:PS)(sp:Bool):Str×PS:=dY S (if sp=true then 8 else 1) "fault" (.flag 6 (!sp))
def dM (S:PS)(sp:Bool):Str×PS:=dY S (if sp=true then 8 else 1) "refuses" (.settles false)
def gU (S:PS):Str×PS:=dY S 8 "" (.settles false)
def gC (S:PS)(n:Nat):Bool:=decide (Builtin.bitAnd (n:Int) ((S.m1:Nat):Int)=((S.m2:Nat):Int))
def aW (S:PS)(b:Int):Str×PS:=match S.now with
 |.free k=>if bI S=0 then (if b=0 then ("begins",{ S with now:= .speaks (S.wt.headD (0, [])).1 (S.wt.headD (0, [])).2 1 }) else bW S true) else if b=0 then ("",{ S with now:= .reads [0] }) else ("",{ S with now:= .free (k+1) })
 |.speaks n ds k=>if ans ((wr n ds).take k++[b])="six" then bW S true else if (wr n ds).getD k 0=1/\b=0/\(kp ((wr n ds).take k)).length<9 then ("loses",{ S with now:= .reads ((wr n ds).take k++[b]) }) else if b=(wr n ds).getD k 0 then (if k+1=(wr n ds).length then ("",{ S with now:= .tlS 0 0 }) else ("",{ S with now:= .speaks n ds (k+1) })) else bW S true
 |.reads h=>if ans (h++[b])="more" then ("",{ S with now:= .reads (h++[b]) }) else if ans (h++[b])="whole" then ("",{ S with now:= .tlR (nmB (kp (h++[b]))) (daB (kp (h++[b]))) 0 0 }) else bW S false
 |.tlS v c=>if bJ S.vt true v c b="more" then ("",{ S with now:= .tlS (v+1) (tlN v b c) }) else if bJ S.vt true v c b="fault" then bW S true else if bJ S.vt true v c b="refused" then dM S true else ("done",{ S with tot:=mvd S.tot (-1),wt:=S.wt.tail,now:= .rests 3 })
 |.tlR n ds v c=>if bJ S.vt false v c b="more" then ("",{ S with now:= .tlR n ds (v+1) (tlN v b c) }) else if bJ S.vt false v c b="fault" then bW S false else if bJ S.vt false v c b="refused" then dM S false else ("takes",{ S with tot:=mvd S.tot (-1),up:=if gC S n=true then S.up++[(n,ds)] else S.up,now:= .rests 3 })
 |.flag l m=>if l=1 then ("",{ S with now:= .settles m }) else ("",{ S with now:= .flag (l-1) m })
 |.settles m=>if b=1 then ("",{ S with now:= .rests 3 }) else if m=true then gU S else ("",S)
 |.rests l=>if b=0 then bW S false else ("",{ S with now:=if l=1 then .free 0 else .rests (l-1) })
 |.off=>("",S)
def FrN (f:Fr):Prop:=f.1<256/\f.2.length<=7/\f.2.all byt=true
def FrN.ok {f:Fr}(h:FrN f):qC (f.1:Int) f.2:=⟨gK.mpr ⟨by lia,by have:=h.1;lia⟩,h.2.1,h.2.2⟩
def Stc.Wf (wt:List Fr):Stc->Prop
 |.speaks n ds k=>FrN (n,ds)/\1<=k/\k<(wr n ds).length/\wt≠ []
 |.reads h=>bF h/\On h/\h.head? =some 0
 |.tlS _ _=>wt≠ []
 |.flag l _=>1<=l
 |.rests l=>1<=l
 |_=>True
structure Wf (S:PS):Prop where
 vt:S.vt<=5
 wt:∀f∈S.wt,FrN f
 now:S.now.Wf S.wt
def nm3 {l:List Int}(a:bF l):szB l<=7:=by
 unfold szB
 have h:=nJ (mO a 9 3)
 have b:((l.drop 9).take 3).length<=3:=by rw[Yj];lia
 have c:=Yz (n:=2) (by decide) b
 have:(2:Nat) ^ 3=8:=rfl
 lia
def b9A (a:bF h)(b:On h):h.length<=170:=by
 have e:=wN a b.good
 have l:=(kJ (kp h)).2
 have s:=nm3 (xG a)
 have d:(kp h).length<=83:=by
  by_cases c:12<=(kp h).length
  ·have:=b.le c;lia
  ·lia
 have:h.length<=(put (kp h)).length:=by
  rw[e]
  split
  ·rw[Yc];lia
  ·exact Yd _
 lia
def lD (h:FrN (n,ds)):Wr (wr n ds) (fb (n:Int) ds):=⟨rfl,nD _ _,b1C h.1 h.2.1⟩
def jH (h:FrN (n,ds)):27<=(wr n ds).length/\(wr n ds).length<=166:=by
 have a:=kY (n:Int) ds
 have b:=kJ (fb (n:Int) ds)
 have c:=h.2.1
 have d:ds.length<=7:=c
 show 27<=(put (fb (n:Int) ds)).length/\(put (fb (n:Int) ds)).length<=166
 lia
def a3G (n:Nat)(ds:List Int):(wr n ds).head? =some 0:=by
 show (put (fb (n:Int) ds)).head? =some 0
 rw[a9E]
 unfold fb hd hdD
 rfl
def pJ:(wr n ds).take 1= [0]:=by
 have:=a3G n ds
 generalize wr n ds=w at this
 cases w with
 |nil=>cases this
 |cons a b=>exact YU (λy=>[y]) (Yp this)
theorem b5X (h:FrN (n,ds)):∀k,k<(wr n ds).length->On ((wr n ds).take k)
 |0,_=>On.nil
 | k+1,hk=>by
  have ih:=b5X h k (by lia)
  have e:(wr n ds).take (k+1)=(wr n ds).take k++[(wr n ds)[k]]:=Yg (by lia)
  have m:=(lD h).more hk
  rw[e]at m ⊢
  exact ih.next m
def a6K (a:¬ ans (w++[b])="six")(e:(kp w).length<9):ans (w++[b])="more":=by
 have d:¬ 5<run (w++[b]):=λz=>a (jC z)
 refine mQ d (.inr λc=>?_)
 have:=c.1
 rw[kp_snoc]at this
 split at this
 ·lia
 ·rw[Yc,Yw]at this;lia
def sZ {st:Int}{w:Str}{nx:Stc}(h:Wf S)(a:nx.Wf S.wt):Wf (dY S st w nx).2:=by
 unfold dY
 split
 ·exact⟨h.vt,h.wt,trivial⟩
 ·exact⟨h.vt,h.wt,a⟩
def Wf.hear (h:Wf S)(hb:b=0\/b=1):Wf (aW S b).2:=by
 have d:∀g,Wf (bW S g).2:=λg=>sZ h (by show 1<=6;decide)
 have t:∀g,Wf (dM S g).2:=λg=>sZ h trivial
 have a:=h.now
 unfold aW
 cases e:S.now with
 | free k =>
  dsimp only
  split
  ·rename_i c
   split
   ·refine⟨h.vt,h.wt,?_⟩
    have A:S.wt≠ []:=λz=>by
     unfold bI at c
     rw[e]at c
     dsimp only at c
     rw[if_pos z]at c
     cases c
    cases ew:S.wt with
    |nil=>exact absurd ew A
    | cons f r=>
     have i:=h.wt f (by rw[ew];exact YC)
     have:=jH (n:=f.1) (ds:=f.2) i
     exact⟨i,Yd _,by show 1<(wr f.1 f.2).length;lia,by intro z;cases z⟩
   ·exact d true
  ·split
   ·refine⟨h.vt,h.wt,⟨λz j=> .inl (Ym.mp j),?_,rfl⟩⟩
    exact On.nil.next (b:=0) (by decide +kernel)
   ·exact⟨h.vt,h.wt,trivial⟩
 | speaks n ds k=>
  rw[e]at a
  obtain⟨o,q,p,u⟩:=a
  dsimp only
  split
  ·exact d true
  rename_i c6
  split
  ·rename_i c
   have B:=b5X o k p
   refine⟨h.vt,h.wt,⟨?_,B.next (a6K c6 c.2.2),?_⟩⟩
   ·exact pH (wF (lD o).wbits) (λz j=>by rw[Ym.mp j];exact hb)
   ·have s:=a3G n ds
    generalize wr n ds=w at s p
    cases w with
    |nil=>cases s
    | cons x y=>
     cases k with
     |zero=>cases q
     |succ k=>exact s
  split
  ·split
   ·exact⟨h.vt,h.wt,u⟩
   ·exact⟨h.vt,h.wt,⟨o,by lia,by lia,u⟩⟩
  ·exact d true
 | reads r=>
  rw[e]at a
  obtain⟨o,q,p⟩:=a
  dsimp only
  split
  ·rename_i c
   refine⟨h.vt,h.wt,⟨pH o (λz j=>by rw[Ym.mp j];exact hb),q.next c,?_⟩⟩
   rw[Xh,p];rfl
  split
  ·exact⟨h.vt,h.wt,trivial⟩
  ·exact d false
 | tlS v c=>
  rw[e]at a
  dsimp only
  split
  ·exact⟨h.vt,h.wt,a⟩
  split
  ·exact d true
  split
  ·exact t true
  ·exact⟨h.vt,λf d=>h.wt f (List.mem_of_mem_tail d),by show 1<=3;decide⟩
 | tlR n ds v c=>
  dsimp only
  split
  ·exact⟨h.vt,h.wt,trivial⟩
  split
  ·exact d false
  split
  ·exact t false
  ·exact⟨h.vt,h.wt,by show 1<=3;decide⟩
 | flag l m=>
  rw[e]at a
  have C:1<=l:=a
  dsimp only
  split
  ·exact⟨h.vt,h.wt,trivial⟩
  ·exact⟨h.vt,h.wt,by show 1<=l-1;lia⟩
 | settles m=>
  dsimp only
  split
  ·exact⟨h.vt,h.wt,by show 1<=3;decide⟩
  split
  ·exact sZ h trivial
  ·exact h
 | rests l=>
  rw[e]at a
  have C:1<=l:=a
  dsimp only
  split
  ·exact d false
  ·refine⟨h.vt,h.wt,?_⟩
   show Stc.Wf S.wt (if l=1 then .free 0 else .rests (l-1))
   split
   ·trivial
   ·show 1<=l-1;lia
 |off=>exact h
def a7F (H:Hp)(o:Own)(t:Addr)(f:Fr):Prop:=∃d,H t=some (.tup [.int ((f.1:Nat):Int),.ref d])/\H d=some (.lst (f.2.map V.int))/\o d
inductive dC (H:Hp)(o:Own):List V->List Fr->Prop
 |nil:dC H o [] []
 |cons {t:Addr} {f:Fr} {ts:List V} {fs:List Fr}:a7F H o t f->dC H o ts fs->dC H o (.ref t::ts) (f::fs)
theorem dC.len:∀{ts:List V}{fs:List Fr},dC H o ts fs->ts.length=fs.length
 |_,_,.nil=>rfl
 |_,_,.cons _ r=>YU (·+1) r.len
theorem dC.snoc {f:Fr}:∀{ts:List V}{fs:List Fr},dC H o ts fs->a7F H o t f->dC H o (ts++[.ref t]) (fs++[f])
 |_,_,.nil,h=> .cons h .nil
 |_,_,.cons a r,h=> .cons a (r.snoc h)
def a7F.imp {f:Fr}(h:a7F H o t f)(g:∀x v,H x=some v->(o x\/isT v)->H' x=some v)(w:∀x,o x->o' x):a7F H' o' t f:=by
 obtain⟨d,b,c,a⟩:=h
 exact⟨d,g _ _ b (.inr ⟨_,rfl⟩),g _ _ c (.inl a),w d a⟩
theorem dC.imp (g:∀x v,H x=some v->(o x\/isT v)->H' x=some v)(w:∀x,o x->o' x):∀{ts:List V}{fs:List Fr},dC H o ts fs->dC H' o' ts fs
 |_,_,.nil=> .nil
 |_,_,.cons a r=> .cons (a.imp g w) (r.imp g w)
theorem dC.get:∀{ts:List V}{fs:List Fr},dC H o ts fs->∀{i:Nat}{v:V},ts[i]? =some v->∃t f,v= .ref t/\fs[i]? =some f/\a7F H o t f
 |_,_,.cons a _,0,_,rfl=>⟨_,_,rfl,rfl,a⟩
 |_,_,.cons _ r,i+1,_,h=>r.get (i:=i) h
abbrev pF (ch:Addr)(vt:Nat)(wl ul ct nw:Addr):List (Str×V):=[("choice",.ref ch),("votes",.int vt),("waiting",.ref wl),("handed_up",.ref ul),("tally",.ref ct),("now",.ref nw)]
abbrev Dl (o:Own)(wl ul:Addr):Own:=λx=>o x/\x≠wl/\x≠ul
structure BAt (A:Cs)(H:Hp)(p nwf:Addr)(S:PS)(o:Own)(dx ch wl ul ct:Addr)(ws us:List V):Prop where
 e:H p=some (.ins A.post dx (pF ch S.vt wl ul ct nwf))
 ec:H ch=some (.tup [.int S.m1,.int S.m2])
 ew:H wl=some (.lst ws)
 fw:dC H (Dl o wl ul) ws S.wt
 eu:H ul=some (.lst us)
 fu:dC H (Dl o wl ul) us S.up
 et:yC A.count H ct S.tot
 op:o p
 ow:o wl
 ou:o ul
 ot:o ct
 ne:wl≠ul
 al:∀x,o x->H x≠none
def Bd (A:Cs)(H:Hp)(p a:Addr)(S:PS)(o:Own):Prop:=∃dx ch wl ul ct ws us,BAt A H p a S o dx ch wl ul ct ws us
def BAt.move {ch ct:Addr}(h:BAt A H p nwf S o dx ch wl ul ct ws us)(g:∀x v,H x=some v->(o x\/isT v)->H' x=some v):BAt A H' p nwf S o dx ch wl ul ct ws us:=
 ⟨g _ _ h.e (.inl h.op),g _ _ h.ec (.inr ⟨_,rfl⟩),g _ _ h.ew (.inl h.ow),h.fw.imp (λx v e z=>g x v e (z.imp_left And.left)) λ_ z=>z,g _ _ h.eu (.inl h.ou),h.fu.imp (λx v e z=>g x v e (z.imp_left And.left)) λ_ z=>z,
  let ⟨d,e⟩:=h.et;⟨d,g _ _ e (.inl h.ot)⟩,h.op,h.ow,h.ou,h.ot,h.ne,λx a=>by
   have:=h.al x a
   cases e:H x with
   |none=>exact absurd e this
   |some v=>rw[g x v e (.inl a)];simp⟩
def Bd.move (h:Bd A H p nwf S o)(g:∀x v,H x=some v->(o x\/isT v)->H' x=some v):Bd A H' p nwf S o:=
 let ⟨dx,ch,wl,ul,ct,ws,us,b⟩:=h;⟨dx,ch,wl,ul,ct,ws,us,b.move g⟩
def Bd.al (h:Bd A H p nwf S o):∀x,o x->H x≠none:=let ⟨_,_,_,_,_,_,_,b⟩:=h;b.al
def Bd.op (h:Bd A H p nwf S o):o p:=let ⟨_,_,_,_,_,_,_,b⟩:=h;b.op
def Bd.now (h:Bd A H p nwf S o)(a:S'.m1=S.m1)(c:S'.m2=S.m2)(d:S'.vt=S.vt)(f:S'.wt=S.wt)(g:S'.up=S.up)(i:S'.tot=S.tot):Bd A H p nwf S' o:=by
 obtain⟨j,k,l,m,n,q,r,b⟩:=h
 exact⟨j,k,l,m,n,q,r,by rw[d];exact b.e,by rw[a,c];exact b.ec,b.ew,by rw[f];exact b.fw,b.eu,by rw[g];exact b.fu,by rw[i];exact b.et,b.op,b.ow,b.ou,b.ot,b.ne,b.al⟩
def c0O (A:Cs)(H:Hp)(nw:Addr)(vt:Nat)(o:Own):Stc->Prop
 |.free k=>∃dx,H nw=some (.ins A.free dx [("since",.int ((k:Nat):Int))])
 |.speaks n ds k=>∃dx wa r st ks t,H nw=some (.ins A.speaks dx [("wire",.ref wa),("reader",.ref r),("many",.int ((k:Nat):Int))])/\H wa=some (.lst ((wr n ds).map V.int))/\jN A.reader A.streak H r st ks ((wr n ds).take k) t/\wa≠ks/\o wa/\o r/\o st/\o ks
 |.reads h=>∃dx r st ks t,H nw=some (.ins A.reads dx [("reader",.ref r),("many",.int ((h.length:Nat):Int))])/\jN A.reader A.streak H r st ks h t/\o r/\o st/\o ks
 |.tlS v c=>∃dx tl,H nw=some (.ins A.intail dx [("tail",.ref tl),("found",.non)])/\qK A.rtail A.stail H tl vt true v c/\o tl
 |.tlR n ds v c=>∃dx tl t d,H nw=some (.ins A.intail dx [("tail",.ref tl),("found",.ref t)])/\qK A.rtail A.stail H tl vt false v c/\H t=some (.tup [.int ((n:Nat):Int),.ref d])/\H d=some (.lst (ds.map V.int))/\o tl/\o d
 |.flag l m=>∃dx,H nw=some (.ins A.flag dx [("left",.int ((l:Nat):Int)),("may_blame",.bl m)])
 |.settles m=>∃dx,H nw=some (.ins A.settles dx [("may_blame",.bl m)])
 |.rests l=>∃dx,H nw=some (.ins A.rests dx [("left",.int ((l:Nat):Int))])
 |.off=>∃dx,H nw=some (.ins A.off dx [])
structure StW (A:Cs)(H:Hp)(nw:Addr)(S:PS)(o:Own):Prop where
 at_:c0O A H nw S.vt o S.now
 on:o nw
 al:∀x,o x->H x≠none
def a3R {st:Addr}{t:Str}(h:jN C CK H r st ks w t)(a:∀v,H r=some v->H' r=some v)(b:∀v,H st=some v->H' st=some v)(c:∀v,H ks=some v->H' ks=some v):jN C CK H' r st ks w t:=
 ⟨let ⟨d,e⟩:=h.rd;⟨d,a _ e⟩,let ⟨d,e⟩:=h.sk;⟨d,b _ e⟩,c _ h.kp⟩
def StW.move (h:StW A H nw S o)(g:∀x v,H x=some v->(o x\/isT v)->H' x=some v):StW A H' nw S o:=by
 obtain⟨a,J,al⟩:=h
 have i:∀v,H nw=some v->H' nw=some v:=λv e=>g _ _ e (.inl J)
 refine⟨?_,J,λx K=>?_⟩
 ·revert a
  generalize S.now=s
  cases s with
  |free k=>intro b;obtain⟨f,e⟩:=b;exact⟨f,i _ e⟩
  |speaks n ds k=>intro b;obtain⟨f,L,r,D,E,t,e,q,u,F,j,p,y,B⟩:=b;exact⟨f,L,r,D,E,t,i _ e,g _ _ q (.inl j),a3R u (λv z=>g _ _ z (.inl p)) (λv z=>g _ _ z (.inl y)) (λv z=>g _ _ z (.inl B)),F,j,p,y,B⟩
  |reads w=>intro b;obtain⟨f,r,D,E,t,e,u,p,y,B⟩:=b;exact⟨f,r,D,E,t,i _ e,a3R u (λv z=>g _ _ z (.inl p)) (λv z=>g _ _ z (.inl y)) (λv z=>g _ _ z (.inl B)),p,y,B⟩
  |tlS v c=>intro b;obtain⟨f,G,e,⟨C,d,I,q⟩,j⟩:=b;exact⟨f,G,i _ e,⟨C,d,I,g _ _ q (.inl j)⟩,j⟩
  |tlR n ds v c=>intro b;obtain⟨f,G,t,d,e,⟨C,M,I,q⟩,u,F,j,p⟩:=b;exact⟨f,G,t,d,i _ e,⟨C,M,I,g _ _ q (.inl j)⟩,g _ _ u (.inr ⟨_,rfl⟩),g _ _ F (.inl p),j,p⟩
  |flag l m=>intro b;obtain⟨f,e⟩:=b;exact⟨f,i _ e⟩
  |settles m=>intro b;obtain⟨f,e⟩:=b;exact⟨f,i _ e⟩
  |rests l=>intro b;obtain⟨f,e⟩:=b;exact⟨f,i _ e⟩
  |off=>intro b;obtain⟨f,e⟩:=b;exact⟨f,i _ e⟩
 ·have:=al x K
  cases e:H x with
  |none=>exact absurd e this
  |some v=>rw[g x v e (.inl K)];simp
def bZ (A:Cs)(H:Hp)(p:Addr)(S:PS)(o:Own):Prop:=∃nw ob os,Bd A H p nw S ob/\StW A H nw S os/\(∀x,ob x->os x->False)/\Wf S/\(∀x,ob x\/os x->o x)/\∀x,o x->H x≠none
def bZ.move (h:bZ A H p S o)(g:∀x v,H x=some v->(o x\/isT v)->H' x=some v):bZ A H' p S o:=by
 obtain⟨c,f,j,b,s,d,w,i,al⟩:=h
 refine⟨c,f,j,b.move λx v e z=>g x v e (z.imp_left λy=>i x (.inl y)),s.move λx v e z=>g x v e (z.imp_left λy=>i x (.inr y)),d,w,i,λx a=>?_⟩
 have:=al x a
 cases e:H x with
 |none=>exact absurd e this
 |some v=>rw[g x v e (.inl a)];simp
def bZ.same (h:bZ A H p S o)(g:Same H H'):bZ A H' p S o:=h.move λx v e _=>g x v e
def bZ.wf (h:bZ A H p S o):Wf S:=let ⟨_,_,_,_,_,_,w,_,_⟩:=h;w
def bZ.al (h:bZ A H p S o):∀x,o x->H x≠none:=let ⟨_,_,_,_,_,_,_,_,a⟩:=h;a
def at0 {v:V}:atI (v::vs) (0:Int)=some v:=eV (j:=0) rfl
def sq0 {v:V}:seqIndex? (0:Int) (v::vs).length=some 0:=by
 unfold seqIndex?
 rw[Yo]
 simp
def lO (H:Hp)(a:Addr)(x y:HO):upd (upd H a x) a y=upd H a y:=by
 funext z
 by_cases h:z=a
 ·rw[h,aB,aB]
 ·rw[aH h,aH h,aH h]
def a1V (C:Addr)(f:Str):Sp:=λb H Q _=>∃a dx v,b= [.ref a,v]/\H a=some (.ins C dx [])/\∀H',H'=upd H a (.ins C dx [(f,v)])->Q .non H'
def a1U (C:Addr)(f g:Str):Sp:=λb H Q _=>∃a dx v w,b= [.ref a,v,w]/\H a=some (.ins C dx [])/\∀H',H'=upd H a (.ins C dx [(f,v),(g,w)])->Q .non H'
def b7R (C:Addr)(f g h:Str):Sp:=λb H Q _=>∃a dx v w z,b= [.ref a,v,w,z]/\H a=some (.ins C dx [])/\∀H',H'=upd H a (.ins C dx [(f,v),(g,w),(h,z)])->Q .non H'
def b3H (A:Cs):Sp:=λa H Q _=>a= []/\∀r st ks H' t,jN A.reader A.streak H' r st ks [0] t->Same H H'->H r=none->H st=none->H ks=none->Q (.ref r) H'
def b6E (A:Cs)(a:Int):Sp:=λb H Q _=>∃p nwf S o,b= [.ref p]/\Bd A H p nwf S o/\Q (.bl (decide (a<=S.tot))) H
def c1H (A:Cs):Sp:=λa H Q _=>∃p nwf S o,a= [.ref p]/\Bd A H p nwf S o/\Q (.bl (decide (0<(S.wt.length:Int)))) H
def a1W (A:Cs):Sp:=λa H Q _=>∃p nwf S o f r,a= [.ref p]/\Bd A H p nwf S o/\S.wt=f::r/\FrN f/\∀pw H',H pw=none->Same H H'->H' pw=some (.lst ((wr f.1 f.2).map V.int))->Q (.ref pw) H'
def b7T (A:Cs):Sp:=λa H Q _=>∃p nwf S o,a= [.ref p]/\Bd A H p nwf S o/\S.wt≠ []/\∀H',Bd A H' p nwf { S with wt:=S.wt.tail } o->cV o H H'->Q .non H'
def a8Q (A:Cs):Sp:=λa H Q _=>∃p nwf S o t d n ds,a= [.ref p,.ref t]/\Bd A H p nwf S o/\H t=some (.tup [.int ((n:Nat):Int),.ref d])/\H d=some (.lst (ds.map V.int))/\¬ o d/\S.up.length<900/\
 ∀H',Bd A H' p nwf { S with up:=if gC S n=true then S.up++[(n,ds)] else S.up } (Or2 o λx=>x=d)->cV o H H'->Q .non H'
def b7S (K:W.Frag)(A:Cs)(C:Addr):Sp:=λb H Q E=>∃p nwf S o n a ds,b= [.ref p,.int n,.ref a]/\Bd A H p nwf S o/\SqL K H a (ds.map V.int)/\ds.length<=500/\S.wt.length<900/\
 (qC n ds->∀H' d,H d=none->Bd A H' p nwf { S with wt:=S.wt++[(n.toNat,ds)] } (Or2 o λx=>x=d)->cV o H H'->Q .non H')/\(¬ qC n ds->∀H',Same H H'->False)
inductive fK (H H':Hp):List V->List Fr->Prop
 |nil:fK H H' [] []
 |cons {t d:Addr} {f:Fr} {ts:List V} {fs:List Fr}:H t=none->H d=none->H' t=some (.tup [.int ((f.1:Nat):Int),.ref d])->H' d=some (.lst (f.2.map V.int))->fK H H' ts fs->fK H H' (.ref t::ts) (f::fs)
theorem fK.snoc {d:Addr}{f:Fr}(h1:H t=none)(h2:H d=none)(e1:H' t=some (.tup [.int ((f.1:Nat):Int),.ref d]))(e2:H' d=some (.lst (f.2.map V.int))):∀{ts:List V}{fs:List Fr},fK H H' ts fs->fK H H' (ts++[.ref t]) (fs++[f])
 |_,_,.nil=> .cons h1 h2 e1 e2 .nil
 |_,_,.cons a1 a2 a3 a4 r=> .cons a1 a2 a3 a4 (r.snoc h1 h2 e1 e2)
theorem fK.same {H2:Hp}(g:Same H' H2):∀{ts:List V}{fs:List Fr},fK H H' ts fs->fK H H2 ts fs
 |_,_,.nil=> .nil
 |_,_,.cons a1 a2 a3 a4 r=> .cons a1 a2 (g _ _ a3) (g _ _ a4) (r.same g)
theorem fK.len:∀{ts:List V}{fs:List Fr},fK H H' ts fs->ts.length=fs.length
 |_,_,.nil=>rfl
 |_,_,.cons _ _ _ _ r=>YU (·+1) r.len
def a8T (K:W.Frag):Sp:=λb H Q _=>∃(a:Addr)(ts:List V)(fs:List Fr)(o:Own),b= [.ref a]/\H a=some (.lst ts)/\dC H o ts fs/\fs.length<=900/\∀l xs H',H l=none->Same H H'->H' l=some (.lst xs)->fK H H' xs fs->Q (.ref l) H'
def b2U (A:Cs):Sp:=λa H Q _=>∃p nwf S o,a= [.ref p]/\Bd A H p nwf S o/\S.wt.length<=900/\∀l xs H',H l=none->Same H H'->H' l=some (.lst xs)->fK H H' xs S.wt->Q (.ref l) H'
def c1I (A:Cs):Sp:=λa H Q _=>∃p nwf S o,a= [.ref p]/\Bd A H p nwf S o/\S.up.length<=900/\∀l xs H',H l=none->Same H H'->H' l=some (.lst xs)->fK H H' xs S.up->Q (.ref l) H'
def a7Y (A:Cs):Sp:=λa H Q _=>∃p nwf S o w nx,a= [.ref p,.str w,.ref nx]/\Bd A H p nwf S o/\(¬ 18<=S.tot->∀t H',Same H H'->H' t=some (.tup [.str w,.ref nx])->Q (.ref t) H')/\
 (18<=S.tot->∀t nw dx H',Same H H'->H nw=none->H' nw=some (.ins A.off dx [])->H' t=some (.tup [.str "off",.ref nw])->Q (.ref t) H')
def Aft (A:Cs)(H:Hp)(p a:Addr)(o:Own)(r:Str×PS)(t:Addr)(H':Hp):Prop:=∃nw' os',H' t=some (.tup [.str r.1,.ref nw'])/\Bd A H' p a r.2 o/\StW A H' nw' r.2 os'/\(∀x,os' x->H x=none)/\cV o H H'
def Stp (A:Cs)(H:Hp)(p a:Addr)(b c:Own)(r:Str×PS)(t:Addr)(H':Hp):Prop:=∃nw' ob' os',H' t=some (.tup [.str r.1,.ref nw'])/\Bd A H' p a r.2 ob'/\StW A H' nw' r.2 os'/\(∀x,ob' x->os' x->False)/\Mv (Or2 b c) H (Or2 ob' os') H'
def b3B (A:Cs):Sp:=λa H Q _=>∃p nwf S o sp,a= [.ref p,.bl sp]/\Bd A H p nwf S o/\∀t H',Aft A H p nwf o (bW S sp) t H'->Q (.ref t) H'
def a5Q (A:Cs):Sp:=λa H Q _=>∃p nwf S o sp,a= [.ref p,.bl sp]/\Bd A H p nwf S o/\∀t H',Aft A H p nwf o (dM S sp) t H'->Q (.ref t) H'
def b3G (A:Cs):Sp:=λa H Q _=>∃p nwf S o,a= [.ref p]/\Bd A H p nwf S o/\∀t H',Aft A H p nwf o (gU S) t H'->Q (.ref t) H'
def oN {o o':Own}{x:Addr}(k:cV o H H')(n:H' x=none):o x\/H x=none:=by
 rcases Classical.em (o x) with c | c
 ·exact .inl c
 ·right
  cases e:H x with
  |none=>rfl
  |some v=>rw[k x v e (.inl c)]at n;cases n
def Aft.stp {r:Str×PS}(h:Aft A H p nwf ob r t H')(k:cV (Or2 ob os) H0 H)(b:Bd A H p nwf S ob):Stp A H0 p nwf ob os r t H':=by
 obtain⟨a,c,e,bd,d,fr,kp⟩:=h
 refine⟨a,ob,c,e,bd,d,λx hx f=>b.al x hx (fr x f),λx v ex z=>?_,λx hx=>?_⟩
 ·exact kp x v (k x v ex z) (z.imp_left λy w=>y (.inl w))
 ·rcases hx with hx | hx
  ·exact .inl (.inl hx)
  ·exact oN (o':=ob) k (fr x hx)
def Bd.count {ct:Addr}{ch:Addr}{n:Int}(b:BAt A H p nwf S o dx ch wl ul ct ws us)(c:yC A.count H' ct n)(k:∀x,x≠ct->H' x=H x):Bd A H' p nwf { S with tot:=n } o/\cV o H H':=by
 have ne:∀{x:Addr}{v:HO},H x=some v->(∀C d,v≠ .ins C d (ctF S.tot))->x≠ct:=λ{x v} e h z=>by
  obtain⟨d,q⟩:=b.et
  rw[z,q]at e
  exact h _ _ (Yp e).symm
 have f:cV o H H':=λx v e z=>by
  rw[k x]
  ·exact e
  ·rintro rfl
   rcases z with z | ⟨t,rfl⟩
   ·exact z b.ot
   ·obtain⟨d,q⟩:=b.et
    rw[q]at e;cases e
 have g:∀{x:Addr}{l:List V},H x=some (.lst l)->H' x=some (.lst l):=λ{x l} e=>by rw[k x (ne e λC d z=>nomatch z)];exact e
 have fk:∀{i:List V}{fs:List Fr},dC H (Dl o wl ul) i fs->dC H' (Dl o wl ul) i fs:=λ{i fs} h=>by
  induction h with
  |nil=>exact .nil
  | cons a _ ih=>
   obtain⟨d,j,m,r⟩:=a
   exact .cons ⟨d,f.tup j,g m,r⟩ ih
 refine⟨⟨dx,ch,wl,ul,ct,ws,us,?_,f.tup b.ec,g b.ew,fk b.fw,g b.eu,fk b.fu,c,b.op,b.ow,b.ou,b.ot,b.ne,λx s=>?_⟩,f⟩
 ·rw[k p (ne b.e λC d z=>by cases z)];exact b.e
 ·by_cases h:x=ct
  ·obtain⟨d,q⟩:=c
   rw[h,q];simp
  ·rw[k x h];exact b.al x s
def a7X (K:W.Frag):Sp:=λa H Q _=>∃(c:Addr)(m t n:Int),a= [.ref c,.int n]/\H c=some (.tup [.int m,.int t])/\Q (.bl (decide (Builtin.bitAnd n m=t))) H
def a8U (K:W.Frag)(C:Addr):Sp:=λb H Q E=>∃(a:Addr)(ns:List Int),b= [.ref a]/\SqT K H a (ns.map V.int)/\ns.length<=500/\(ns.all byt=true->∀H',Same H H'->Q .non H')/\(¬ ns.all byt=true->∀H',Same H H'->False)
def S0 (a b v:Nat):PS:=⟨a,b,v, [], [],0,.free 0⟩
def a7E (a b v:Int):Prop:=byt a=true/\byt b=true/\(v=1\/v=3\/v=5)
def a1S (K:W.Frag)(A:Cs)(C:Addr):Sp:=λb H Q E=>∃(a dx ch:Addr)(m1 m2 v:Int),b= [.ref a,.ref ch,.int v]/\H a=some (.ins A.post dx [])/\H ch=some (.tup [.int m1,.int m2])/\
 (a7E m1 m2 v->∀H' o,bZ A H' a (S0 m1.toNat m2.toNat v.toNat) o->(∀x,o x->x=a\/H x=none)->(∀x u,x≠a->H x=some u->H' x=some u)->Q .non H')/\(¬ a7E m1 m2 v->∀H':Hp,(∀x u,x≠a->H x=some u->H' x=some u)->False)
def Bd.grow {d:Addr}{v:HO}(h:Bd A H p nwf S o)(e:H d=some v):Bd A H p nwf S (Or2 o λx=>x=d):=by
 obtain⟨c,f,g,i,j,k,l,b⟩:=h
 refine⟨c,f,g,i,j,k,l,b.e,b.ec,b.ew,b.fw.imp (λx v e _=>e) (λx z=>⟨.inl z.1,z.2⟩),b.eu,b.fu.imp (λx v e _=>e) (λx z=>⟨.inl z.1,z.2⟩),b.et,.inl b.op,.inl b.ow,.inl b.ou,.inl b.ot,b.ne,λx hx=>?_⟩
 rcases hx with hx | hx
 ·exact b.al x hx
 ·have a:x=d:=hx
  rw[a,e];simp
def a0D {ch ct:Addr}{ys:List V}(b:BAt A H p nwf S o dx ch wl ul ct ws us)(ha:a=wl\/a=ul):
  cV o H (upd H a (.lst ys))/\upd H a (.lst ys) p=H p/\upd H a (.lst ys) ch=H ch/\upd H a (.lst ys) ct=H ct/\(∀{ts:List V}{fs:List Fr},dC H (Dl o wl ul) ts fs->dC (upd H a (.lst ys)) (Dl o wl ul) ts fs)/\∀x,o x->upd H a (.lst ys) x≠none:=by
 have c:∃l,H a=some (.lst l):=ha.elim (λz=>⟨_,z▸b.ew⟩) λz=>⟨_,z▸b.eu⟩
 obtain⟨l,c⟩:=c
 have j:o a:=ha.elim (λz=>z▸b.ow) λz=>z▸b.ou
 have i:cV o H (upd H a (.lst ys)):=λx v e z=>by
  rw[aH]
  ·exact e
  ·rintro rfl
   rcases z with z | ⟨q,rfl⟩
   ·exact z j
   ·rw[c]at e;cases e
 have f:∀{x:Addr}{v:HO},H x=some v->(∀l,v≠ .lst l)->upd H a (.lst ys) x=H x:=λ{x v} e h=>by
  rw[aH]
  rintro rfl
  rw[c]at e
  exact h _ (Yp e).symm
 refine⟨i,f b.e (λl z=>nomatch z),f b.ec (λl z=>nomatch z),(let ⟨d,e⟩:=b.et;f e λl z=>nomatch z),λ{ts fs} h=>?_,λx k=>?_⟩
 ·induction h with
  |nil=>exact .nil
  | cons a' _ ih=>
   obtain⟨d,m,n,g⟩:=a'
   refine .cons ⟨d,i.tup m,?_,g⟩ ih
   rw[aH (ha.elim (λz=>z▸g.2.1) λz=>z▸g.2.2)]
   exact n
 ·by_cases h:x=a
  ·rw[h,aB];simp
  ·rw[aH h];exact b.al x k
def Stc.tag:Stc->Nat
 |.free _=>0
 |.speaks _ _ _=>1
 |.reads _=>2
 |.tlS _ _=>3
 |.tlR _ _ _ _=>3
 |.flag _ _=>4
 |.settles _=>5
 |.rests _=>6
 |.off=>7
def cZ (A:Cs)(i:Nat):Sp:=λa H Q _=>∃nw p nwf S ob os,a= [.ref nw,.ref p]/\S.now.tag=i/\Bd A H p nwf S ob/\StW A H nw S os/\Wf S/\Q (.int (bI S)) H
def cY (A:Cs)(i:Nat):Sp:=λa H Q _=>∃nw p nwf S ob os b,a= [.ref nw,.int b,.ref p]/\S.now.tag=i/\Bd A H p nwf S ob/\StW A H nw S os/\(∀x,ob x->os x->False)/\Wf S/\(b=0\/b=1)/\S.up.length<900/\∀t H',Stp A H p nwf ob os (aW S b) t H'->Q (.ref t) H'
structure Bef (S S':PS):Prop where
 e1:S'.m1=S.m1
 e2:S'.m2=S.m2
 e3:S'.vt=S.vt
 e4:S'.wt=S.wt
 e5:S'.up=S.up
 e6:S'.tot=S.tot
def Stp.go {os':Own}{r:Str×PS}(b:Bd A H0 p nwf S ob)(a:∀x,ob x->os x->False)(k:cV os H0 H1)(g:Same H1 H')(e:H' t=some (.tup [.str r.1,.ref nw']))(f:Bef S r.2)(st:StW A H' nw' r.2 os')(fr:∀x,os' x->os x\/H1 x=none):Stp A H0 p nwf ob os r t H':=by
 have c:Bd A H1 p nwf S ob:=b.move λx v e z=>k x v e (z.imp_left λy w=>a x y w)
 refine⟨nw',ob,os',e,(c.move λx v e _=>g x v e).now f.e1 f.e2 f.e3 f.e4 f.e5 f.e6,st,λx hx d=>?_,λx v ex z=>g x v (k x v ex (z.imp_left λy w=>y (.inr w))),λx hx=>?_⟩
 ·exact(fr x d).elim (a x hx) (c.al x hx)
 ·rcases hx with hx | hx
  ·exact .inl (.inl hx)
  ·rcases fr x hx with h | h
   ·exact .inl (.inr h)
   ·exact(oN (o':=ob) k h).imp_left .inr
def Stp.go2 {a os':Own}{r:Str×PS}(b:Bd A H1 p nwf r.2 a)(k:cV (Or2 ob os) H0 H1)(g:Same H1 H')(e:H' t=some (.tup [.str r.1,.ref nw']))(st:StW A H' nw' r.2 os')(fr:∀x,os' x->H1 x=none)(fo:∀x,a x->Or2 ob os x\/H0 x=none):Stp A H0 p nwf ob os r t H':=by
 refine⟨nw',a,os',e,b.move λx v e _=>g x v e,st,λx hx c=>b.al x hx (fr x c),λx v ex z=>g x v (k x v ex z),λx hx=>?_⟩
 rcases hx with hx | hx
 ·exact fo x hx
 ·exact oN (o':=ob) k (fr x hx)
def iW {v:HO}(e:H nw=some v)(h:c0O A H nw S.vt (λx=>x=nw) S.now):StW A H nw S (λx=>x=nw):=⟨h,rfl,λx b=>by
 have a:x=nw:=b
 rw[a,e];simp⟩
def zA (e:S.now= .free k):bI S=if S.wt= [] then 1 else if 12<=S.tot/\k<8 then 1 else 0:=by unfold bI;rw[e]
def a8O (A:Cs):Sp:=λa H Q _=>∃p S o,a= [.ref p]/\bZ A H p S o/\Q (.int (bI S)) H
def a8P (A:Cs):Sp:=λa H Q _=>∃p S o b,a= [.ref p,.int b]/\bZ A H p S o/\(b=0\/b=1)/\S.up.length<900/\∀H' o',bZ A H' p (aW S b).2 o'->Mv o H o' H'->Q (.str (aW S b).1) H'
def sU {x y D d:Addr}{fs a:List (Str×V)}{v:V}(f:Str)(b:H x=some (.ins C dx fs))(e:H y=some (.ins D d a))(c:fs.lookup f=some v)(g:a.lookup f=none):x≠y:=λz=>by
 rw[z,e]at b
 have:=Yp b
 injection this with _ _ h
 rw[<-h,g]at c
 cases c
def a4B {x y:Addr}{fs:List (Str×V)}{l:List V}(a:H x=some (.ins C dx fs))(b:H y=some (.lst l)):x≠y:=λz=>by
 rw[z,b]at a
 cases a
def a4I {st:Addr}{t:Str}(h:jN C CK H r st ks w t)(b:b5T H H1 r st ks)(c:o r)(f:o st)(g:o ks):cV o H H1:=λx v e z=>by
 refine b x v ?_ ?_ ?_ e
 ·rintro rfl
  rcases z with z | ⟨a,rfl⟩
  ·exact z c
  ·obtain⟨d,q⟩:=h.rd;rw[q]at e;cases e
 ·rintro rfl
  rcases z with z | ⟨a,rfl⟩
  ·exact z f
  ·obtain⟨d,q⟩:=h.sk;rw[q]at e;cases e
 ·rintro rfl
  rcases z with z | ⟨a,rfl⟩
  ·exact z g
  ·rw[h.kp]at e;cases e
def a4H {a:Addr}{s:Bool}(h:qK C1 C2 H a v s n c)(b:b2F H H1 a)(f:o a):cV o H H1:=λx u e z=>by
 refine b x u ?_ e
 rintro rfl
 rcases z with z | ⟨g,rfl⟩
 ·exact z f
 ·obtain⟨C,d,_,q⟩:=h;rw[q]at e;cases e
def qX (bd:Bd A H p nwf S ob)(a:∀x,ob x->os x->False)(k:cV os H H1):Bd A H1 p nwf S ob:=bd.move λx v e z=>k x v e (z.imp_left λy w=>a x y w)
def getD_get (h:k<w.length):w.getD k 0=w[k]:=by rw[Yf,Yb h];rfl
def mW {r:Str×PS}{v:HO}(b:Bd A H0 p nwf S ob)(c:∀x,ob x->os x->False)(k:cV os H0 H1)(g:Same H1 H')(e:H' t=some (.tup [.str r.1,.ref nw']))(f:Bef S r.2)(d:H1 nw'=none)(h:H' nw'=some v)(i:c0O A H' nw' r.2.vt (λx=>x=nw') r.2.now):Stp A H0 p nwf ob os r t H':=
 Stp.go b c k g e f (iW h i) λx j=> .inr (by have a:x=nw':=j;rw[a];exact d)
def dJ (e:S.now= .free k):aW S b=(if bI S=0 then (if b=0 then ("begins",{ S with now:= .speaks (S.wt.headD (0, [])).1 (S.wt.headD (0, [])).2 1 }) else bW S true) else if b=0 then ("",{ S with now:= .reads [0] }) else ("",{ S with now:= .free (k+1) }):Str×PS):=by unfold aW;rw[e]
def nC {m:Bool}(e:S.now= .flag l m):aW S b=(if l=1 then ("",{ S with now:= .settles m }) else ("",{ S with now:= .flag (l-1) m }):Str×PS):=by unfold aW;rw[e]
def jK {m:Bool}(e:S.now= .settles m):aW S b=(if b=1 then ("",{ S with now:= .rests 3 }) else if m=true then gU S else ("",S):Str×PS):=by unfold aW;rw[e]
def gR (e:S.now= .rests l):aW S b=(if b=0 then bW S false else ("",{ S with now:=if l=1 then .free 0 else .rests (l-1) }):Str×PS):=by unfold aW;rw[e]
def a0G (e:S.now= .off):aW S b=(("",S):Str×PS):=by unfold aW;rw[e]
def cI (e:S.now= .reads h):aW S b=(if ans (h++[b])="more" then ("",{ S with now:= .reads (h++[b]) }) else if ans (h++[b])="whole" then ("",{ S with now:= .tlR (nmB (kp (h++[b]))) (daB (kp (h++[b]))) 0 0 }) else bW S false:Str×PS):=by unfold aW;rw[e]
def bG (e:S.now= .speaks n ds k):aW S b=(if ans ((wr n ds).take k++[b])="six" then bW S true else if (wr n ds).getD k 0=1/\b=0/\(kp ((wr n ds).take k)).length<9 then ("loses",{ S with now:= .reads ((wr n ds).take k++[b]) }) else if b=(wr n ds).getD k 0 then (if k+1=(wr n ds).length then ("",{ S with now:= .tlS 0 0 }) else ("",{ S with now:= .speaks n ds (k+1) })) else bW S true:Str×PS):=by unfold aW;rw[e]
def jW (e:S.now= .tlS v c):aW S b=(if bJ S.vt true v c b="more" then ("",{ S with now:= .tlS (v+1) (tlN v b c) }) else if bJ S.vt true v c b="fault" then bW S true else if bJ S.vt true v c b="refused" then dM S true else ("done",{ S with tot:=mvd S.tot (-1),wt:=S.wt.tail,now:= .rests 3 }):Str×PS):=by unfold aW;rw[e]
def lH (e:S.now= .tlR n ds v c):aW S b=(if bJ S.vt false v c b="more" then ("",{ S with now:= .tlR n ds (v+1) (tlN v b c) }) else if bJ S.vt false v c b="fault" then bW S false else if bJ S.vt false v c b="refused" then dM S false else ("takes",{ S with tot:=mvd S.tot (-1),up:=if gC S n=true then S.up++[(n,ds)] else S.up,now:= .rests 3 }):Str×PS):=by unfold aW;rw[e]
structure Mid (H:Hp)(a:Addr)(v:HO)(cs:List (Addr×HO))(Hx:Hp):Prop where
 ea:Hx a=some v
 kp:∀x u,x≠a->H x=some u->Hx x=some u
 nw:∀c∈cs,H c.1=none/\c.1≠a/\Hx c.1=some c.2
 nd:(cs.map Prod.fst).Nodup
def Mid.set {v:HO}{d:List (Addr×HO)}{e:Hp}(m:Mid H a v d e)(v':HO):Mid H a v' d (upd e a v'):=
 ⟨aB,λx u f h=>by rw[aH f];exact m.kp x u f h,λc b=>⟨(m.nw c b).1,(m.nw c b).2.1,by rw[aH (m.nw c b).2.1];exact(m.nw c b).2.2⟩,m.nd⟩
def Mid.add {y:Addr}{v o:HO}{cs:List (Addr×HO)}{Hx Hy:Hp}(m:Mid H a v cs Hx)(hn:Hx y=none)(g:Same Hx Hy)(e:Hy y=some o):Mid H a v ((y,o)::cs) Hy:=by
 have b:y≠a:=λz=>by rw[z,m.ea]at hn;cases hn
 refine⟨g _ _ m.ea,λx u d h=>g _ _ (m.kp x u d h),λc hc=>?_,YQ.mpr ⟨λh=>?_,m.nd⟩⟩
 ·rcases YL.mp hc with rfl | hc
  ·refine⟨?_,b,e⟩
   cases eh:H y with
   |none=>rfl
   |some u=>rw[m.kp y u b eh]at hn;cases hn
  ·exact⟨(m.nw c hc).1,(m.nw c hc).2.1,g _ _ (m.nw c hc).2.2⟩
 ·obtain⟨c,hc,f⟩:=YW.mp h
  have:=(m.nw c hc).2.2
  rw[f,hn]at this
  cases this
def pR {x:Addr}(b:Bd A H1 p nwf S o)(k:cV o H H1)(n:H1 x=none):H x=none:=by
 rcases oN (o':=o) k n with h | h
 ·exact absurd n (b.al x h)
 ·exact h
theorem a6T {A:Cs}{H':Hp}{p nwf nw':Addr}{S:PS}{ob' os':Own}{b:Int}(wf:Wf S)(hb:b=0\/b=1)(b':Bd A H' p nwf (aW S b).2 ob')(s':StW A H' nw' (aW S b).2 os')(dj':∀x,ob' x->os' x->False)
  {dp ch wl ul ct:Addr} {ws us:List V} (bb:BAt A H' p nwf (aW S b).2 ob' dp ch wl ul ct ws us) :
  bZ A (upd H' p (.ins A.post dp (pF ch (aW S b).2.vt wl ul ct nw'))) p (aW S b).2 (Or2 ob' os')/\cV (λx=>x=p) H' (upd H' p (.ins A.post dp (pF ch (aW S b).2.vt wl ul ct nw'))):=by
 have f:cV (λx=>x=p) H' (upd H' p (.ins A.post dp (pF ch (aW S b).2.vt wl ul ct nw'))):=λx v e z=>by
  rw[aH]
  ·exact e
  ·rintro rfl
   rcases z with z | ⟨s,rfl⟩
   ·exact z rfl
   ·rw[bb.e]at e;cases e
 have ne:∀{x:Addr}{v:HO},H' x=some v->x≠p->upd H' p (.ins A.post dp (pF ch (aW S b).2.vt wl ul ct nw')) x=some v:=λe h=>by rw[aH h];exact e
 have g:∀{x:Addr}{l:List V},H' x=some (.lst l)->x≠p:=λe z=>by rw[z,bb.e]at e;cases e
 have fk:∀{i:List V}{fs:List Fr},dC H' (Dl ob' wl ul) i fs->dC (upd H' p (.ins A.post dp (pF ch (aW S b).2.vt wl ul ct nw'))) (Dl ob' wl ul) i fs:=λ{i fs} h=>by
  induction h with
  |nil=>exact .nil
  | cons a _ ih=>
   obtain⟨d,n,k,o⟩:=a
   exact .cons ⟨d,f.tup n,ne k (g k),o⟩ ih
 have al:∀x,Or2 ob' os' x->upd H' p (.ins A.post dp (pF ch (aW S b).2.vt wl ul ct nw')) x≠none:=λx c=>by
  by_cases h:x=p
  ·rw[h,aB];simp
  ·rw[aH h];exact c.elim (bb.al x) (s'.al x)
 obtain⟨q,m⟩:=id bb.et
 have j:ct≠p:=sU "total" m bb.e rfl rfl
 refine⟨⟨nw',ob',os',⟨dp,ch,wl,ul,ct,ws,us,aB,f.tup bb.ec,ne bb.ew (g bb.ew),fk bb.fw,ne bb.eu (g bb.eu),fk bb.fu,⟨q,ne m j⟩,bb.op,bb.ow,bb.ou,bb.ot,bb.ne,λx c=>al x (.inl c)⟩,s'.move λx v e z=>f x v e (z.imp_left λy w=>dj' x (by have r:x=p:=w;rw[r];exact bb.op) y),dj',wf.hear hb,λx c=>c,al⟩,f⟩
structure Lw (A:Cs)(H0 H:Hp)(p:Addr)(S:PS)(o:Own):Prop where
 same:Same H0 H
 fr:∀x,o x->H0 x=none
 po:bZ A H p S o
def Wf.hand {f:Fr}(h:Wf S)(hf:FrN f):Wf { S with wt:=S.wt++[f] }:=by
 refine⟨h.vt,λg i=>?_,?_⟩
 ·rcases YO.mp i with z | z
  ·exact h.wt g z
  ·rw[Ym.mp z];exact hf
 ·have j:=h.now
  have e:S.wt++[f]≠ []:=by intro z;have:=(List.append_eq_nil_iff.mp z).2;cases this
  show Stc.Wf (S.wt++[f]) S.now
  revert j
  cases S.now with
  |speaks n ds k=>exact λ⟨a,b,c,d⟩=>⟨a,b,c,e⟩
  |tlS v c=>exact λ_=>e
  |free k=>exact λz=>z
  |reads h=>exact λz=>z
  |tlR n ds v c=>exact λz=>z
  |flag l m=>exact λz=>z
  |settles m=>exact λz=>z
  |rests l=>exact λz=>z
  |off=>exact λz=>z
def bZ.hand (h:bZ A H p S o):∃nw ob,Bd A H p nw S ob/\∀{n:Int}{ds:List Int},qC n ds->∀H' d,H d=none->Bd A H' p nw { S with wt:=S.wt++[(n.toNat,ds)] } (Or2 ob λx=>x=d)->cV ob H H'->∃o',bZ A H' p { S with wt:=S.wt++[(n.toNat,ds)] } o'/\Mv o H o' H':=by
 obtain⟨nw,ob,j,bd,m,l,wf,a,al⟩:=h
 refine⟨nw,ob,bd,λ{n ds} ok H' d hd f k=>?_⟩
 have r:=gK.mp ok.1
 have q:FrN (n.toNat,ds):=⟨by show n.toNat<256;lia,ok.2.1,ok.2.2⟩
 have g:StW A H' nw S j:=m.move λx v e z=>k x v e (z.imp_left λy w=>l x w y)
 refine⟨Or2 o λx=>x=d,⟨nw,Or2 ob λx=>x=d,j,f,⟨g.at_,g.on,g.al⟩,?_,wf.hand q,?_,?_⟩,k.le λx hx=>a x (.inl hx),λx hx=>?_⟩
 ·rintro x (hx | hx) i
  ·exact l x hx i
  ·have b:x=d:=hx
   rw[b]at i
   exact al d (a d (.inr i)) hd
 ·rintro x ((hx | hx) | hx)
  ·exact .inl (a x (.inl hx))
  ·exact .inr hx
  ·exact .inl (a x (.inr hx))
 ·rintro x (hx | hx)
  ·rcases Classical.em (ob x) with c | c
   ·exact f.al x (.inl c)
   ·cases e:H x with
    |none=>exact absurd e (al x hx)
    |some v=>rw[k x v e (.inl c)];simp
  ·exact f.al x (.inr hx)
 ·rcases hx with hx | hx
  ·exact .inl hx
  ·have b:x=d:=hx
   rw[b];exact .inr hd
def b3Y {v:HO}(g:Same H H1)(a:H1 p=none)(b:H1 dp=none)(j:bZ A H' p S o)(f:∀x,o x->x=p\/upd (upd H1 dp (.own p)) p v x=none)(k:∀x u,x≠p->upd (upd H1 dp (.own p)) p v x=some u->H' x=some u):Lw A H H' p S o/\Same H1 H':=by
 have i:Same H1 H':=λx u e=>k x u (aL e a) (by rw[aH (aL e a),aH (aL e b)];exact e)
 refine⟨⟨g.trans i,λx l=>?_,j⟩,i⟩
 rcases f x l with h | h
 ·rw[h];exact g.none a
 ·refine g.none ?_
  by_cases c:x=p
  ·rw[c,aB]at h;cases h
  ·rw[aH c]at h
   by_cases d:x=dp
   ·rw[d,aB]at h;cases h
   ·rw[aH d]at h;exact h
def bZ.bd (h:bZ A H p S o):∃nw ob,Bd A H p nw S ob:=let ⟨nw,ob,_,bd,_⟩:=h;⟨nw,ob,bd⟩
def bZ.cell (h:bZ A H p S o):∃dx ch vt wl ul ct nw,H p=some (.ins A.post dx (pF ch vt wl ul ct nw)):=let ⟨nw,_,_,⟨dx,ch,wl,ul,ct,_,_,b⟩,_⟩:=h;⟨dx,ch,_,wl,ul,ct,nw,b.e⟩
theorem fK.at_:∀{ts:List V}{fs:List Fr},fK H H' ts fs->dC H' (λ_=>True) ts fs
 |_,_,.nil=> .nil
 |_,_,.cons _ _ a3 a4 r=> .cons ⟨_,a3,a4,trivial⟩ r.at_
def frD (f:Fr):PyData:= .tuple [.int ((f.1:Nat):Int),.list (f.2.map .int)]
theorem dC.dvs:∀{ts:List V}{fs:List Fr},dC H o ts fs->DVs K H ts (fs.map frD)
 |_,_,.nil=> .nil
 |_,_,.cons ⟨_,e1,e2,_⟩ r=> .cons (.tup (Vc e1) (.cons (.int _) (.cons (DV.ints (Vb e2)) .nil))) r.dvs
def tD (fs:List Fr):SeqAt.shaped (.list (fs.map frD))=true:=b3L λd hd=>by
 obtain⟨f,_,rfl⟩:=YW.mp hd
 have h:=lay_ints f.2
 have a:=h.2
 unfold frD
 refine⟨?_,?_⟩
 ·simp only[PyData.canLay0,PyData.canLayAll0,Bool.true_and,Bool.and_true]
  have:=h.1
  simp only[PyData.canLay0]at this
  exact this
 ·have b:=W.depthAll_ints f.2
  simp only[PyData.depth,PyData.depthAll]
  lia
def b9F {lo:Own}{o u:HO}(e:H a=some o)(h:lo a)(n:¬ isT o):Mv lo H lo (upd H a u):=⟨λx v ex z=>by
 rw[aH]
 ·exact ex
 ·rintro rfl
  rcases z with z | z
  ·exact z h
  ·rw[e]at ex;cases ex;exact n z,λ_=> .inl⟩
def b4N {xs:List V}:¬ isT (.lst xs):=λ⟨_,z⟩=>by cases z
def StW.disp (st:StW A H nw S os):∃C dd fs,H nw=some (.ins C dd fs)/\(fs.lookup ("says":Str)=none/\fs.lookup ("step":Str)=none/\fs.lookup ("shown":Str)=none)/\∀f:Nat->Sp,(C=A.free/\f S.now.tag=f 0)\/(C=A.speaks/\f S.now.tag=f 1)\/(C=A.reads/\f S.now.tag=f 2)\/(C=A.intail/\f S.now.tag=f 3)\/(C=A.flag/\f S.now.tag=f 4)\/(C=A.settles/\f S.now.tag=f 5)\/(C=A.rests/\f S.now.tag=f 6)\/(C=A.off/\f S.now.tag=f 7):=by
 have a:=st.at_
 cases en:S.now
 case free k=>
  rw[en]at a
  obtain⟨dd,b⟩:=a
  exact⟨_,dd,_,b,⟨rfl,rfl,rfl⟩,λf=> .inl ⟨rfl,rfl⟩⟩
 case speaks n ds k=>
  rw[en]at a
  obtain⟨dd,j,r,d,e,g,b,_⟩:=a
  exact⟨_,dd,_,b,⟨rfl,rfl,rfl⟩,λf=> .inr (.inl ⟨rfl,rfl⟩)⟩
 case reads h=>
  rw[en]at a
  obtain⟨dd,r,d,e,g,b,_⟩:=a
  exact⟨_,dd,_,b,⟨rfl,rfl,rfl⟩,λf=> .inr (.inr (.inl ⟨rfl,rfl⟩))⟩
 case tlS v c=>
  rw[en]at a
  obtain⟨dd,i,b,_⟩:=a
  exact⟨_,dd,_,b,⟨rfl,rfl,rfl⟩,λf=> .inr (.inr (.inr (.inl ⟨rfl,rfl⟩)))⟩
 case tlR n ds v c=>
  rw[en]at a
  obtain⟨dd,i,o,p,b,_⟩:=a
  exact⟨_,dd,_,b,⟨rfl,rfl,rfl⟩,λf=> .inr (.inr (.inr (.inl ⟨rfl,rfl⟩)))⟩
 case flag l m=>
  rw[en]at a
  obtain⟨dd,b⟩:=a
  exact⟨_,dd,_,b,⟨rfl,rfl,rfl⟩,λf=> .inr (.inr (.inr (.inr (.inl ⟨rfl,rfl⟩))))⟩
 case settles m=>
  rw[en]at a
  obtain⟨dd,b⟩:=a
  exact⟨_,dd,_,b,⟨rfl,rfl,rfl⟩,λf=> .inr (.inr (.inr (.inr (.inr (.inl ⟨rfl,rfl⟩)))))⟩
 case rests l=>
  rw[en]at a
  obtain⟨dd,b⟩:=a
  exact⟨_,dd,_,b,⟨rfl,rfl,rfl⟩,λf=> .inr (.inr (.inr (.inr (.inr (.inr (.inl ⟨rfl,rfl⟩))))))⟩
 case off=>
  rw[en]at a
  obtain⟨dd,b⟩:=a
  exact⟨_,dd,_,b,⟨rfl,rfl,rfl⟩,λf=> .inr (.inr (.inr (.inr (.inr (.inr (.inr (⟨rfl,rfl⟩)))))))⟩
def kE (A:Cs)(H:Hp):List Addr->List PS->Own->Prop
 |[], [],o=>∀x,o x->H x≠none
 |p::ps,S::Ss,o=>∃o1 o2,bZ A H p S o1/\kE A H ps Ss o2/\(∀x,o1 x->o2 x->False)/\(∀x,o1 x\/o2 x->o x)/\∀x,o x->H x≠none
 |_,_,_=>False
theorem kE.al:∀{ps:List Addr}{Ss:List PS}{o:Own},kE A H ps Ss o->∀x,o x->H x≠none
 |[], [],_,h=>h
 |_::_,_::_,_,⟨_,_,_,_,_,_,h⟩=>h
theorem kE.len:∀{ps:List Addr}{Ss:List PS}{o:Own},kE A H ps Ss o->ps.length=Ss.length
 |[], [],_,_=>rfl
 |_::_,_::_,_,⟨_,_,_,h,_⟩=>YU (·+1) h.len
theorem kE.move:∀{ps:List Addr}{Ss:List PS}{o:Own},kE A H ps Ss o->(∀x v,H x=some v->(o x\/isT v)->H' x=some v)->kE A H' ps Ss o
 | [], [],o,h,g=>λx hx=>by
  cases e:H x with
  |none=>exact absurd e (h x hx)
  |some v=>rw[g x v e (.inl hx)];simp
 | _::_,_::_,o,⟨o1,o2,h1,h2,dj,inc,al⟩,g=>⟨o1,o2,h1.move λx v e z=>g x v e (z.imp_left λy=>inc x (.inl y)),h2.move λx v e z=>g x v e (z.imp_left λy=>inc x (.inr y)),dj,inc,λx hx=>by
  cases e:H x with
  |none=>exact absurd e (al x hx)
  |some v=>rw[g x v e (.inl hx)];simp⟩
def kE.same {ps:List Addr}{a:List PS}(h:kE A H ps a o)(g:Same H H'):kE A H' ps a o:=h.move λx v e _=>g x v e
theorem kE.get:∀{ps:List Addr}{Ss:List PS}{o:Own},kE A H ps Ss o->∀{i:Nat}{p:Addr},ps[i]? =some p->∃S oi,Ss[i]? =some S/\bZ A H p S oi/\(∀x,oi x->o x)/\∀H' oi' S',Mv oi H oi' H'->bZ A H' p S' oi'->∃o',kE A H' ps (Ss.set i S') o'/\Mv o H o' H'
 | q ::ps,S::Ss,o,⟨o1,o2,h1,h2,dj,inc,al⟩,0,p,hp=>by
  cases hp
  refine⟨S,o1,rfl,h1,λx hx=>inc x (.inl hx),λH' oi' S' m hP=>?_⟩
  have h2':kE A H' ps Ss o2:=h2.move λx v e z=>m.1 x v e (z.imp_left λy w=>dj x w y)
  refine⟨Or2 oi' o2,⟨oi',o2,hP,h2',λx hx hy=>?_,λx hx=>hx,λx hx=>?_⟩,⟨λx v e z=>m.1 x v e (z.imp_left λy w=>y (inc x (.inl w))),λx hx=>?_⟩⟩
  ·exact(m.2 x hx).elim (λz=>dj x z hy) λz=>h2.al x hy z
  ·rcases hx with hx | hx
   ·exact hP.al x hx
   ·exact h2'.al x hx
  ·rcases hx with hx | hx
   ·exact(m.2 x hx).imp (λz=>inc x (.inl z)) id
   ·exact .inl (inc x (.inr hx))
 | q ::ps,S::Ss,o,⟨o1,o2,h1,h2,dj,inc,al⟩,i+1,p,hp=>by
  obtain⟨S1,oi,e1,hP1,le,back⟩:=kE.get h2 (i:=i) hp
  refine⟨S1,oi,e1,hP1,λx hx=>inc x (.inr (le x hx)),λH' oi' S' m hP=>?_⟩
  obtain⟨o2',h2',m'⟩:=back H' oi' S' m hP
  have h1':bZ A H' q S o1:=h1.move λx v e z=>m'.1 x v e (z.imp_left λy w=>dj x y w)
  refine⟨Or2 o1 o2',⟨o1,o2',h1',h2',λx hx hy=>?_,λx hx=>hx,λx hx=>?_⟩,⟨λx v e z=>m'.1 x v e (z.imp_left λy w=>y (inc x (.inr w))),λx hx=>?_⟩⟩
  ·exact(m'.2 x hy).elim (λz=>dj x hx z) λz=>h1.al x hx z
  ·rcases hx with hx | hx
   ·exact h1'.al x hx
   ·exact h2'.al x hx
  ·rcases hx with hx | hx
   ·exact .inl (inc x (.inl hx))
   ·exact(m'.2 x hx).imp (λz=>inc x (.inr z)) id
theorem kE.snoc (hP:bZ A H' p S o1)(g:Same H H')(n:∀x,o1 x->H x=none):∀{ps:List Addr}{Ss:List PS}{o:Own},kE A H ps Ss o->kE A H' (ps++[p]) (Ss++[S]) (Or2 o o1)
  | [], [],o,h=>⟨o1,o,hP,λx hx=>by
      cases e:H x with
      |none=>exact absurd e (h x hx)
      |some v=>rw[g x v e];simp,λx hx hy=>h x hy (n x hx),λx hx=>hx.symm,λx hx=>by
      rcases hx with hx | hx
      · cases e:H x with
        |none=>exact absurd e (h x hx)
        |some v=>rw[g x v e];simp
      · exact hP.al x hx⟩
  | q :: ps,T::Ss,o,⟨oa,ob,h1,h2,dj,inc,al⟩=>⟨oa,Or2 ob o1,h1.same g,kE.snoc hP g n h2,λx hx hy=>by
      rcases hy with hy | hy
      · exact dj x hx hy
      · exact h1.al x hx (n x hy),λx hx=>by
      rcases hx with hx | hx | hx
      · exact .inl (inc x (.inl hx))
      · exact .inl (inc x (.inr hx))
      · exact .inr hx,λx hx=>by
      rcases hx with hx | hx
      · cases e:H x with
        |none=>exact absurd e (al x hx)
        |some v=>rw[g x v e];simp
      · exact hP.al x hx⟩
structure eZ (H:Hp)(L:List (Addr×HO)):Prop where
 at_:∀(j:Nat)(c:Addr×HO),L[j]? =some c->H c.1=some c.2
 ap:∀(i j:Nat)(c d:Addr×HO),L[i]? =some c->L[j]? =some d->c.1=d.1->i=j
def eZ.put {h:HO}(f:eZ H L)(e:L[i]? =some (a,h))(h':HO):eZ (upd H a h') (L.set i (a,h')):=by
 have m:i<L.length:=(Ye.mp e).1
 have b:∀(j:Nat)(c:Addr×HO),(L.set i (a,h'))[j]? =some c->(j=i/\c=(a,h'))\/(j≠i/\L[j]? =some c):=λj c z=>by
  rw[Y7]at z
  by_cases k:i=j
  ·rw[if_pos k,if_pos m]at z
   exact .inl ⟨k.symm,(Yp z).symm⟩
  ·rw[if_neg k]at z
   exact .inr ⟨λy=>k y.symm,z⟩
 refine⟨λj c z=>?_,λj k c d z y q=>?_⟩
 ·rcases b j c z with ⟨_,rfl⟩ | ⟨n,z⟩
  ·exact aB
  ·rw[aH λq=>n (f.ap j i c (a,h) z e q)]
   exact f.at_ j c z
 ·rcases b j c z with ⟨g,rfl⟩ | ⟨g,z⟩ <;> rcases b k d y with ⟨l,rfl⟩ | ⟨l,y⟩
  ·rw[g,l]
  ·exact absurd (f.ap k i d (a,h) y e q.symm) l
  ·exact absurd (f.ap j i c (a,h) z e q) g
  ·exact f.ap j k c d z y q
def eZ.keep (a:eZ H L)(g:∀(j:Nat)(c:Addr×HO),L[j]? =some c->H' c.1=some c.2):eZ H' L:=⟨g,a.ap⟩
def eZ.same (a:eZ H L)(g:Same H H'):eZ H' L:=a.keep λj c z=>g _ _ (a.at_ j c z)
def eZ.snoc {h:HO}(hc:eZ H L)(n:H a=none):eZ (upd H a h) (L++[(a,h)]):=by
 have b:∀(j:Nat)(c:Addr×HO),(L++[(a,h)])[j]? =some c->(j=L.length/\c=(a,h))\/L[j]? =some c:=λj c z=>by
  by_cases k:j<L.length
  ·rw[YF k]at z
   exact .inr z
  ·rw [Yy (by lia)]at z
   have f:j-L.length=0:=by
    cases e:j-L.length with
    |zero=>rfl
    |succ m=>rw[e]at z;cases z
   rw[f]at z
   exact .inl ⟨by lia,(Yp z).symm⟩
 have ne:∀(j:Nat)(c:Addr×HO),L[j]? =some c->c.1≠a:=λj c z q=>by have:=hc.at_ j c z;rw[q,n]at this;cases this
 refine⟨λj c z=>?_,λj k c d z y q=>?_⟩
 ·rcases b j c z with ⟨_,rfl⟩ | z
  ·exact aB
  ·rw[aH (ne j c z)];exact hc.at_ j c z
 ·rcases b j c z with ⟨g,rfl⟩ | z <;> rcases b k d y with ⟨i,rfl⟩ | y
  ·rw[g,i]
  ·exact absurd q.symm (ne k d y)
  ·exact absurd q (ne j c z)
  ·exact hc.ap j k c d z y q
open PyProof.Rows in
structure RS where
 (ps:List PS) (ow:List (Key×V)) (bo:List Int) (sa he:List (List Int)) (ev:List (Nat×Nat×Str))
inductive lM (H:Hp):List V->List (Nat×Nat×Str)->Prop
 |nil:lM H [] []
 |cons {t:Addr} {e:Nat×Nat×Str} {vs:List V} {es:List (Nat×Nat×Str)}:H t=some (.tup [.int ((e.1:Nat):Int),.int ((e.2.1:Nat):Int),.str e.2.2])->lM H vs es->lM H (.ref t::vs) (e::es)
theorem lM.imp (g:∀x xs,H x=some (.tup xs)->H' x=some (.tup xs)):∀{vs:List V}{es:List (Nat×Nat×Str)},lM H vs es->lM H' vs es
 |_,_,.nil=> .nil
 |_,_,.cons a r=> .cons (g _ _ a) (r.imp g)
theorem lM.snoc {e:Nat×Nat×Str}(a:H t=some (.tup [.int ((e.1:Nat):Int),.int ((e.2.1:Nat):Int),.str e.2.2])):∀{vs:List V}{es:List (Nat×Nat×Str)},lM H vs es->lM H (vs++[.ref t]) (es++[e])
 |_,_,.nil=> .cons a .nil
 |_,_,.cons b r=> .cons b (r.snoc a)
theorem lM.len:∀{vs:List V}{es:List (Nat×Nat×Str)},lM H vs es->vs.length=es.length
 |_,_,.nil=>rfl
 |_,_,.cons _ r=>YU (·+1) r.len
abbrev rF (PL OW BO SA HE EV:Addr):List (Str×V):=[("posts",.ref PL),("owners",.ref OW),("borne",.ref BO),("sayings",.ref SA),("hearings",.ref HE),("happened",.ref EV)]
def lsC (as:List Addr)(xs:List (List Int)):List (Addr×HO):=List.zipWith (λa x=>(a,HO.lst (x.map V.int))) as xs
structure Rw where
 (dx PL OW BO SA HE EV:Addr) (ps sas hes:List Addr) (evs:List V) (op:Own)
abbrev lY (C r:Addr)(w:Rw)(R:RS):List (Addr×HO):=(r,.ins C w.dx (rF w.PL w.OW w.BO w.SA w.HE w.EV))::(w.PL,.lst (w.ps.map V.ref))::(w.OW,.dK R.ow)::(w.BO,.lst (R.bo.map V.int))::(w.SA,.lst (w.sas.map V.ref))::(w.HE,.lst (w.hes.map V.ref))::(w.EV,.lst w.evs)::(lsC w.sas R.sa++lsC w.hes R.he)
structure cU (C:Addr)(A:Cs)(H:Hp)(r:Addr)(R:RS)(o:Own)(w:Rw):Prop where
 cs:eZ H (lY C r w R)
 po:kE A H w.ps R.ps w.op
 ev:lM H w.evs R.ev
 l1:w.sas.length=R.ps.length
 l2:R.sa.length=R.ps.length
 l3:w.hes.length=R.ps.length
 l4:R.he.length=R.ps.length
 lp:R.ps.length<=5
 dj:∀x,w.op x->∀(j:Nat)(c:Addr×HO),(lY C r w R)[j]? =some c->c.1≠x
 inc:∀x,(w.op x\/∃(j:Nat)(c:Addr×HO),(lY C r w R)[j]? =some c/\c.1=x)->o x
 al:∀x,o x->H x≠none
def mR (C:Addr)(A:Cs)(H:Hp)(r:Addr)(R:RS)(o:Own):Prop:=∃w,cU C A H r R o w
section
variable {R:RS}{w:Rw}
def cU.move (h:cU C A H r R o w)(g:∀x v,H x=some v->(o x\/isT v)->H' x=some v):cU C A H' r R o w:=
 ⟨h.cs.keep λj c z=>g _ _ (h.cs.at_ j c z) (.inl (h.inc _ (.inr ⟨j,c,z,rfl⟩))),h.po.move λx v e z=>g x v e (z.imp_left λy=>h.inc x (.inl y)),h.ev.imp λx xs e=>g x _ e (.inr ⟨_,rfl⟩),h.l1,h.l2,h.l3,h.l4,h.lp,h.dj,h.inc,λx a=>by
  cases e:H x with
  |none=>exact absurd e (h.al x a)
  |some v=>rw[g x v e (.inl a)];simp⟩
def cU.same (h:cU C A H r R o w)(g:Same H H'):cU C A H' r R o w:=h.move λx v e _=>g x v e
def cU.er (h:cU C A H r R o w):H r=some (.ins C w.dx (rF w.PL w.OW w.BO w.SA w.HE w.EV)):=h.cs.at_ 0 _ rfl
def cU.ePL (h:cU C A H r R o w):H w.PL=some (.lst (w.ps.map V.ref)):=h.cs.at_ 1 _ rfl
def cU.eOW (h:cU C A H r R o w):H w.OW=some (.dK R.ow):=h.cs.at_ 2 _ rfl
def cU.eBO (h:cU C A H r R o w):H w.BO=some (.lst (R.bo.map V.int)):=h.cs.at_ 3 _ rfl
def cU.eSA (h:cU C A H r R o w):H w.SA=some (.lst (w.sas.map V.ref)):=h.cs.at_ 4 _ rfl
def cU.eHE (h:cU C A H r R o w):H w.HE=some (.lst (w.hes.map V.ref)):=h.cs.at_ 5 _ rfl
def cU.eEV (h:cU C A H r R o w):H w.EV=some (.lst w.evs):=h.cs.at_ 6 _ rfl
def cU.pl (h:cU C A H r R o w):w.ps.length=R.ps.length:=h.po.len
def cU.at (h:cU C A H r R o w)(a:R.ps[i]? =some S):∃p oi,w.ps[i]? =some p/\bZ A H p S oi:=by
 have c:i<w.ps.length:=by rw[h.pl];exact(Ye.mp a).1
 have b:w.ps[i]? =some w.ps[i]:=Yb c
 obtain⟨f,oi,e,d,_⟩:=h.po.get b
 rw[a]at e
 cases e
 exact⟨_,oi,b,d⟩
end
def a3L {v:HO}{c:Addr×HO}(e:L[k]? =some (a,v))(h:(L.set k (a,v'))[j]? =some c):∃c',L[j]? =some c'/\c'.1=c.1:=by
 have b:k<L.length:=(Ye.mp e).1
 rw[Y7]at h
 by_cases q:k=j
 ·rw[if_pos q,if_pos b]at h
  cases h
  exact⟨(a,v),q▸e,rfl⟩
 ·rw[if_neg q]at h
  exact⟨c,h,rfl⟩
def cU.put {R R':RS}{w w':Rw}{v:HO}(h:cU C A H r R o w)(e:(lY C r w R)[k]? =some (a,v))(p:¬ isT v)(eL:lY C r w' R'=(lY C r w R).set k (a,v'))(b:R'.ps=R.ps)(B:w'.ps=w.ps)(g:w'.op=w.op)(D:w'.sas.length=w.sas.length)(E:R'.sa.length=R.sa.length)(F:w'.hes.length=w.hes.length)(G:R'.he.length=R.he.length)(I:lM H w'.evs R'.ev):cU C A (upd H a v') r R' o w'/\Mv o H o (upd H a v'):=by
 have s:=h.cs.at_ k _ e
 have J:o a:=h.inc a (.inr ⟨k,_,e,rfl⟩)
 have y:∀x u,H x=some u->isT u->upd H a v' x=some u:=λx u d t=>by
  rw[aH]
  ·exact d
  ·rintro rfl
   rw[s]at d
   cases d
   exact p t
 refine⟨⟨eL▸h.cs.put e v',?_,I.imp λx xs ex=>y x _ ex ⟨_,rfl⟩,by rw[D,b];exact h.l1,by rw[E,b];exact h.l2,by rw[F,b];exact h.l3,by rw[G,b];exact h.l4,by rw[b];exact h.lp,?_,?_,?_⟩,b9F s J p⟩
 ·rw[B,g,b]
  refine h.po.move λx u d z=>?_
  rcases z with z | z
  ·rw[aH λq=>h.dj x z k _ e q.symm];exact d
  ·exact y x u d z
 ·rw[g,eL]
  intro x f j c i q
  obtain⟨l,m,n⟩:=a3L e i
  exact h.dj x f j l m (n.trans q)
 ·rw [g,eL]
  rintro x (f | ⟨j,c,i,q⟩)
  ·exact h.inc x (.inl f)
  ·obtain⟨l,m,n⟩:=a3L e i
   exact h.inc x (.inr ⟨j,l,m,n.trans q⟩)
 ·intro x f
  by_cases q:x=a
  ·rw[q,aB];simp
  ·rw[aH q];exact h.al x f
def cU.step {R:RS}{w:Rw}(h:cU C A H r R o w)(hp:w.ps[i]? =some p):∃S oi,R.ps[i]? =some S/\bZ A H p S oi/\(∀x,oi x->o x)/\∀H' oi' S',Mv oi H oi' H'->bZ A H' p S' oi'->∃o' op',cU C A H' r { R with ps:=R.ps.set i S' } o' { w with op:=op' }/\Mv o H o' H':=by
 obtain⟨S,oi,eS,l,le,d⟩:=h.po.get hp
 refine⟨S,oi,eS,l,λx hx=>h.inc x (.inl (le x hx)),λH' oi' S' m k=>?_⟩
 obtain⟨op',f,b⟩:=d H' oi' S' m k
 have g:∀(j:Nat)(c:Addr×HO),(lY C r w R)[j]? =some c->¬ w.op c.1:=λj c a z=>h.dj _ z j c a rfl
 have len:(R.ps.set i S').length=R.ps.length:=Y8
 have n:cV o H H':=λx v e z=>b.1 x v e (z.imp_left λy q=>y (h.inc x (.inl q)))
 refine⟨Or2 (λx=>o x/\¬ w.op x) op',op',⟨h.cs.keep λj c a=>b.1 _ _ (h.cs.at_ j c a) (.inl (g j c a)),f,h.ev.imp λx xs e=>b.1 x _ e (.inr ⟨_,rfl⟩),h.l1.trans len.symm,h.l2.trans len.symm,h.l3.trans len.symm,h.l4.trans len.symm,by show (R.ps.set i S').length<=5;rw[len];exact h.lp,?_,?_,?_⟩,n,?_⟩
 ·intro x hx j c a q
  rcases b.2 x hx with z | z
  ·exact h.dj x z j c a q
  ·have:=h.cs.at_ j c a
   rw[q,z]at this
   cases this
 ·rintro x (hx | ⟨j,c,a,q⟩)
  ·exact .inr hx
  ·exact .inl ⟨h.inc x (.inr ⟨j,c,a,q⟩),q▸g j c a⟩
 ·rintro x (hx | hx)
  ·cases e:H x with
   |none=>exact absurd e (h.al x hx.1)
   |some v=>rw[b.1 x v e (.inl hx.2)];simp
  ·exact f.al x hx
 ·rintro x (hx | hx)
  ·exact .inl hx.1
  ·exact(b.2 x hx).imp (λz=>h.inc x (.inl z)) id
def b2T {b:Addr}{xs:List V}{m:List ((Int ⊕ Str)×V)}{v:HO}(h:SqL K H a xs)(e:H b=some (.dK m)):SqL K (upd H b v) a xs:=by
 rcases h with (h | ⟨o,h⟩) | h
 ·exact .inl (.inl ((aH λq=>by rw[q,e]at h;cases h).trans h))
 ·exact .inl (.inr ⟨o,(aH λq=>by rw[q,e]at h;cases h).trans h⟩)
 ·exact .inr h
def c1X {m:List ((Int ⊕ Str)×V)}:¬ isT (.dK m):=λ⟨_,z⟩=>by cases z
def b0N {x:List Int}(b:as[i]? =some a)(c:xs[i]? =some x):(lsC as xs)[i]? =some (a,HO.lst (x.map V.int)):=by
 unfold lsC
 rw[List.getElem?_zipWith,b,c]
def qW (h:as.length=xs.length):(lsC as xs).length=xs.length:=by
 unfold lsC
 rw[List.length_zipWith,h,Nat.min_self]
def cU.sa_at {R:RS}{w:Rw}{xs:List Int}(h:cU C A H r R o w)(b:R.sa[i]? =some xs):∃a,w.sas[i]? =some a/\(lY C r w R)[i+7]? =some (a,.lst (xs.map V.int)):=by
 have d:i<R.sa.length:=(Ye.mp b).1
 have e:=h.l1
 have f:=h.l2
 have c:w.sas[i]? =some (w.sas[i]'(by lia)):=Yb (by lia)
 refine⟨_,c,?_⟩
 show (lsC w.sas R.sa++lsC w.hes R.he)[i]? =_
 rw[YF (by rw[qW (by lia)];exact d)]
 exact b0N c b
def cU.he_at {R:RS}{w:Rw}{xs:List Int}(h:cU C A H r R o w)(b:R.he[i]? =some xs):∃a,w.hes[i]? =some a/\(lY C r w R)[R.ps.length+i+7]? =some (a,.lst (xs.map V.int)):=by
 have d:i<R.he.length:=(Ye.mp b).1
 have e:=h.l1
 have f:=h.l2
 have g:=h.l3
 have j:=h.l4
 have c:w.hes[i]? =some (w.hes[i]'(by lia)):=Yb (by lia)
 refine⟨_,c,?_⟩
 show (lsC w.sas R.sa++lsC w.hes R.he)[R.ps.length+i]? =_
 have k:=qW (as:=w.sas) (xs:=R.sa) (by lia)
 rw[Yy (by lia),show R.ps.length+i-(lsC w.sas R.sa).length=i by lia]
 exact b0N c b
def a4F (b:as[i]? =some a):lsC as (xs.set i y)=(lsC as xs).set i (a,HO.lst (y.map V.int)):=by
 unfold lsC
 apply List.ext_getElem?
 intro j
 rw[List.getElem?_zipWith,Y7,Y7,List.getElem?_zipWith]
 by_cases q:i=j
 ·subst q
  have c:i<as.length:=(Ye.mp b).1
  rw[if_pos rfl,if_pos rfl,b,List.length_zipWith]
  by_cases z:i<xs.length
  ·rw[if_pos z,if_pos (by lia)]
  ·rw[if_neg z,if_neg (by lia)]
 ·rw[if_neg q,if_neg q]
def cU.say {R:RS}{w:Rw}{xs:List Int}(h:cU C A H r R o w)(d:R.sa[i]? =some xs)(f:w.sas[i]? =some a):cU C A (upd H a (.lst (xs.map V.int++[.int b]))) r { R with sa:=R.sa.set i (xs++[b]) } o w/\Mv o H o (upd H a (.lst (xs.map V.int++[.int b]))):=by
 obtain⟨l,c,e⟩:=h.sa_at d
 rw[f]at c
 cases c
 have g:i<R.sa.length:=(Ye.mp d).1
 have m:=h.l1
 have n:=h.l2
 have j:xs.map V.int++[V.int b]=(xs++[b]).map V.int:=by rw[Yn];rfl
 have eL:lsC w.sas (R.sa.set i (xs++[b]))++lsC w.hes R.he=(lsC w.sas R.sa++lsC w.hes R.he).set i (a,.lst ((xs++[b]).map V.int)):=by
  rw[List.set_append_left _ _ (by rw[qW (by lia)];exact g),a4F f]
 rw[j]
 refine h.put (k:=i+7) (w':=w) e b4N ?_ rfl rfl rfl rfl Y8 rfl rfl h.ev
 show (r,_)::(w.PL,_)::(w.OW,_)::(w.BO,_)::(w.SA,_)::(w.HE,_)::(w.EV,_)::(lsC w.sas (R.sa.set i (xs++[b]))++lsC w.hes R.he)=_
 rw[eL]
 rfl
def cU.hrd {R:RS}{w:Rw}{xs:List Int}(h:cU C A H r R o w)(d:R.he[i]? =some xs)(f:w.hes[i]? =some a):cU C A (upd H a (.lst (xs.map V.int++[.int b]))) r { R with he:=R.he.set i (xs++[b]) } o w/\Mv o H o (upd H a (.lst (xs.map V.int++[.int b]))):=by
 obtain⟨j,c,e⟩:=h.he_at d
 rw[f]at c
 cases c
 have l:i<R.he.length:=(Ye.mp d).1
 have m:=h.l1
 have n:=h.l2
 have g:xs.map V.int++[V.int b]=(xs++[b]).map V.int:=by rw[Yn];rfl
 have p:=qW (as:=w.sas) (xs:=R.sa) (by lia)
 have eL:lsC w.sas R.sa++lsC w.hes (R.he.set i (xs++[b]))=(lsC w.sas R.sa++lsC w.hes R.he).set (R.ps.length+i) (a,.lst ((xs++[b]).map V.int)):=by
  rw[List.set_append_right _ _ (by lia),show R.ps.length+i-(lsC w.sas R.sa).length=i by lia,a4F f]
 rw[g]
 refine h.put (k:=R.ps.length+i+7) (w':=w) e b4N ?_ rfl rfl rfl rfl rfl rfl Y8 h.ev
 show (r,_)::(w.PL,_)::(w.OW,_)::(w.BO,_)::(w.SA,_)::(w.HE,_)::(w.EV,_)::(lsC w.sas R.sa++lsC w.hes (R.he.set i (xs++[b])))=_
 rw[eL]
 rfl
def cU.bear {R:RS}{w:Rw}(h:cU C A H r R o w):cU C A (upd H w.BO (.lst (R.bo.map V.int++[.int b]))) r { R with bo:=R.bo++[b] } o w/\Mv o H o (upd H w.BO (.lst (R.bo.map V.int++[.int b]))):=by
 have a:R.bo.map V.int++[V.int b]=(R.bo++[b]).map V.int:=by rw[Yn];rfl
 rw[a]
 exact h.put (k:=3) (w':=w) rfl b4N rfl rfl rfl rfl rfl rfl rfl rfl h.ev
def cU.happen {R:RS}{w:Rw}{e:Nat×Nat×Str}(h:cU C A H r R o w)(a:H t=some (.tup [.int ((e.1:Nat):Int),.int ((e.2.1:Nat):Int),.str e.2.2])):cU C A (upd H w.EV (.lst (w.evs++[.ref t]))) r { R with ev:=R.ev++[e] } o { w with evs:=w.evs++[.ref t] }/\Mv o H o (upd H w.EV (.lst (w.evs++[.ref t]))):=
 h.put (k:=6) (w':={ w with evs:=w.evs++[.ref t] }) rfl b4N rfl rfl rfl rfl rfl rfl rfl rfl (h.ev.snoc a)
def a8I (C:Addr)(A:Cs)(b:Addr):Sp:=λa H Q E=>∃r R o w k,a= [.ref r,.int k]/\cU C A H r R o w/\(∀(i:Nat) p,k=(i:Int)->w.ps[i]? =some p->Q (.ref p) H)/\(¬ (0<=k/\k<((R.ps.length:Nat):Int))->∀H',Same H H'->False)
def a8L (K:W.Frag)(C:Addr)(A:Cs)(c d e:Addr):Sp:=λb H Q E=>∃r R o w k n a ds,b= [.ref r,.int k,.int n,.ref a]/\cU C A H r R o w/\SqL K H a (ds.map V.int)/\ds.length<=500/\R.ow.length<=900/\(∀S∈R.ps,S.wt.length<900)/\
 (¬ (0<=k/\k<((R.ps.length:Nat):Int))->∀H',Same H H'->False)/\((0<=k/\k<((R.ps.length:Nat):Int))->¬ qC n ds->∀H',Same H H'->False)/\
 (∀ (i:Nat) S,k=(i:Int)->R.ps[i]? =some S->qC n ds->∃j:Int,(iH R.ow (.inl n)).getD (.int (i:Int))= .int j/\(j≠(i:Int)->∀H',Same H H'->False)/\
  (j=(i:Int)->∀H' o',mR C A H' r { R with ps:=R.ps.set i { S with wt:=S.wt++[(n.toNat,ds)] },ow:=putK R.ow (.inl n) (.int (i:Int)) } o'->Mv o H o' H'->Q .non H'))
def evt (t n:Nat)(w:Str):List (Nat×Nat×Str):=if w="" then [] else [(t,n,w)]
def uA (R R':RS)(n:Nat)(S:PS)(b:Int)(x y:List Int):RS:=
 { R' with ps:=R'.ps.set n (aW S b).2,sa:=R'.sa.set n (x++[bI S]),he:=R'.he.set n (y++[b]),ev:=R'.ev++evt R.bo.length n (aW S b).1 }
def bB (R:RS)(hs:List Int):Nat->RS
 |0=>R
 | n+1=>match R.ps[n]?,hs[n]?,R.sa[n]?,R.he[n]? with
  |some S,some b,some x,some y=>uA R (bB R hs n) n S b x y
  |_,_,_,_=>bB R hs n
def oA (R:RS)(a:List Int)(b:Int):RS:={ bB R a R.ps.length with bo:=R.bo++[b] }
def jX {R:RS}{x:List Int}(e1:R.ps[n]? =some S)(e2:hs[n]? =some b)(e3:R.sa[n]? =some x)(e4:R.he[n]? =some y):bB R hs (n+1)=uA R (bB R hs n) n S b x y:=by
 show (match R.ps[n]?,hs[n]?,R.sa[n]?,R.he[n]? with
  |some S,some b,some x,some y=>uA R (bB R hs n) n S b x y
  |_,_,_,_=>bB R hs n)=_
 rw[e1,e2,e3,e4]
theorem jY (R:RS)(hs:List Int):∀n:Nat,(bB R hs n).bo=R.bo/\(bB R hs n).ow=R.ow/\(bB R hs n).ps.length=R.ps.length/\(bB R hs n).sa.length=R.sa.length/\(bB R hs n).he.length=R.he.length/\(∀j,n<=j->(bB R hs n).ps[j]? =R.ps[j]?/\(bB R hs n).sa[j]? =R.sa[j]?/\(bB R hs n).he[j]? =R.he[j]?)/\(bB R hs n).ev.length<=R.ev.length+n
 |0=>⟨rfl,rfl,rfl,rfl,rfl,λ_ _=>⟨rfl,rfl,rfl⟩,Yd _⟩
 | n + 1 => by
  obtain⟨h1,h2,h3,h4,h5,h6,h7⟩:=jY R hs n
  have go :(bB R hs (n+1)=bB R hs n)\/∃S b x y,bB R hs (n+1)=uA R (bB R hs n) n S b x y:=by
   cases e1:R.ps[n]? with
   |none=>left;show (match R.ps[n]?,hs[n]?,R.sa[n]?,R.he[n]? with | some S,some b,some x,some y=>uA R (bB R hs n) n S b x y | _,_,_,_=>bB R hs n)=_;rw[e1]
   | some S=>
    cases e2:hs[n]? with
    |none=>left;show (match R.ps[n]?,hs[n]?,R.sa[n]?,R.he[n]? with | some S,some b,some x,some y=>uA R (bB R hs n) n S b x y | _,_,_,_=>bB R hs n)=_;rw[e1,e2]
    | some b=>
     cases e3:R.sa[n]? with
     |none=>left;show (match R.ps[n]?,hs[n]?,R.sa[n]?,R.he[n]? with | some S,some b,some x,some y=>uA R (bB R hs n) n S b x y | _,_,_,_=>bB R hs n)=_;rw[e1,e2,e3]
     | some x=>
      cases e4:R.he[n]? with
      |none=>left;show (match R.ps[n]?,hs[n]?,R.sa[n]?,R.he[n]? with | some S,some b,some x,some y=>uA R (bB R hs n) n S b x y | _,_,_,_=>bB R hs n)=_;rw[e1,e2,e3,e4]
      |some y=>exact .inr ⟨S,b,x,y,jX e1 e2 e3 e4⟩
  rcases go with e | ⟨S,b,x,y,e⟩
  ·rw[e];exact⟨h1,h2,h3,h4,h5,λj hj=>h6 j (by lia),by lia⟩
  ·rw [e]
   refine⟨h1,h2,?_,?_,?_,λj hj=>⟨?_,?_,?_⟩,?_⟩
   ·show ((bB R hs n).ps.set n _).length=_;rw[Y8];exact h3
   ·show ((bB R hs n).sa.set n _).length=_;rw[Y8];exact h4
   ·show ((bB R hs n).he.set n _).length=_;rw[Y8];exact h5
   ·show ((bB R hs n).ps.set n _)[j]? =_;rw[Xd (by lia)];exact(h6 j (by lia)).1
   ·show ((bB R hs n).sa.set n _)[j]? =_;rw[Xd (by lia)];exact(h6 j (by lia)).2.1
   ·show ((bB R hs n).he.set n _)[j]? =_;rw[Xd (by lia)];exact(h6 j (by lia)).2.2
   ·show ((bB R hs n).ev++evt _ _ _).length<=_
    rw[Yc]
    have:(evt R.bo.length n (aW S b).1).length<=1:=by unfold evt;split <;> simp
    lia
def b6R (ns:List Int)(b:Int):Prop:=b∈ns/\∀z∈ns,b<=z
structure SzR (R:RS):Prop where
 bo:R.bo.length<990
 sa:∀x∈R.sa,x.length<990
 he:∀x∈R.he,x.length<990
 ev:R.ev.length<8000
 up:∀S∈R.ps,S.up.length<900
def a8J (K:W.Frag)(C:Addr)(A:Cs)(a:Addr->List V->Hp->VK->Prop):Sp:=λc H Q _=>∃r R o w f,∃hs:Int->Nat->Int,c= [.ref r,.ref f]/\cU C A H r R o w/\R.ps≠ []/\SzR R/\(∀b,b6R (R.ps.map bI) b->(∀i,i<R.ps.length->∀H1,Same H H1->FnE K H1 f/\∀Q1:VK,(∀H2,Same H1 H2->Q1 (.int (hs b i)) H2)->a f [.int ((i:Nat):Int),.int ((R.bo.length:Nat):Int),.int b] H1 Q1)/\(∀i,hs b i=0\/hs b i=1)/\
 ∀H' o',mR C A H' r (oA R ((List.range R.ps.length).map (hs b)) b) o'->Mv o H o' H'->Q (.int b) H')
def oO {L2:List (Addr×HO)}{c0 c:Addr×HO}(z:(L1++c0::L2)[j]? =some c):(j=L1.length/\c=c0)\/(j<L1.length/\(L1++L2)[j]? =some c)\/(L1.length<j/\(L1++L2)[j-1]? =some c):=by
 by_cases k:j<L1.length
 ·rw[YF k]at z
  exact .inr (.inl ⟨k,by rw[YF k];exact z⟩)
 ·rw[Yy (by lia)]at z
  cases e:j-L1.length with
  |zero=>rw[e]at z;exact .inl ⟨by lia,(Yp z).symm⟩
  |succ m=>rw[e]at z;exact .inr (.inr ⟨by lia,by rw[Yy (by lia),show j-1-L1.length=m by lia];exact z⟩)
def eZ.ins {L2:List (Addr×HO)}{h:HO}(b:eZ H (L1++L2))(n:H a=none):eZ (upd H a h) (L1++(a,h)::L2):=by
 have ne:∀(j:Nat)(c:Addr×HO),(L1++L2)[j]? =some c->c.1≠a:=λj c z q=>by have:=b.at_ j c z;rw[q,n]at this;cases this
 refine⟨λj c z=>?_,λj k c d z y q=>?_⟩
 ·rcases oO z with ⟨_,rfl⟩ | ⟨_,z⟩ | ⟨_,z⟩
  ·exact aB
  ·rw[aH (ne _ c z)];exact b.at_ _ c z
  ·rw[aH (ne _ c z)];exact b.at_ _ c z
 ·rcases oO z with ⟨e,rfl⟩ | ⟨e,z⟩ | ⟨e,z⟩ <;> rcases oO y with ⟨f,rfl⟩ | ⟨f,y⟩ | ⟨f,y⟩
  ·lia
  ·exact absurd q.symm (ne _ d y)
  ·exact absurd q.symm (ne _ d y)
  ·exact absurd q (ne _ c z)
  ·exact b.ap _ _ c d z y q
  ·have:=b.ap _ _ c d z y q;lia
  ·exact absurd q (ne _ c z)
  ·have:=b.ap _ _ c d z y q;lia
  ·have:=b.ap _ _ c d z y q;lia
structure Mk0 (A:Cs)(H0:Hp)(a:Addr)(H:Hp)(L:List (Addr×HO))(ps:List Addr)(Ss:List PS)(op:Own):Prop where
 cs:eZ H L
 po:kE A H ps Ss op
 dj:∀x,op x->∀(j:Nat)(c:Addr×HO),L[j]? =some c->c.1≠x
 nw:∀(j:Nat)(c:Addr×HO),L[j]? =some c->c.1=a\/H0 c.1=none
 npo:∀x,op x->H0 x=none
 kp:∀x u,x≠a->H0 x=some u->H x=some u
 ha:H a≠none
def wU {c0 c:Addr×HO}(z:[c0][j]? =some c):j=0/\c=c0:=by
 cases j with
 |zero=>exact⟨rfl,(Yp z).symm⟩
 |succ j=>cases z
def Mk0.base {v:HO}(e:H a=some v):Mk0 A H a H [(a,v)] [] [] (λ_=>False):=by
 refine⟨⟨λj c z=>?_,λi j c d z y q=>?_⟩,λx b=>b.elim,λx b=>b.elim,λj c z=>?_,λx b=>b.elim,λx u _ q=>q,by rw[e];simp⟩
 ·obtain⟨_,rfl⟩:=wU z
  exact e
 ·rw[(wU z).1,(wU y).1]
 ·obtain⟨_,rfl⟩:=wU z
  exact .inl rfl
section
variable {q:Addr}{L2:List (Addr×HO)}{ps:List Addr}{Ss:List PS}{op:Own}{v:HO}
def Mk0.non0 (h:Mk0 A H0 a H L ps Ss op)(n:H q=none):H0 q=none:=by
 cases e:H0 q with
 |none=>rfl
 | some u=>
  by_cases z:q=a
  ·exact absurd (z▸n) h.ha
  ·rw[h.kp q u z e]at n;cases n
def Mk0.ins (h:Mk0 A H0 a H (L1++L2) ps Ss op)(n:H q=none):Mk0 A H0 a (upd H q v) (L1++(q,v)::L2) ps Ss op:=by
 have d:=h.non0 n
 refine⟨h.cs.ins n,h.po.same (aK n v),λx b j c z y=>?_,λj c z=>?_,h.npo,λx u b e=>?_,?_⟩
 ·rcases oO z with ⟨_,rfl⟩ | ⟨_,z⟩ | ⟨_,z⟩
  ·exact h.po.al x b (y▸n)
  ·exact h.dj x b _ c z y
  ·exact h.dj x b _ c z y
 ·rcases oO z with ⟨_,rfl⟩ | ⟨_,z⟩ | ⟨_,z⟩
  ·exact .inr d
  ·exact h.nw _ c z
  ·exact h.nw _ c z
 ·exact aK n v _ _ (h.kp x u b e)
 ·have:=h.ha
  cases e:H a with
  |none=>exact absurd e this
  |some u=>rw[aK n v _ _ e];simp
def Mk0.put (h:Mk0 A H0 a H ((a,v)::L) ps Ss op)(nT:¬ isT v):Mk0 A H0 a (upd H a v') ((a,v')::L) ps Ss op:=by
 have e:H a=some v:=h.cs.at_ 0 _ rfl
 have d:∀(j:Nat)(c:Addr×HO),((a,v')::L)[j]? =some c->∃b,((a,v)::L)[j]? =some b/\b.1=c.1:=λj c z=>by
  cases j with
  |zero=>cases z;exact⟨_,rfl,rfl⟩
  |succ j=>exact⟨c,z,rfl⟩
 refine⟨h.cs.put (i:=0) rfl v',h.po.move λx u f z=>?_,λx g j c z y=>?_,λj c z=>?_,h.npo,λx u g f=>?_,by rw[aB];simp⟩
 ·rw [aH λy=>?_]
  ·exact f
  ·rcases z with z | z
   ·exact h.dj x z 0 _ rfl y.symm
   ·rw[y,e]at f;cases f;exact nT z
 ·obtain⟨b,k,l⟩:=d j c z
  exact h.dj x g j b k (l.trans y)
 ·obtain⟨b,k,l⟩:=d j c z
  rw[<-l]
  exact h.nw j b k
 ·rw[aH g];exact h.kp x u g f
def Mk0.post {w:HO}(h:Mk0 A H0 a H L ps Ss op)(hp:H p=none)(hdp:H dp=none)(hP:bZ A H' p S o)(hin:∀x,o x->x=p\/upd (upd H dp (.own p)) p w x=none)(hk:∀x u,x≠p->upd (upd H dp (.own p)) p w x=some u->H' x=some u):Mk0 A H0 a H' L (ps++[p]) (Ss++[S]) (Or2 op o):=by
 obtain⟨d,g⟩:=b3Y (Vd H) hp hdp hP hin hk
 have b:∀x,o x->H x=none:=λx hx=>d.fr x hx
 refine⟨h.cs.same g,h.po.snoc hP g b,λx hx j c z y=>?_,h.nw,λx hx=>?_,λx u hx e=>g _ _ (h.kp x u hx e),?_⟩
 ·rcases hx with hx | hx
  ·exact h.dj x hx j c z y
  ·have:=h.cs.at_ j c z
   rw[y,b x hx]at this;cases this
 ·rcases hx with hx | hx
  ·exact h.npo x hx
  ·exact h.non0 (b x hx)
 ·have:=h.ha
  cases e:H a with
  |none=>exact absurd e this
  |some u=>rw[g _ _ e];simp
end
def a0C {q:Addr}(n:Nat)(h:as.length=n):lsC (as++[q]) (List.replicate (n+1) [])=lsC as (List.replicate n [])++[(q,.lst [])]:=by
 unfold lsC
 rw[Xj,List.zipWith_append (by rw[YA];exact h)]
 rfl
def R0 (a:List (Int×Int))(v:Int):RS:={ ps:=a.map λm=>S0 m.1.toNat m.2.toNat v.toNat,ow:=[],bo:=[],sa:=List.replicate a.length [],he:=List.replicate a.length [],ev:=[] }
def Mk0.fin {i k l m n p:Addr}{ps e f:List Addr}{op:Own}{b:List (Int×Int)}{v:Int}(h:Mk0 A H0 a H (lY C a ⟨dx,i,k,l,m,n,p,ps,e,f, [],op⟩ (R0 b v)) ps (R0 b v).ps op)(l1:e.length=b.length)(l2:f.length=b.length)(q:b.length<=5):∃o,mR C A H a (R0 b v) o/\∀x,o x->x=a\/H0 x=none:=by
 have g:(R0 b v).ps.length=b.length:=Ya ..
 refine⟨λx=>op x\/∃(j:Nat)(c:Addr×HO),(lY C a ⟨dx,i,k,l,m,n,p,ps,e,f, [],op⟩ (R0 b v))[j]? =some c/\c.1=x,⟨_,h.cs,h.po,.nil,by rw[g];exact l1,by rw[g];exact YA ..,by rw[g];exact l2,by rw[g];exact YA ..,by rw[g];exact q,h.dj,λx d=>d,λx d=>?_⟩,λx d=>?_⟩
 ·rcases d with d | ⟨j,c,z,rfl⟩
  ·exact h.po.al x d
  ·rw[h.cs.at_ j c z];simp
 ·rcases d with d | ⟨j,c,z,rfl⟩
  ·exact .inr (h.npo x d)
  ·exact h.nw j c z
def a1A (H:Hp)(cl:Addr)(a:List (Int×Int)):Prop:=∃ts:List Addr,H cl=some (.lst (ts.map V.ref))/\ts.length=a.length/\∀(i:Nat)(t:Addr)(m:Int×Int),ts[i]? =some t->a[i]? =some m->H t=some (.tup [.int m.1,.int m.2])
def a1A.keep {cl:Addr}{a:List (Int×Int)}(h:a1A H cl a)(g:∀x u,(x=cl\/isT u)->H x=some u->H' x=some u):a1A H' cl a:=by
 obtain⟨b,c,d,e⟩:=h
 exact⟨b,g _ _ (.inl rfl) c,d,λi t m z y=>g _ _ (.inr ⟨_,rfl⟩) (e i t m z y)⟩
def a8K (C:Addr)(A:Cs)(c:Addr):Sp:=λb H Q E=>∃a dx cl v ms,b= [.ref a,.ref cl,.int v]/\H a=some (.ins C dx [])/\a1A H cl ms/\ms.length<=500/\
 (((1<=ms.length/\ms.length<=5)/\∀m∈ms,a7E m.1 m.2 v)->∀H' o,mR C A H' a (R0 ms v) o->(∀x,o x->x=a\/H x=none)->(∀x u,x≠a->H x=some u->H' x=some u)->Q .non H')/\
 (¬ ((1<=ms.length/\ms.length<=5)/\∀m∈ms,a7E m.1 m.2 v)->∀H':Hp,(∀x u,x≠a->H x=some u->H' x=some u)->False)
def b7X (wf:Wf S):bI S=0\/bI S=1:=by
 have a:=wf.now
 have b:bI S=bI S:=rfl
 conv at b=>rhs;unfold bI
 rw[b]
 cases en:S.now with
 | speaks n ds k=>
  rw[en]at a
  dsimp only
  rw[Yf,Yb a.2.2.1]
  exact(lD a.1).wbits _ (YE _)
 |tlR n ds v c=>dsimp only;unfold fH;split <;> first | exact .inl rfl | exact .inr rfl
 |tlS v c=>dsimp only;unfold fH;split <;> first | exact .inl rfl | exact .inr rfl
 |free k=>dsimp only;(repeat' split) <;> first | exact .inl rfl | exact .inr rfl
 |flag l m=>exact .inl rfl
 |reads h=>exact .inr rfl
 |settles m=>exact .inr rfl
 |rests l=>exact .inr rfl
 |off=>exact .inr rfl
def a0V (R:RS):Int:=if (0:Int)∈R.ps.map bI then 0 else 1
def a6N {ns:List Int}(h:∀z∈ns,z=0\/z=1)(l:b6R ns b):b=if (0:Int)∈ns then 0 else 1:=by
 by_cases c:(0:Int)∈ns
 ·rw[if_pos c]
  have:=l.2 0 c
  rcases h b l.1 with z | z <;> lia
 ·rw[if_neg c]
  rcases h b l.1 with z | z
  ·exact absurd (z▸l.1) c
  ·exact z
def cU.says54 {R:RS}{w:Rw}(h:cU C A H r R o w)(a:b∈R.ps.map bI):b=0\/b=1:=by
 obtain⟨S,c,rfl⟩:=YW.mp a
 obtain⟨i,d,e⟩:=X3 c
 obtain⟨p,g,_,f⟩:=h.at (i:=i) (S:=S) (by rw[Yb d,e])
 exact b7X f.wf
def BmK (K:W.Frag)(bm:Addr):Prop:=W.nsIn K mainGlobals "__builtins__"=some (some (.ref bm))/\bm≠builtinsNs/\bm≠mainGlobals/\∃sl,K.lookup bm=some ⟨.type "module",some builtinsNs,.plain,sl⟩
def BmK.bm {h:Heap}{bm:Addr}(X:K.In h)(G:h.Ns mainGlobals mg)(z:BmK K bm):Bm K mg bm:=by
 obtain⟨a,b,c,e,d⟩:=z
 exact⟨W.mg_of X G a,b,c,_,d,rfl,rfl,rfl⟩
abbrev sH:Stmt:=(fD Zg4).getD 2 (.Pass ⟨0,0,0,0⟩)
def c1N (s:Stmt):Pos:=match s with
 |.FunctionDef _ _ _ _ _ _ _ _ _ p=>p
 |_=>⟨0,0,0,0⟩
abbrev tZ:Pos:=c1N sH
abbrev iqH:Str:=("ear":Str)++".<locals>."++"heard"
def clH {L c:Addr}{f:Addr}(h:(PyProof.Rows.envOfC "ear" (aZ Zg4) L f cd).cells.lookup (Str.ofString "kept")=some c):closureFor (aZ sH) (PyProof.Rows.envOfC "ear" (aZ Zg4) L f cd)=pure [(Str.ofString "kept",c)]:=by
 have e:(PyProof.Rows.envOfC "ear" (aZ Zg4) L f cd).cells.lookup (Str.ofString "kept")=some (L+1):=rfl
 rw[e]at h
 cases h
 rfl
def scH:yD ["post","turn","bit","kept"] ["post","turn","bit"] ["kept"] (aZ sH):=⟨rfl,rfl,rfl,by decide +kernel,rfl,by decide +kernel,by decide +kernel,by decide +kernel⟩
inductive PrT (H:Hp):List Addr->List (Int×Int)->Prop
 |nil:PrT H [] []
 |cons {q:Addr} {p:Int×Int} {qs:List Addr} {ps:List (Int×Int)}:H q=some (.tup [.int p.1,.int p.2])->PrT H qs ps->PrT H (q::qs) (p::ps)
theorem PrT.prs:∀{qs:List Addr}{ps:List (Int×Int)},PrT H qs ps->b5Q K H qs ps
 |_,_,.nil=> .nil
 |_,_,.cons h t=> .cons (Vc h) (PrT.prs t)
theorem PrT.mono (g:∀b xs,H b=some (.tup xs)->H' b=some (.tup xs)):∀{qs:List Addr}{ps:List (Int×Int)},PrT H qs ps->PrT H' qs ps
 |_,_,.nil=> .nil
 |_,_,.cons h t=> .cons (g _ _ h) (PrT.mono g t)
def PrT.same {a:List Addr}(h:PrT H a ps)(g:Same H H'):PrT H' a ps:=h.mono λb _ e=>g b _ e
theorem PrT.len:∀{qs:List Addr}{ps:List (Int×Int)},PrT H qs ps->qs.length=ps.length
 |_,_,.nil=>rfl
 |_,_,.cons _ t=>by rw[Yo,Yo,PrT.len t]
theorem PrT.get:∀{qs:List Addr}{ps:List (Int×Int)},PrT H qs ps->∀{i:Nat}{q:Addr},qs[i]? =some q->∃p,ps[i]? =some p/\H q=some (.tup [.int p.1,.int p.2])
 |_,_,.nil,i,q,h=>by simp at h
 | _,_,.cons (p:=p) h t,0,q,e=>by
  cases (Yp e)
  exact⟨p,rfl,h⟩
 |_,_,.cons h t,i+1,q,e=>PrT.get t e
def kyP (p:Int×Int):List Key:=[.inl p.1,.inl p.2]
def kvP (ps:List (Int×Int)):List (List Key×V):=ps.foldl (λa p=>putK a (kyP p) (.bl true)) []
def b0O (ps:List (Int×Int))(p:Int×Int):kvP (ps++[p])=putK (kvP ps) (kyP p) (.bl true):=by unfold kvP;rw[Xb];rfl
def b0P (ps:List (Int×Int)):∀kvs:List (List Key×V),(ps.foldl (λkvs p=>putK kvs (kyP p) (.bl true)) kvs).length<=kvs.length+ps.length/\∀p:Int×Int,(iH (ps.foldl (λkvs p=>putK kvs (kyP p) (.bl true)) kvs) (kyP p)).isSome=(decide (p∈ps) || (iH kvs (kyP p)).isSome):=by
 induction ps with
 |nil=>intro kvs;exact⟨Yd _,λp=>by simp⟩
 | cons q r ih=>
  intro kvs
  obtain⟨b,a⟩:=ih (putK kvs (kyP q) (.bl true))
  rw[Y0]
  refine⟨?_,λp=>?_⟩
  ·have:=mL kvs (kyP q) (.bl true)
   rw[Yo]
   lia
  ·rw [a p,yH]
   by_cases e:p=q
   ·subst e
    rw[if_pos rfl]
    simp
   ·rw [if_neg λz=>e (by
     unfold kyP at z
     obtain⟨c,d⟩:=p
     obtain⟨f,g⟩:=q
     simp only[List.cons.injEq,Sum.inl.injEq,and_true]at z
     rw[z.1,z.2])]
    have:decide (p∈q::r)=decide (p∈r):=by
     rw[X8,Jd,Jd,YL]
     exact⟨λz=>z.resolve_left e,.inr⟩
    rw[this]
def b4S (ps:List (Int×Int)):(kvP ps).length<=ps.length:=by have:=(b0P ps []).1;rw[List.length_nil]at this;unfold kvP;lia
def b4R (ps:List (Int×Int))(p:Int×Int):(iH (kvP ps) (kyP p)).isSome=decide (p∈ps):=by
 have:=(b0P ps []).2 p
 unfold kvP
 rw[this,a7N]
 simp
def qH (H:Hp)(g:Addr)(ps:List (Int×Int)):Prop:=∃c c' d,H g=some (FnO g sH iqH [("kept",c)] c')/\H c'=some (kW c' iqH)/\H c=some (jZ c (.ref d))/\H d=some (.dT (kvP ps))
def qH.same {g:Addr}(h:qH H g ps)(k:Same H H'):qH H' g ps:=by
 obtain⟨c,a,d,b,e,f,i⟩:=h
 exact⟨c,a,d,k _ _ b,k _ _ e,k _ _ f,k _ _ i⟩
def pY.same {P:Addr}{pos:Pos}{qual:Str}(h:pY P pos qual H)(k:Same H H'):pY P pos qual H':=by
 obtain⟨c,d,e,f⟩:=h
 exact⟨c,k _ _ d,e,f.imp id λ⟨g,a,b⟩=>⟨g,a,k _ _ b⟩⟩
def c1G:Addr->List V->Hp->VK->Prop:=λg c H Q=>∃(a b x:Int)(ps:List (Int×Int)),c= [.int a,.int b,.int x]/\qH H g ps/\∀H',Same H H'->Q (.int (if (a,b)∈ps then 1-x else x)) H'
def a1Z {P:Program}{w:World}{base:Heap}:b6Q P w K mg base 2 c1G:=by
 rintro f A i s H J L Q u y r ⟨a,b,x,h,rfl,⟨c,M,d,B,C,p,j⟩,q⟩
 refine c0G (k:=1) (N:=["post","turn","bit","kept"]) (ws:=[.ref d]) scH u y B C ⟨rfl,by simp,.cons p .nil⟩ rfl r (λD O E=> .of_eq ?_) λl=>⟨_,(aF (aM (cR (fJ (b8F (b8N (a4L l) (cH (aA (dv 0) (aA (dv 1) aC))) (dv 3)) rfl) (aR lB aG (dv 2)) (dv 2))))),?_⟩
 ·rcases r with _ | ⟨R,r⟩
  rcases r with _ | ⟨S,r⟩
  rcases r with _ | ⟨T,r⟩
  cases r
  rfl
 have F:d≠c:=λz=>by rw[z,p]at j;cases j
 have hd:nU H [c] d=some (.dT (kvP h)):=by rw[eQ (by simpa using F)];exact j
 refine⟨λv m=>v= .int (if (a,b)∈h then 1-x else x)/\Same (nU H [c]) m,?_,?_⟩
 ·refine⟨aO rfl,λt G=>?_⟩
  have g:=aK G (.tup [.int a,.int b])
  have I:=aB (H:=nU H [c]) (a:=t) (o:= .tup [.int a,.int b])
  have n:=g _ _ hd
  refine⟨d,_,rfl,.inr ⟨kvP h,kyP (a,b),t,.inl n,rfl,I,rfl⟩,_,rfl,?_⟩
  rw[b4R]
  by_cases hm:(a,b)∈h
  ·rw[Yq hm,if_pos hm]
   exact c4N ⟨rfl,g⟩
  ·rw[Yu hm,if_neg hm]
   exact a0E ⟨rfl,g⟩
 ·rintro v m ⟨rfl,g⟩
  refine q _ λz o e=>?_
  show xU H m [c] z=some o
  by_cases hz:z∈ [c]
  ·rw[a5B hz];exact e
  ·rw[jF hz];exact g z o (by rw[eQ hz];exact e)
def a8W (C:Addr)(A:Cs)(b:Addr)(g:PS->Hp->VK->Prop):Sp:=λa H Q E=>∃r R o w k,a= [.ref r,.int k]/\cU C A H r R o w/\(∀(i:Nat) S,k=(i:Int)->R.ps[i]? =some S->g S H Q)/\(¬ (0<=k/\k<((R.ps.length:Nat):Int))->∀H',Same H H'->False)
def b9R:PS->Hp->VK->Prop:=λS H Q=>S.wt.length<=900/\∀l xs H',H l=none->Same H H'->H' l=some (.lst xs)->fK H H' xs S.wt->Q (.ref l) H'
def c4S:PS->Hp->VK->Prop:=λS H Q=>S.up.length<=900/\∀l xs H',H l=none->Same H H'->H' l=some (.lst xs)->fK H H' xs S.up->Q (.ref l) H'
structure Row where
 (st:Str) (k:Nat) (said bit:Int) (w:Str) (c:Int)
structure Tn (S:PS)(r:Row)(S':PS):Prop where
 sh:S.now.shown=(r.st,r.k)
 sa:bI S=r.said
 bt:r.bit=0\/r.bit=1
 hr:aW S r.bit=(r.w,S')
 ct:S'.tot=r.c
def c0Y (e:S.now= .speaks n ds k)(f:FrN (n,ds))(a:k<(wr n ds).length):Tn S ⟨"speaks",k,(wr n ds).getD k 0,(wr n ds).getD k 0,"",S.tot⟩ { S with now:=if k+1=(wr n ds).length then .tlS 0 0 else .speaks n ds (k+1) }:=by
 have W:=lD f
 have b:(wr n ds).getD k 0=(wr n ds)[k]:=getD_get a
 have g:(wr n ds).take k++[(wr n ds).getD k 0]=(wr n ds).take (k+1):=by rw[b,Yg a]
 refine⟨by rw[e];rfl,by unfold bI;rw[e],?_,?_,rfl⟩
 ·show (wr n ds).getD k 0=0\/(wr n ds).getD k 0=1
  rw[b]
  exact W.wbits _ (YE a)
 show aW S ((wr n ds).getD k 0)=_
 rw[bG e,g]
 have h:¬ ans ((wr n ds).take (k+1))="six":=by
  by_cases c:k+1=(wr n ds).length
  ·rw[c,Yi (Yd _),W.whole];decide +kernel
  ·rw[W.more (by lia)];decide +kernel
 rw[if_neg h,if_neg (by rintro ⟨i,d,_⟩;rw[i]at d;exact absurd d (by decide)),if_pos rfl]
 by_cases c:k+1=(wr n ds).length
 ·rw[if_pos c,if_pos c]
 ·rw[if_neg c,if_neg c]
structure Part (w1 w2:List Int)(k:Nat):Prop where
 tk:w1.take k=w2.take k
 h1:k<w1.length
 one:w1.getD k 0=1
 zero:w2.getD k 0=0
 k1:1<=k
 k16:k<=16
 nine:(kp (w1.take k)).length<9
def a9S {c a d:List Int}(e:c≠ [])(j:c.length<=8):Part (put (c++1::a)) (put (c++0::d)) (put c).length:=by
 obtain⟨f,h⟩:=Wm.put_pre c 1 a
 obtain⟨k,i⟩:=Wm.put_pre c 0 d
 have l:=kJ c
 have m:1<=c.length:=Jt.mpr e
 have t:∀(b:Int)(s:List Int),(put c++b::s).take (put c).length=put c:=λb s=>by rw[Y3 (Yd _),Yi (Yd _)]
 have g:∀(b:Int)(s:List Int),(put c++b::s).getD (put c).length 0=b:=λb s=>by rw[Yf,Yy (Yd _),X1];rfl
 rw[h,i]
 refine⟨by rw[t,t],by rw[Yc];show _<_+(f.length+1);lia,g _ _,g _ _,by lia,by lia,?_⟩
 rw[t,xF]
 lia
def b2I {g s:Nat}{d:List Int}(i:s<8)(h:∀j,s<j->n1.testBit j=g.testBit j)(l:n1.testBit s=true)(m:g.testBit s=false):∃k,Part (wr n1 ds1) (wr g d) k:=by
 obtain⟨c,o,p,q,u,A⟩:=Wm.bitsI_split i h l m
 have f:∀(n:Nat)(a:List Int)(b:Int)(t:List Int),bO n 8=c++b::t->∃r,fb (n:Int) a=(0::c)++b::r:=λn a b t e=>by
  refine⟨t++bO a.length 3++(a.map b8).flatten++ck (hd (n:Int) a),?_⟩
  have v:hd (n:Int) a= [0]++b8 (n:Int)++bO a.length 3++(a.map b8).flatten:=rfl
  have w:b8 (n:Int)=c++b::t:=by unfold b8;rw[YR];exact e
  show hd (n:Int) a++ck (hd (n:Int) a)=_
  generalize ck (hd (n:Int) a)=z
  rw[v,w]
  simp only[Ys,List.cons_append,List.nil_append]
 obtain⟨B,x⟩:=f n1 ds1 1 o q
 obtain⟨C,y⟩:=f g d 0 p u
 refine⟨(put (0::c)).length,?_⟩
 show Part (put (fb (n1:Int) ds1)) (put (fb (g:Int) d)) _
 rw[x,y]
 exact a9S (by intro z;cases z) (by rw[Yo];lia)
theorem a3H:∀(k a b:Nat),a<2 ^ k->b<a->∃s,s<k/\(∀j,s<j->a.testBit j=b.testBit j)/\a.testBit s=true/\b.testBit s=false
 |0,a,b,h,h2=>by rw[Nat.pow_zero]at h;lia
 | k + 1,a,b,h,h2=>by
  rw[Xw]at h
  by_cases c:b / 2<a / 2
  ·obtain⟨s,s1,s2,s3,s4⟩:=a3H k (a / 2) (b / 2) (by lia) c
   refine⟨s+1,by lia,λj hj=>?_,by rw[XH];exact s3,by rw[XH];exact s4⟩
   cases j with
   |zero=>lia
   |succ j=>rw[XH,XH];exact s2 j (by lia)
  ·have e:a / 2=b / 2:=by lia
   refine⟨0,by lia,λj hj=>?_,?_,?_⟩
   ·cases j with
    |zero=>lia
    |succ j=>rw[XH,XH,e]
   ·rw[Nat.testBit_zero];exact Yq (by lia)
   ·rw[Nat.testBit_zero];exact Yu (by lia)
def c0R (w:List Int):Prop:=Good w->lN (kp w)->rst (kp w)≠0
def a0J {n:Nat}(m:n<256)(o:ds.length<=7){t:Nat}(d:t<(put (fb (n:Int) ds)).length):c0R ((put (fb (n:Int) ds)).set t (1-(put (fb (n:Int) ds))[t])):=by
 have fl:=kY (n:Int) ds
 have a:=nD (n:Int) ds
 have e:=oH a
 have g:=lF (fb (n:Int) ds)
 have h:=xF (fb (n:Int) ds)
 have p:=(b1C (ds:=ds) m o).2.2
 generalize put (fb (n:Int) ds)=w at d e g h
 have i:w=w.take t++w[t]::w.drop (t+1):=by
  rw[<-X2 d,Jl]
 have q:w.set t (1-w[t])=w.take t++(1-w[t])::w.drop (t+1):=List.set_eq_take_append_cons_drop.trans (if_pos d)
 intro j k l
 rw[q]at j k l
 have c:=Wm.turned (A:=w.take t) (B:=w.drop (t+1)) (b:=w[t]) (e _ (YE d)) (λz f=>e z (XZ f)) (by rw[<-i];exact g) j (λz f=>e z (Y1 f))
 rw[<-i,h]at c
 have r:=k.2
 refine Wm.Df.seen a (by lia) c p ?_ l
 rw[r]
 lia
def a0K {n:Nat}(m:n<256)(o:ds.length<=7)(p:k<=5)(e:(put (fb (n:Int) ds)).take (k+1)=0::List.replicate k 1)(d:k+1<(put (fb (n:Int) ds)).length)(f:(put (fb (n:Int) ds))[k+1]=0):c0R ((put (fb (n:Int) ds)).drop (k+1)):=by
 have fl:=kY (n:Int) ds
 have a:=nD (n:Int) ds
 have g:=oH a
 have h:=lF (fb (n:Int) ds)
 have b:=xF (fb (n:Int) ds)
 have q:=(b1C (ds:=ds) m o).2.2
 generalize put (fb (n:Int) ds)=w at d g h b e f
 have i:w.drop (k+1)=0::w.drop (k+1+1):=by rw[X2 d,f]
 have c:(0::List.replicate k 1)++0::w.drop (k+1+1)=w:=by rw[<-e,<-i,Jl]
 intro r j l
 rw[i]at r j l
 have s:=j.2
 refine Wm.missed (k:=k) (B:=w.drop (k+1+1)) p (λz t=>g z (XZ t)) (by rw[c];exact h) (by rw[c,b];exact a) (by rw[c,b];lia) (by rw[c,b];exact q) (by rw[c,b,s];lia) l
def uW (a:Good w)(e:w.take (k+1)=0::List.replicate k 1)(b:k+1<=w.length):k<=5:=by
 by_cases k0:k=0
 ·lia
 have:=a (k+1) b
 rw[e]at this
 unfold Wm.run at this
 rw[Wm.ones_sk k (by lia)]at this
 exact this
def a1K (h:Good w)(a:ans (w++[b])="whole"):Good (w++[b]):=by
 have c:¬ 5<run (w++[b]):=λz=>by
  rw[jC z]at a;exact absurd a (by decide +kernel)
 exact h.snoc (by lia)
def a0W (w:List Int):ans w="more"\/ans w="six"\/ans w="whole"\/ans w="bad":=by
 unfold ans
 split
 ·exact .inr (.inl rfl)
 split
 ·exact .inl rfl
 split
 ·exact .inr (.inr (.inl rfl))
 ·exact .inr (.inr (.inr rfl))
def b4Y (R:RS)(a:List Int)(n:Nat):(bB R a (n+1)=bB R a n/\¬ ∃S b x y,R.ps[n]? =some S/\a[n]? =some b/\R.sa[n]? =some x/\R.he[n]? =some y)\/∃S b x y,R.ps[n]? =some S/\a[n]? =some b/\R.sa[n]? =some x/\R.he[n]? =some y/\bB R a (n+1)=uA R (bB R a n) n S b x y:=by
 by_cases c:∃S b x y,R.ps[n]? =some S/\a[n]? =some b/\R.sa[n]? =some x/\R.he[n]? =some y
 ·obtain⟨S,b,x,y,d,e,f,g⟩:=c
  exact .inr ⟨S,b,x,y,d,e,f,g,jX d e f g⟩
 ·refine .inl ⟨?_,c⟩
  show (match R.ps[n]?,a[n]?,R.sa[n]?,R.he[n]? with | some S,some b,some x,some y=>uA R (bB R a n) n S b x y | _,_,_,_=>bB R a n)=_
  split
  ·rename_i S b x y d e f g
   exact absurd ⟨S,b,x,y,d,e,f,g⟩ c
  ·rfl
theorem a4N {R:RS}{x:List Int}(e1:R.ps[j]? =some S)(e2:hs[j]? =some b)(e3:R.sa[j]? =some x)(e4:R.he[j]? =some y):∀n,j<n->(bB R hs n).ps[j]? =some (aW S b).2/\(bB R hs n).sa[j]? =some (x++[bI S])/\(bB R hs n).he[j]? =some (y++[b])
 |0,h=>absurd h (XC _)
 | n + 1, h=>by
  by_cases c:j=n
  ·subst c
   obtain⟨g1,g2,g3,g4,g5,g6,g7⟩:=jY R hs j
   rw[jX e1 e2 e3 e4]
   have a1:=(Ye.mp e1).1
   have a3:=(Ye.mp e3).1
   have a4:=(Ye.mp e4).1
   refine⟨?_,?_,?_⟩
   ·show ((bB R hs j).ps.set j _)[j]? =_
    rw[Y7,if_pos rfl,if_pos (by lia)]
   ·show ((bB R hs j).sa.set j _)[j]? =_
    rw[Y7,if_pos rfl,if_pos (by lia)]
   ·show ((bB R hs j).he.set j _)[j]? =_
    rw[Y7,if_pos rfl,if_pos (by lia)]
  ·obtain⟨q1,q2,q3⟩:=a4N e1 e2 e3 e4 n (by lia)
   rcases b4Y R hs n with ⟨e,_⟩ | ⟨S',b',x',y',_,_,_,_,e⟩
   ·rw[e];exact⟨q1,q2,q3⟩
   ·rw [e]
    refine⟨?_,?_,?_⟩
    ·show ((bB R hs n).ps.set n _)[j]? =_
     rw[Xd λz=>c z.symm];exact q1
    ·show ((bB R hs n).sa.set n _)[j]? =_
     rw[Xd λz=>c z.symm];exact q2
    ·show ((bB R hs n).he.set n _)[j]? =_
     rw[Xd λz=>c z.symm];exact q3
def b0L {x:Nat}(h:x<2 ^ (k+1))(t:x.testBit k=false):x<2 ^ k:=by
 rcases Nat.lt_or_ge x (2 ^ k) with z | z
 ·exact z
 ·have p:=Ja k
  have c:x / 2 ^ k=1:=by
   have a:1<=x / 2 ^ k:=(Nat.le_div_iff_mul_le p).mpr (by lia)
   have b:x / 2 ^ k<2:=Nat.div_lt_of_lt_mul (by rw[Xw]at h;exact h)
   lia
  rw[Y5,c]at t
  exact absurd t (by decide)
def dvS (x k:Nat):Nat:=if x.testBit k=true then x ^^^ 64647 <<< (k-15) else x
def b9W {x:Nat}(a:15<=k)(b:k<=90)(h:x<2 ^ (k+1))(e:R x=N):dvS x k<2 ^ k/\R (dvS x k)=N:=by
 unfold dvS
 by_cases c:x.testBit k=true
 ·rw [if_pos c]
  refine⟨b0L ?_ ?_,by rw[b2C (by lia)];exact e⟩
  ·refine JB h ?_
   rw[Xq,show k+1=16+(k-15) by lia,Nat.pow_add]
   exact Nat.mul_lt_mul_of_pos_right (by decide) (Ja _)
  ·rw[XR,c,Jk,show k-(k-15)=15 by lia,Yq (by lia)]
   decide
 ·rw[if_neg c]
  exact⟨b0L h (Bool.not_eq_true _▸c),e⟩
def dvN (x:Nat):Nat->Nat
 |0=>x
 |i+1=>dvS (dvN x i) (90-i)
theorem a2S {x:Nat}(h:x<2 ^ 91):∀i,i<=76->dvN x i<2 ^ (91-i)/\R (dvN x i)=R x
 |0,_=>⟨h,rfl⟩
 | i+1,hi=>by
  obtain⟨a,b⟩:=a2S h i (by lia)
  have:=b9W (x:=dvN x i) (k:=90-i) (by lia) (by lia) (by rw[show 90-i+1=91-i by lia];exact a) b
  rw[show 91-(i+1)=90-i by lia]
  exact this
def b6I {d:Int}(h:byt d=true):nm (b8 d)=d.toNat:=by
 have:=gK.mp h
 exact iC (by show d.toNat<256;lia)
def b9D (d:n<256)(c:k<8):nm (hdD ((n:Nat):Int) k [])=n*8+k:=by
 unfold hdD
 rw[List.map_nil,List.flatten_nil,YD,sS (iG (λb a=> .inl (Ym.mp a)) (pD _)) (iU _ _),cF,iC (show k<2 ^ 3 from c),sS (λb a=> .inl (Ym.mp a)) (pD _),b6I (gK.mpr ⟨by lia,by lia⟩),YR]
 have:nm [0]=0:=rfl
 rw[this]
 lia
def b9C {n:Int}{d:Int}(h:byt d=true):nm (hdD n k (ds++[d]))=nm (hdD n k ds)*256+d.toNat:=by
 rw[a0I,sS (oW _ _ _) (pD _),lA,b6I h,Jg]
def b6M {n:Int}(a:ds.length<=7):nm (hd n ds)*32768<2 ^ 91:=by
 have h:=nJ (oW n ds.length ds)
 rw[rA]at h
 have b:2 ^ (12+8*ds.length)<=2 ^ 68:=Yz (by decide) (by lia)
 show nm (hdD n ds.length ds)*32768<2 ^ 91
 lia
def b9V {n:Int}(c:ds.length<=7):dvN (nm (hd n ds)*32768) 76=ckn (hd n ds):=by
 obtain⟨a,b⟩:=a2S (b6M (n:=n) c) 76 (by decide)
 have e:ckn (hd n ds)=R (nm (hd n ds)*32768):=by
  unfold ckn rst
  rw[sS (oU _ _) (vY 15),b6H,Nat.add_zero,show (zs 15).length=15 from rfl,Jg]
 rw[e,<-b,rD a]
def c1Y {n:Int}:nm (fb n ds)=nm (hd n ds)*32768+ckn (hd n ds):=by
 unfold fb
 rw[sS (oU _ _) (a5A _),a2W,Jg]
 unfold ck
 rw[iC (a2A _)]
def b9T {n:Int}(h:i<27+8*ds.length):(fb n ds)[i]? =some (gG (nm (fb n ds)) (26+8*ds.length-i)):=by
 have e:=b1Z (nD n ds)
 have a:=kY n ds
 rw[a]at e
 rw[<-e,iC (by have:=nJ (nD n ds);rw[a]at this;exact this)]
 unfold bO
 rw[Yl,X5 h,Jr,show 27+8*ds.length-1-i=26+8*ds.length-i by lia]
def tQ (x k:Nat):Builtin.bitAnd ((x:Int) / 2 ^ (k:Int).toNat) 1=gG x k:=b6P x k
def a5V (h:l<=7):Builtin.Range.rangeSize ((26:Int)+8*((l:Nat):Int)) (-1) (-1)=((27+8*l:Nat):Int):=by
 have:l=0\/l=1\/l=2\/l=3\/l=4\/l=5\/l=6\/l=7:=by lia
 rcases this with rfl | rfl | rfl | rfl | rfl | rfl | rfl | rfl <;> decide
def b3K (h:l<=7):Builtin.divisionGoesByPylong (-1-((26:Int)+8*((l:Nat):Int))) (-1)=false:=by
 have:l=0\/l=1\/l=2\/l=3\/l=4\/l=5\/l=6\/l=7:=by lia
 rcases this with rfl | rfl | rfl | rfl | rfl | rfl | rfl | rfl <;> decide
def a1X (h:l<=7):Builtin.Range.small ((26:Int)+8*((l:Nat):Int)) (-1) (-1)=true:=by
 have:l=0\/l=1\/l=2\/l=3\/l=4\/l=5\/l=6\/l=7:=by lia
 rcases this with rfl | rfl | rfl | rfl | rfl | rfl | rfl | rfl <;> decide
def b8D:∀l:List Int,4*(put l).length+run (put l)<=5*l.length:=by
 refine snoc_ind (P:=λl=>4*(put l).length+run (put l)<=5*l.length) (by decide) (λw b ih=>?_)
 rw[iB,Yc,Yw]
 unfold pst
 have a:run (put w++[b])<=run (put w)+1:=rT
 split
 ·rename_i c
  rw[run_snoc,last_snoc,if_neg (wX b),Yc,Yc,Yw,Yw]
  lia
 ·rw[Yc,Yw]
  lia
def tz (w:List Int):Nat:=if (Wm.sk w).1=some 0 then Wm.run w else 0
def rR (w:List Int):Wm.run (w++[0])=tz w+1:=by
 unfold tz
 rw[Wm.run_snoc]
 split <;> rfl
def wA (w:List Int):tz (w++[0])=tz w+1:=by
 rw[<-rR]
 exact if_pos (Wm.last_snoc w 0)
def Tm (S:PS)(d:Nat):Prop:=match S.now with
 |.free _=>6<=d
 |.speaks n ds k=>6<=d+tz ((wr n ds).take k)
 |.reads h=>6<=d+tz h
 |.tlS c z=>(c≠1/\c<=8/\1<=d)\/(c=1/\2<=d)\/(9<=c/\c=9+z/\c<9+S.vt/\9+S.vt<=d+c)
 |.tlR _ _ c z=>(c≠1/\c<=8/\1<=d)\/(c=1/\2<=d)\/(9<=c/\c=9+z/\c<9+S.vt/\9+S.vt<=d+c)
 |.rests _=>1<=d
 |_=>False
def Flt (S a:PS):Prop:=(∃m:Bool,a={ S with tot:=S.tot+(if m=true then 1 else 8),now:= .flag 6 m })\/∃t:Int,0<=t/\t<=S.tot+8/\a={ S with tot:=t,now:= .settles false }
def b9E {n st:Int}(a:0<=n)(b:n<10)(c:0<=st)(d:st<=8):mvd n st=n+st/\¬ 18<=mvd n st:=by
 have e:mvd n st=n+st:=by
  unfold mvd
  rw[if_neg (by lia)]
  lia
 exact⟨e,by rw[e];lia⟩
def rB {st:Int}{w:Str}{nx:Stc}(c:0<=S.tot)(d:S.tot<10)(e:0<=st)(f:st<=8):dY S st w nx=(w,{ S with tot:=S.tot+st,now:=nx }):=by
 obtain⟨a,b⟩:=b9E c d e f
 unfold dY
 rw[if_neg b,a]
def iR (a:0<=S.tot)(b:S.tot<10)(sp:Bool):Flt S (bW S sp).2:=by
 refine .inl ⟨!sp,?_⟩
 unfold bW
 cases sp <;> (rw[rB a b (by decide) (by decide)];rfl)
def sI (a:0<=S.tot)(b:S.tot<10)(sp:Bool):Flt S (dM S sp).2:=by
 unfold dM
 rw[rB a b (by cases sp <;> decide) (by cases sp <;> decide)]
 exact .inr ⟨_,by split <;> lia,by split <;> lia,rfl⟩
def Stl (d:Nat)(S a:PS):Prop:=(∃n:Stc,a={ S with now:=n })/\Tm a d/\1<=d
def uM {s:Bool}(g:vt<=5){d:Nat}(h:(c≠1/\c<=8/\1<=d+1)\/(c=1/\2<=d+1)\/(9<=c/\c=9+z/\c<9+vt/\9+vt<=d+1+c)):
  bJ vt s c z 0="fault"\/bJ vt s c z 0="refused"\/(bJ vt s c z 0="more"/\1<=d/\((c+1≠1/\c+1<=8/\1<=d)\/(c+1=1/\2<=d)\/(9<=c+1/\c+1=9+tlN c 0 z/\c+1<9+vt/\9+vt<=d+(c+1)))):=by
 rcases h with ⟨a,b,_⟩ | ⟨rfl,a⟩ | ⟨a,b,i,j⟩
 ·left
  unfold bJ dF
  rw[if_neg (by lia),if_neg a]
  rfl
 ·right;right
  unfold bJ dF
  rw[if_neg (by lia),if_pos rfl,if_neg (by cases s <;> decide)]
  exact⟨rfl,by lia,.inl ⟨by lia,by lia,by lia⟩⟩
 ·right
  have f:tlN c 0 z=z+1:=if_pos ⟨a,rfl⟩
  unfold bJ
  rw[if_pos a,f]
  unfold nO
  by_cases e:c+1<9+vt
  ·right
   rw[if_pos e]
   exact⟨rfl,by lia,.inr (.inr ⟨by lia,by lia,e,by lia⟩)⟩
  ·left
   rw[if_neg e,if_pos (by lia)]
def gH:("more":Str)≠"fault"/\("fault":Str)≠"more"/\("refused":Str)≠"more"/\("refused":Str)≠"fault"/\("more":Str)≠"six"/\("whole":Str)≠"more":=by decide +kernel
def b2O {d:Nat}(hf:∀f∈S.wt,FrN f)(wf:S.now.Wf S.wt)(v5:S.vt<=5)(h0:0<=S.tot)(h1:S.tot<10)(h:Tm S (d+1)):Stl d S (aW S 0).2\/Flt S (aW S 0).2:=by
 have fo:∀{n:Nat}{a:List Int},(wr n a).take 1= [0]:=λ{n a}=>pJ
 cases en:S.now with
 | free k=>
  have g:6<=d+1:=by unfold Tm at h;rw[en]at h;exact h
  rw[dJ en]
  split
  ·rw[if_pos rfl]
   left
   refine⟨⟨_,rfl⟩,?_,by lia⟩
   show 6<=d+tz ((wr _ _).take 1)
   rw[fo]
   exact g
  ·rw[if_pos rfl]
   exact .inl ⟨⟨_,rfl⟩,g,by lia⟩
 | speaks n a k=>
  have g:6<=d+1+tz ((wr n a).take k):=by unfold Tm at h;rw[en]at h;exact h
  rw[en]at wf
  obtain⟨_,_,q,_⟩:=wf
  have i:=rR ((wr n a).take k)
  rw[bG en]
  split
  ·exact .inr (iR h0 h1 _)
  ·rename_i j
   have r:¬ 5<tz ((wr n a).take k)+1:=λz=>j (jC (by rw[i];exact z))
   split
   ·left
    refine⟨⟨_,rfl⟩,?_,by lia⟩
    show 6<=d+tz ((wr n a).take k++[0])
    rw[wA];lia
   ·split
    ·rename_i e0
     split
     ·exact .inl ⟨⟨_,rfl⟩,.inl ⟨by decide,by decide,by lia⟩,by lia⟩
     ·left
      refine⟨⟨_,rfl⟩,?_,by lia⟩
      show 6<=d+tz ((wr n a).take (k+1))
      rw[Yg q,<-getD_get q,<-e0,wA];lia
    ·exact .inr (iR h0 h1 _)
 | reads h'=>
  have g:6<=d+1+tz h':=by unfold Tm at h;rw[en]at h;exact h
  have i:=rR h'
  rw[cI en]
  have b:ans (h'++[0])≠"six"->¬ 5<tz h'+1:=λj z=>j (jC (by rw[i];exact z))
  split
  ·rename_i e
   have r:=b (by rw[e];exact gH.2.2.2.2.1)
   left
   refine⟨⟨_,rfl⟩,?_,by lia⟩
   show 6<=d+tz (h'++[0])
   rw[wA];lia
  ·split
   ·rename_i e
    have r:=b (by rw[e];decide +kernel)
    exact .inl ⟨⟨_,rfl⟩,.inl ⟨by decide,by decide,by lia⟩,by lia⟩
   ·exact .inr (iR h0 h1 _)
 | tlS c z=>
  unfold Tm at h
  rw[en]at h
  rw[jW en]
  rcases uM (s:=true) v5 h with e | e | ⟨e,o,p⟩
  ·rw[e,if_neg gH.2.1,if_pos rfl]
   exact .inr (iR h0 h1 _)
  ·rw[e,if_neg gH.2.2.1,if_neg gH.2.2.2.1,if_pos rfl]
   exact .inr (sI h0 h1 _)
  ·rw[e,if_pos rfl]
   exact .inl ⟨⟨_,rfl⟩,p,o⟩
 | tlR n a c z=>
  unfold Tm at h
  rw[en]at h
  rw[lH en]
  rcases uM (s:=false) v5 h with e | e | ⟨e,o,p⟩
  ·rw[e,if_neg gH.2.1,if_pos rfl]
   exact .inr (iR h0 h1 _)
  ·rw[e,if_neg gH.2.2.1,if_neg gH.2.2.2.1,if_pos rfl]
   exact .inr (sI h0 h1 _)
  ·rw[e,if_pos rfl]
   exact .inl ⟨⟨_,rfl⟩,p,o⟩
 | rests l=>
  rw[gR en,if_pos rfl]
  exact .inr (iR h0 h1 _)
 |flag l m=>unfold Tm at h;rw[en]at h;exact h.elim
 |settles m=>unfold Tm at h;rw[en]at h;exact h.elim
 |off=>unfold Tm at h;rw[en]at h;exact h.elim
def cP (s:List PS):Int:=if (0:Int)∈s.map bI then 0 else 1
def hrd (wp:Option Nat)(b:Int)(i:Nat):Int:=if wp=some i then 1-b else b
def bH (wp:Option Nat)(s:List PS):List PS:=s.mapIdx λi S=>(aW S (hrd wp (cP s) i)).2
def gZ {s:List PS}:(bH wp s).length=s.length:=List.length_mapIdx
def dR {s:List PS}(h:(bH wp s)[i]? =some S'):∃S,s[i]? =some S/\S'=(aW S (hrd wp (cP s) i)).2:=by
 unfold bH at h
 rw[X0]at h
 obtain⟨S,a,b⟩:=YH.mp h
 exact⟨S,a,b.symm⟩
def fQ {s:List PS}(h:s[i]? =some S):(bH wp s)[i]? =some (aW S (hrd wp (cP s) i)).2:=by
 unfold bH
 rw[X0,h]
 rfl
def fX {s:List PS}(h:s[i]? =some S)(e:bI S=0):cP s=0:=if_pos (YW.mpr ⟨S,Yx h,e⟩)
def jL {s:List PS}(h:∀(i:Nat)(S:PS),s[i]? =some S->bI S≠0):cP s=1:=if_neg λz=>by
 obtain⟨S,a,e⟩:=YW.mp z
 obtain⟨i,b⟩:=Xn.mp a
 exact h i S b e
inductive RP (B:PS)(d:Nat):PS->Prop
 |u {n:Stc}:Tm { B with tot:=0,now:=n } d->Wf { B with tot:=0,now:=n }->RP B d { B with tot:=0,now:=n }
 |f {l:Nat} {m:Bool}:1<=l->l<=6->RP B d { B with tot:=if m=true then 1 else 8,now:= .flag l m }
 |s {t:Int} {m:Bool}:0<=t->t<=9->(m=true->t=1)->RP B d { B with tot:=t,now:= .settles m }
inductive RQ (B:PS)(L:Nat):PS->Prop
 |f {l:Nat} {m:Bool}:1<=l->l<=L->RQ B L { B with tot:=if m=true then 1 else 8,now:= .flag l m }
 |s {t:Int} {m:Bool}:0<=t->t<=9->(m=true->t=1)->RQ B L { B with tot:=t,now:= .settles m }
def b1B {B:PS}{n:Stc}{L:Nat}(c:6<=L)(h:Flt { B with tot:=0,now:=n } S'):RQ B L S':=by
 rcases h with ⟨m,rfl⟩ | ⟨t,a,b,rfl⟩
 ·cases m
  ·exact RQ.f (l:=6) (m:=false) (by decide) c
  ·exact RQ.f (l:=6) (m:=true) (by decide) c
 ·exact RQ.s a (show t<=9 by have d:t<=0+8:=b;lia) (λz=>by cases z)
def RQ.rp {B:PS}{d:Nat}(h:RQ B 6 S):RP B d S:=by
 cases h with
 |f a b=>exact .f a b
 |s a b c=>exact .s a b c
def vM {B:PS}{L:Nat}{m:Bool}{b:Int}(a:1<=l)(c:l<=L+1):RQ B L (aW { B with tot:=if m=true then 1 else 8,now:= .flag l m } b).2:=by
 rw[nC rfl]
 split
 ·refine RQ.s (t:=if m=true then 1 else 8) (by split <;> decide) (by split <;> decide) λz=>?_
  rw[if_pos z]
 ·exact RQ.f (l:=l-1) (by lia) (by lia)
def yZ {B:PS}{L:Nat}{t:Int}{m:Bool}(b:0<=t)(c:t<=9)(a:m=true->t=1):RQ B L (aW { B with tot:=t,now:= .settles m } 0).2:=by
 rw[jK rfl,if_neg (by decide)]
 split
 ·rename_i e
  have d:=a e
  subst d
  unfold gU
  rw[rB (show (0:Int)<=1 by decide) (show (1:Int)<10 by decide) (by decide) (by decide)]
  exact RQ.s (t:=1+8) (by decide) (by decide) λz=>by cases z
 ·exact RQ.s b c a
structure R1 (B:Nat->PS)(d:Nat)(s:List PS):Prop where
 fl:∃(j l:Nat)(m:Bool),d<=l/\l<=6/\s[j]? =some { B j with tot:=if m=true then 1 else 8,now:= .flag l m }
 al:∀i S,s[i]? =some S->RP (B i) d S
def R2 (B:Nat->PS)(L:Nat)(s:List PS):Prop:=∀i S,s[i]? =some S->RQ (B i) L S
def Re3 (B:Nat->PS)(s:List PS):Prop:=∀i S,s[i]? =some S->∃t:Int,0<=t/\t<=9/\S={ B i with tot:=t,now:= .rests 3 }
def a3Q {B:PS}{d:Nat}(h:RP B (d+1) S):(RP B d (aW S 0).2/\1<=d)\/RQ B 6 (aW S 0).2:=by
 cases h with
 | u tm wf=>
  rcases b2O wf.wt wf.now wf.vt (Xy 0) (show (0:Int)<10 by decide) tm with ⟨⟨k,e⟩,g,j⟩ | z
  ·left
   have i:=wf.hear (b:=0) (.inl rfl)
   rw[e]at g i ⊢
   exact⟨RP.u g i,j⟩
  ·exact .inr (b1B (Yd 6) z)
 |f a b=>exact .inr (vM a (by lia))
 |s a b c=>exact .inr (yZ a b c)
def R1.step {d:Nat}{s:List PS}(h:R1 B (d+1) s):(1<=d->R1 B d (bH none s))/\(d=0->R2 B 6 (bH none s)):=by
 obtain⟨j,l,m,k,n,b⟩:=h.fl
 have f:cP s=0:=fX b rfl
 have c:∀i,hrd none (cP s) i=0:=λi=>by unfold hrd;rw[if_neg (by simp),f]
 refine⟨λo=>⟨⟨j,l-1,m,by lia,by lia,?_⟩,λi g e=>?_⟩,λp i g e=>?_⟩
 ·rw[fQ b,nC rfl,if_neg (by lia)]
 ·obtain⟨S,a,rfl⟩:=dR e
  rw[c]
  rcases a3Q (h.al i S a) with z | z
  ·exact z.1
  ·exact z.rp
 ·obtain⟨S,a,rfl⟩:=dR e
  rw[c]
  rcases a3Q (h.al i S a) with z | z
  ·lia
  ·exact z
def R2.step {L:Nat}{s:List PS}(h:R2 B L s):(∃L',L=L'+1/\R2 B L' (bH none s))\/Re3 B (bH none s):=by
 by_cases c:∃(j l:Nat)(m:Bool)(t:Int),s[j]? =some { B j with tot:=t,now:= .flag l m }
 ·left
  obtain⟨j,l,m,t,e⟩:=c
  have d:cP s=0:=fX e rfl
  have n:∀i,hrd none (cP s) i=0:=λi=>by unfold hrd;rw[if_neg (by simp),d]
  have r:1<=L:=by
   have:=h j _ e
   generalize hS:({ B j with tot:=t,now:= .flag l m }:PS)=S at this
   cases this with
   |f a b=>lia
   |s a b c=>cases YU PS.now hS
  refine⟨L-1,by lia,λi o g=>?_⟩
  obtain⟨S,k,rfl⟩:=dR g
  rw[n]
  cases h i S k with
  |f a b=>exact vM a (by lia)
  |s a b c=>exact yZ a b c
 ·right
  have al:∀i S,s[i]? =some S->∃(t:Int)(m:Bool),0<=t/\t<=9/\S={ B i with tot:=t,now:= .settles m }:=λi S e=>by
   cases h i S e with
   |f a b=>exact absurd ⟨i,_,_,_,e⟩ c
   |s a b c=>exact⟨_,_,a,b,rfl⟩
  have d:cP s=1:=jL λi S e=>by
   obtain⟨t,m,_,_,rfl⟩:=al i S e
   exact λz=>absurd (show (1:Int)=0 from z) (by decide)
  intro i o g
  obtain⟨S,k,rfl⟩:=dR g
  obtain⟨t,m,p,q,rfl⟩:=al i S k
  refine⟨t,p,q,?_⟩
  unfold hrd
  rw[if_neg (by simp),d,jK rfl,if_pos rfl]
def Sh8:Stc->Prop
 |.free _=>True
 |.speaks _ _ _=>True
 |.reads _=>True
 |.rests _=>True
 |.tlS c z=>c<=8/\z=0
 |.tlR _ _ c z=>c<=8/\z=0
 |_=>False
structure At8 (B S:PS):Prop where
 ex:∃n:Stc,S={ B with tot:=0,now:=n }/\Sh8 n
 wf:Wf S
 v1:1<=B.vt
def b1D {B:PS}(e:∃n:Stc,S={ B with tot:=0,now:=n })(sp:Bool):RP B 6 (bW S sp).2:=by
 obtain⟨n,rfl⟩:=e
 have:=iR (S:={ B with tot:=0,now:=n }) (Xy 0) (show (0:Int)<10 by decide) sp
 exact(b1B (Yd 6) this).rp
def jR {B:PS}{n':Stc}(h:Sh8 n'\/(∃z,n'= .tlS 9 z/\z=0)\/∃a b z,n'= .tlR a b 9 z/\z=0)(v1:1<=B.vt)(wf:Wf { B with tot:=0,now:=n' }):RP B 6 { B with tot:=0,now:=n' }:=by
 refine .u ?_ wf
 have e:B.vt<=5:=wf.vt
 have d:∀c z:Nat,c<=8->z=0->(c≠1/\c<=8/\1<=6)\/(c=1/\2<=6)\/(9<=c/\c=9+z/\c<9+B.vt/\9+B.vt<=6+c):=λc z h _=>by lia
 rcases h with h | ⟨z,rfl,rfl⟩ | ⟨a,b,z,rfl,rfl⟩
 ·cases n' with
  |free k=>exact Yd 6
  |speaks a b c=>exact Nat.le_add_right 6 _
  |reads a=>exact Nat.le_add_right 6 _
  |rests l=>exact(by decide:1<=6)
  |tlS c z=>exact d c z h.1 h.2
  |tlR a b c z=>exact d c z h.1 h.2
  |flag l m=>exact h.elim
  |settles m=>exact h.elim
  |off=>exact h.elim
 ·exact .inr (.inr ⟨by decide,rfl,by show 9<9+B.vt;lia,by show 9+B.vt<=6+9;lia⟩)
 ·exact .inr (.inr ⟨by decide,rfl,by show 9<9+B.vt;lia,by show 9+B.vt<=6+9;lia⟩)
def yO {s:Bool}(h:c<=8):bJ vt s c 0 b="fault"\/(bJ vt s c 0 b="more"/\tlN c b 0=0):=by
 unfold bJ
 rw[if_neg (by lia)]
 split
 ·exact .inl rfl
 ·exact .inr ⟨rfl,if_neg λz=>by lia⟩
def b3M {B:PS}(h:At8 B S)(hb:b=0\/b=1):RP B 6 (aW S b).2:=by
 obtain⟨⟨n,rfl,o⟩,wf,g⟩:=h
 have f:=wf.hear hb
 have i:∀p,RP B 6 (bW { B with tot:=0,now:=n } p).2:=λp=>b1D ⟨n,rfl⟩ p
 cases n with
 | free k=>
  rw[dJ rfl]at f ⊢
  split at f <;> split at f <;> rename_i c1 c2
  ·rw[if_pos c1,if_pos c2];exact jR (.inl trivial) g f
  ·rw[if_pos c1,if_neg c2];exact i _
  ·rw[if_neg c1,if_pos c2];exact jR (.inl trivial) g f
  ·rw[if_neg c1,if_neg c2];exact jR (.inl trivial) g f
 | speaks a d k=>
  rw[bG rfl]at f ⊢
  split
  ·exact i _
  ·rename_i c1
   rw[if_neg c1]at f
   split
   ·rename_i c2
    rw[if_pos c2]at f
    exact jR (.inl trivial) g f
   ·rename_i c2
    rw[if_neg c2]at f
    split
    ·rename_i c3
     rw[if_pos c3]at f
     split
     ·rename_i c4
      rw[if_pos c4]at f
      exact jR (.inl ⟨by decide,rfl⟩) g f
     ·rename_i c4
      rw[if_neg c4]at f
      exact jR (.inl trivial) g f
    ·exact i _
 | reads h=>
  rw[cI rfl]at f ⊢
  split
  ·rename_i c1
   rw[if_pos c1]at f
   exact jR (.inl trivial) g f
  ·rename_i c1
   rw[if_neg c1]at f
   split
   ·rename_i c2
    rw[if_pos c2]at f
    exact jR (.inl ⟨by decide,rfl⟩) g f
   ·exact i _
 | rests l=>
  rw[gR rfl]at f ⊢
  split
  ·exact i _
  ·rename_i c1
   rw[if_neg c1]at f
   refine jR (.inl ?_) g f
   split <;> trivial
 | tlS c z=>
  obtain⟨q,rfl⟩:=o
  rw[jW rfl]at f ⊢
  rcases yO (vt:=B.vt) (s:=true) (b:=b) q with e | ⟨e,r⟩
  ·have j:bJ ({ B with tot:=0,now:= .tlS c 0 }:PS).vt true c 0 b="fault":=e
   rw[j,if_neg gH.2.1,if_pos rfl]
   exact i _
  ·have j:bJ ({ B with tot:=0,now:= .tlS c 0 }:PS).vt true c 0 b="more":=e
   rw[j,if_pos rfl,r]at f ⊢
   refine jR ?_ g f
   by_cases c9:c=8
   ·subst c9;exact .inr (.inl ⟨0,rfl,rfl⟩)
   ·exact .inl ⟨by lia,rfl⟩
 | tlR a d c z=>
  obtain⟨q,rfl⟩:=o
  rw[lH rfl]at f ⊢
  rcases yO (vt:=B.vt) (s:=false) (b:=b) q with e | ⟨e,r⟩
  ·have j:bJ ({ B with tot:=0,now:= .tlR a d c 0 }:PS).vt false c 0 b="fault":=e
   rw[j,if_neg gH.2.1,if_pos rfl]
   exact i _
  ·have j:bJ ({ B with tot:=0,now:= .tlR a d c 0 }:PS).vt false c 0 b="more":=e
   rw[j,if_pos rfl,r]at f ⊢
   refine jR ?_ g f
   by_cases c9:c=8
   ·subst c9;exact .inr (.inr ⟨a,d,0,rfl,rfl⟩)
   ·exact .inl ⟨by lia,rfl⟩
 |flag l m=>exact o.elim
 |settles m=>exact o.elim
 |off=>exact o.elim
def bV {s:List PS}(h:∀i S,s[i]? =some S->At8 (B i) S){m:Bool}(b:s[j]? =some S)(e:(aW S (hrd wp (cP s) j)).2={ B j with tot:=if m=true then 1 else 8,now:= .flag 6 m }):R1 B 6 (bH wp s):=by
 have a:∀i,hrd wp (cP s) i=0\/hrd wp (cP s) i=1:=λi=>by
  unfold hrd cP
  split <;> split <;> decide
 refine⟨⟨j,6,m,Yd 6,Yd 6,by rw[fQ b,e]⟩,λi g c=>?_⟩
 obtain⟨d,f,rfl⟩:=dR c
 exact b3M (h i d f) (a i)
def a2F (a:FrN (n1,ds1))(h:n<n1):∃k,Part (wr n1 ds1) (wr n ds) k:=by
 obtain⟨s,b,c,d,e⟩:=a3H 8 n1 n a.1 h
 exact b2I b c d e
def yP {a b:List Int}(h:a.take j=b.take j)(c:k<j):a.getD k 0=b.getD k 0:=by
 have:(a.take j).getD k 0=(b.take j).getD k 0:=by rw[h]
 rw[Yf,Yf,Y9 c,Y9 c]at this
 rw[Yf,Yf]
 exact this
def take_snoc (h:j<w.length):w.take (j+1)=w.take j++[w.getD j 0]:=by rw[Yg h,getD_get h]
def mY (f:FrN (n,ds))(a:FrN (n1,ds1))(h:n<n1)(e:(wr n1 ds1).take j=(wr n ds).take j)(b:j<(wr n ds).length):
  j<=16/\j<(wr n1 ds1).length/\(((wr n1 ds1).getD j 0=(wr n ds).getD j 0/\(wr n1 ds1).take (j+1)=(wr n ds).take (j+1)/\j+1<(wr n1 ds1).length)\/((wr n1 ds1).getD j 0=1/\(wr n ds).getD j 0=0/\(kp ((wr n1 ds1).take j)).length<9)):=by
 obtain⟨k,p⟩:=a2F (ds:=ds) a h
 have jk:j<=k:=by
  by_cases c:k<j
  ·have:=yP e c
   rw[p.one,p.zero]at this
   cases this
  ·lia
 have d:=p.k16
 have i:=p.h1
 have l1:=(jH a).1
 refine⟨by lia,by lia,?_⟩
 by_cases c:j=k
 ·subst c
  exact .inr ⟨p.one,p.zero,p.nine⟩
 ·left
  have g:=yP p.tk (show j<k by lia)
  refine⟨g,?_,by lia⟩
  rw[take_snoc (show j<(wr n1 ds1).length by lia),take_snoc b,e,g]
def b2J (a:FrN (n,ds))(b:j<(wr n ds).length):ans ((wr n ds).take j)="more":=(lD a).more b
def a7L (a:FrN (n,ds))(b:j<(wr n ds).length):ans ((wr n ds).take (j+1))=if j+1=(wr n ds).length then ("whole":Str) else ("more":Str):=by
 split
 ·rename_i e
  rw[e,Yi (Yd _)]
  exact(lD a).whole
 ·exact b2J a (by lia)
def iJ:("whole":Str)≠"six"/\("more":Str)≠"six"/\("more":Str)≠"whole"/\("six":Str)≠"more"/\("six":Str)≠"whole":=by decide +kernel
def a3F (a:FrN (n,ds))(b:j<(wr n ds).length):ans ((wr n ds).take (j+1))≠"six":=by
 rw[a7L a b]
 split
 ·exact iJ.1
 ·exact iJ.2.1
def pN (e:S.now= .speaks n ds j)(b:FrN (n,ds))(a:j<(wr n ds).length):(aW S ((wr n ds).getD j 0)).2={ S with now:=if j+1=(wr n ds).length then .tlS 0 0 else .speaks n ds (j+1) }:=by
 rw[bG e,<-take_snoc a,if_neg (a3F b a),if_neg (λz=>by rw[z.1]at z;exact absurd z.2.1 (by decide)),if_pos rfl]
 split <;> rfl
def b8B (e:S.now= .reads ((wr n ds).take j))(a:FrN (n,ds))(d:j<(wr n ds).length):(aW S ((wr n ds).getD j 0)).2={ S with now:=if j+1=(wr n ds).length then .tlR n ds 0 0 else .reads ((wr n ds).take (j+1)) }:=by
 rw[cI e,<-take_snoc d,a7L a d]
 by_cases c:j+1=(wr n ds).length
 ·have b:kp (wr n ds)=fb (n:Int) ds:=(lD a).kp
  rw[if_pos c,if_pos c,if_neg iJ.2.2.1.symm,if_pos rfl,c,Yi (Yd _),b,b5B a.1,b5C a.1 a.2.1 a.2.2]
 ·rw[if_neg c,if_neg c,if_pos rfl]
def Nw (B:PS)(T:Int)(n:Nat)(ds:List Int)(j:Nat)(S:PS):Prop:=∃t:Int,0<=t/\t<=T/\(S={ B with tot:=t,now:= .reads ((wr n ds).take j) }\/∃(n1:Nat)(ds1:List Int),FrN (n1,ds1)/\n<n1/\(wr n1 ds1).take j=(wr n ds).take j/\B.wt.head? =some (n1,ds1)/\S={ B with tot:=t,now:= .speaks n1 ds1 j })
def Nw.says {B:PS}(b:FrN (n,ds))(d:j<(wr n ds).length)(h:Nw B T n ds j S):bI S=0->(wr n ds).getD j 0=0:=by
 obtain⟨t,_,_,rfl | ⟨f,a,g,lt,e,hd,rfl⟩⟩:=h
 ·intro z;cases z
 ·intro z
  have i:(wr f a).getD j 0=0:=z
  obtain⟨_,_,c | c⟩:=mY b g lt e d
  ·rw[<-c.1];exact i
  ·exact c.2.1
def Nw.step {B:PS}(b:FrN (n,ds))(d:j<(wr n ds).length)(h:Nw B T n ds j S):(j+1<(wr n ds).length->Nw B T n ds (j+1) (aW S ((wr n ds).getD j 0)).2)/\(j+1=(wr n ds).length->∃t:Int,0<=t/\t<=T/\(aW S ((wr n ds).getD j 0)).2={ B with tot:=t,now:= .tlR n ds 0 0 }):=by
 have l:=(jH b).1
 obtain⟨t,f,g,rfl | ⟨k,a,i,lt,e,hd,rfl⟩⟩:=h
 ·rw[b8B rfl b d]
  exact⟨λc=>⟨t,f,g,.inl (by rw[if_neg (by lia)])⟩,λc=>⟨t,f,g,by rw[if_pos c]⟩⟩
 ·obtain⟨m,o,c | c⟩:=mY b i lt e d
  ·rw[<-c.1,pN rfl i o,if_neg (by lia)]
   exact⟨λ_=>⟨t,f,g,.inr ⟨k,a,i,lt,c.2.1,hd,rfl⟩⟩,λz=>by lia⟩
  ·refine⟨λ_=>⟨t,f,g,.inl ?_⟩,λz=>by lia⟩
   have p:(wr k a).take j++[(0:Int)]=(wr n ds).take (j+1):=by rw[take_snoc d,e,c.2.1]
   rw[c.2.1,bG rfl]
   dsimp only
   rw[p,if_neg (a3F b d),if_pos ⟨c.1,rfl,c.2.2⟩]
structure WPh (B:Nat->PS)(T:Int)(q n:Nat)(ds:List Int)(x:Nat->Prop)(j:Nat)(s:List PS):Prop where
 hf:FrN (n,ds)
 j1:1<=j
 jl:j<(wr n ds).length
 xq:¬ x q
 sp:∃t:Int,0<=t/\t<=T/\s[q]? =some { B q with tot:=t,now:= .speaks n ds j }
 al:∀i S,s[i]? =some S->¬ x i->i≠q->Nw (B i) T n ds j S
def WPh.bit {s:List PS}(h:WPh B T q n ds x j s)(f:∀(i:Nat)(S:PS),x i->s[i]? =some S->(wr n ds).getD j 0=1->bI S≠0):cP s=(wr n ds).getD j 0:=by
 obtain⟨t,_,_,e⟩:=h.sp
 have b:(wr n ds).getD j 0=0\/(wr n ds).getD j 0=1:=by rw[getD_get h.jl];exact(lD h.hf).wbits _ (YE h.jl)
 rcases b with z | z
 ·rw[z];exact fX e z
 ·rw [z]
  refine jL λi S a c=>?_
  by_cases cx:x i
  ·exact f i S cx a z c
  ·by_cases cq:i=q
   ·subst cq
    rw[e]at a
    cases a
    have d:(wr n ds).getD j 0=0:=c
    rw[z]at d;cases d
   ·have:=(h.al i S a cx cq).says h.hf h.jl c
    rw[z]at this;cases this
structure TPh (B:Nat->PS)(T:Int)(Z q n:Nat)(ds:List Int)(x:Nat->Prop)(c:Nat)(s:List PS):Prop where
 hf:FrN (n,ds)
 xq:¬ x q
 sp:∃(t:Int)(z:Nat),0<=t/\t<=T/\z<=Z/\(c<=9->z=0)/\s[q]? =some { B q with tot:=t,now:= .tlS c z }
 al:∀i S,s[i]? =some S->¬ x i->i≠q->∃(t:Int)(z:Nat),0<=t/\t<=T/\z<=Z/\(c<=9->z=0)/\S={ B i with tot:=t,now:= .tlR n ds c z }
def WPh.step {s:List PS}(h:WPh B T q n ds x j s)(f:∀i,¬ x i->hrd wp (cP s) i=(wr n ds).getD j 0):(j+1<(wr n ds).length->WPh B T q n ds x (j+1) (bH wp s))/\(j+1=(wr n ds).length->TPh B T Z q n ds x 0 (bH wp s)):=by
 obtain⟨t,o,p,e⟩:=h.sp
 have g:=fQ (wp:=wp) e
 rw[f q h.xq,pN rfl h.hf h.jl]at g
 refine⟨λc=>⟨h.hf,by lia,c,h.xq,⟨t,o,p,by rw[g,if_neg (by lia)]⟩,λi r k cx l=>?_⟩,λc=>⟨h.hf,h.xq,⟨t,0,o,p,YV _,λ_=>rfl,by rw[g,if_pos c]⟩,λi r k cx l=>?_⟩⟩
 ·obtain⟨S,m,rfl⟩:=dR k
  rw[f i cx]
  exact((h.al i S m cx l).step h.hf h.jl).1 c
 ·obtain⟨S,m,rfl⟩:=dR k
  rw[f i cx]
  obtain⟨u,a,b,d⟩:=((h.al i S m cx l).step h.hf h.jl).2 c
  exact⟨u,0,a,b,YV _,λ_=>rfl,d⟩
def tbt (c:Nat):Int:=if c=1 then 0 else 1
def wC {s:Bool}(h:z<=Z)(i:Z<=vt / 2)(d:(9<=c/\tlN c b z<=Z)\/(c<=8/\(b=tbt c\/(c=1/\s=false))))(j:c<9+vt)(k:1<=vt):
  (c<8+vt->bJ vt s c z b="more")/\(c=8+vt->bJ vt s c z b="taken"):=by
 unfold bJ
 rcases d with ⟨f,l⟩ | ⟨m,d⟩
 ·rw[if_pos f]
  unfold nO
  exact⟨λa=>if_pos (by lia),λa=>by rw[if_neg (by lia),if_neg (by lia)]⟩
 ·rw [if_neg (by lia)]
  have g:dF s c b≠true:=by
   unfold dF
   rcases d with e | ⟨a,e⟩
   ·rw[e]
    unfold tbt
    by_cases a:c=1
    ·rw[if_pos a,if_pos a];cases s <;> decide
    ·rw[if_neg a,if_neg a];decide
   ·rw[if_pos a,e];exact Yr
  rw[if_neg g]
  exact⟨λ_=>rfl,λa=>by lia⟩
def mV:("taken":Str)≠"more"/\("taken":Str)≠"fault"/\("taken":Str)≠"refused":=by decide +kernel
def a0L {t:Int}(a:0<=t)(b:t<=T)(c:T<=9):0<=mvd t (-1)/\mvd t (-1)<=T:=by
 unfold mvd
 rw[if_neg (by lia)]
 lia
def nxB (B:Nat->PS)(q:Nat)(f:Fr)(i:Nat):PS:=if i=q then { B i with wt:=(B i).wt.tail } else { B i with up:=if gC (B i) f.1=true then (B i).up++[f] else (B i).up }
def RPh (B:Nat->PS)(T:Int)(l:Nat)(s:List PS):Prop:=∀i S,s[i]? =some S->∃t:Int,0<=t/\t<=T/\S={ B i with tot:=t,now:= .rests l }
def FPh (B:Nat->PS)(T:Int)(s:List PS):Prop:=∀i S,s[i]? =some S->∃(t:Int)(k:Nat),0<=t/\t<=T/\S={ B i with tot:=t,now:= .free k }
def yM (e:S.now= .tlS c z):(bJ S.vt true c z b="more"->(aW S b).2={ S with now:= .tlS (c+1) (tlN c b z) })/\(bJ S.vt true c z b="taken"->(aW S b).2={ S with tot:=mvd S.tot (-1),wt:=S.wt.tail,now:= .rests 3 }):=by
 rw[jW e]
 exact⟨λh=>by rw[h,if_pos rfl],λh=>by rw[h,if_neg mV.1,if_neg mV.2.1,if_neg mV.2.2]⟩
def yN (e:S.now= .tlR n ds c z):(bJ S.vt false c z b="more"->(aW S b).2={ S with now:= .tlR n ds (c+1) (tlN c b z) })/\(bJ S.vt false c z b="taken"->(aW S b).2={ S with tot:=mvd S.tot (-1),up:=if gC S n=true then S.up++[(n,ds)] else S.up,now:= .rests 3 }):=by
 rw[lH e]
 exact⟨λh=>by rw[h,if_pos rfl],λh=>by rw[h,if_neg mV.1,if_neg mV.2.1,if_neg mV.2.2]⟩
def wD (h:c<=8):tlN c b z=z:=if_neg λx=>by lia
def TOk (Z q:Nat)(c:Nat)(i:Nat)(b:Int)(z:Nat):Prop:=(9<=c/\tlN c b z<=Z)\/(c<=8/\(b=tbt c\/(c=1/\i≠q)))
def TPh.step {Z':Nat}{s:List PS}(h:TPh B T Z q n ds x c s)(K:T<=9)(k:∀i,(B i).vt=v)(r:Z<=Z')(u:Z'<=v / 2)(A:1<=v)(C:c<9+v)(l:∀i S z,s[i]? =some S->¬ x i->(c<=9->z=0)->z<=Z->TOk Z' q c i (hrd wp (cP s) i) z):
  (c<8+v->TPh B T Z' q n ds x (c+1) (bH wp s))/\(c=8+v->(∀i,¬ x i)->RPh (nxB B q (n,ds)) T 3 (bH wp s)):=by
 obtain⟨t,z,L,M,m,D,e⟩:=h.sp
 have U:=fQ (wp:=wp) e
 have N:=wC (vt:=v) (s:=true) (YS m r) u ((l q _ z e h.xq D m).imp id λ⟨a,b⟩=>⟨a,b.imp id λy=>absurd rfl y.2⟩) C A
 have O:∀{b:Int}{z:Nat},(c<=9->z=0)->c+1<=9->tlN c b z=0:=λ{b z} P o=>by rw[wD (by lia)];exact P (by lia)
 have Q:∀{i:Nat}{z:Nat}{b:Int},z<=Z->TOk Z' q c i b z->tlN c b z<=Z':=λ{i z b} P V=>by
  rcases V with a | a
  ·exact a.2
  ·rw[wD a.1];lia
 refine⟨λg=>⟨h.hf,h.xq,⟨t,_,L,M,Q m (l q _ z e h.xq D m),λo=>O D o,by rw[U,(yM (b:=hrd wp (cP s) q) rfl).1 (by show bJ (B q).vt _ _ _ _=_;rw[k];exact N.1 g)]⟩,λi W E cx j=>?_⟩,λg X i W E=>?_⟩
 ·obtain⟨S,d,rfl⟩:=dR E
  obtain⟨R,F,G,H,f,p,rfl⟩:=h.al i S d cx j
  have ok:=l i _ F d cx p f
  have w:=wC (vt:=v) (s:=false) (YS f r) u (ok.imp id λ⟨a,b⟩=>⟨a,b.imp id λy=>⟨y.1,rfl⟩⟩) C A
  exact⟨R,_,G,H,Q f ok,λo=>O p o,(yN (b:=hrd wp (cP s) i) rfl).1 (by show bJ (B i).vt _ _ _ _=_;rw[k];exact w.1 g)⟩
 ·obtain⟨S,d,rfl⟩:=dR E
  unfold nxB
  by_cases j:i=q
  ·subst j
   rw[e]at d
   cases d
   obtain⟨I,J⟩:=a0L L M K
   rw[if_pos rfl]
   exact⟨_,I,J,(yM (b:=hrd wp (cP s) i) rfl).2 (by show bJ (B i).vt _ _ _ _=_;rw[k];exact N.2 g)⟩
  ·have cx:=X i
   obtain⟨R,F,G,H,f,p,rfl⟩:=h.al i S d cx j
   have ok:=l i _ F d cx p f
   have w:=wC (vt:=v) (s:=false) (YS f r) u (ok.imp id λ⟨a,b⟩=>⟨a,b.imp id λy=>⟨y.1,rfl⟩⟩) C A
   obtain⟨I,J⟩:=a0L G H K
   rw[if_neg j]
   exact⟨_,I,J,(yN (b:=hrd wp (cP s) i) rfl).2 (by show bJ (B i).vt _ _ _ _=_;rw[k];exact w.2 g)⟩
def RPh.step {s:List PS}(h:RPh B T l s):(2<=l->RPh B T (l-1) (bH none s))/\(l=1->FPh B T (bH none s)):=by
 have f:cP s=1:=jL λi S e=>by
  obtain⟨t,_,_,rfl⟩:=h i S e
  exact λz=>absurd (show (1:Int)=0 from z) (by decide)
 have d:∀i,hrd none (cP s) i=1:=λi=>by unfold hrd;rw[if_neg (by simp),f]
 refine⟨λk i g e=>?_,λj i g e=>?_⟩
 ·obtain⟨S,a,rfl⟩:=dR e
  obtain⟨t,b,c,rfl⟩:=h i S a
  exact⟨t,b,c,by rw[d,gR rfl,if_neg (by decide),if_neg (by lia)]⟩
 ·obtain⟨S,a,rfl⟩:=dR e
  obtain⟨t,b,c,rfl⟩:=h i S a
  exact⟨t,0,b,c,by rw[d,gR rfl,if_neg (by decide),if_pos j]⟩
def iQ {B:PS}{t:Int}{k:Nat}(h:t<12):bI { B with tot:=t,now:= .free k }=if B.wt= [] then 1 else 0:=by
 show (if B.wt= [] then (1:Int) else if 12<=t/\k<8 then 1 else 0)=_
 split
 ·rfl
 ·exact if_neg λz=>by lia
def FPh.idle {s:List PS}(h:FPh B T s)(l:T<=9)(f:∀i,i<s.length->(B i).wt= []):FPh B T (bH none s):=by
 have lt:∀{i:Nat}{S:PS},s[i]? =some S->i<s.length:=λe=>(Ye.mp e).1
 have a:∀i S,s[i]? =some S->bI S=1:=λi S e=>by
  obtain⟨t,k,b,c,rfl⟩:=h i S e
  rw[iQ (by lia),if_pos (f i (lt e))]
 have g:cP s=1:=jL λi S e=>by rw[a i S e];decide
 intro i m e
 obtain⟨S,d,rfl⟩:=dR e
 have j:=a i S d
 obtain⟨t,k,b,c,rfl⟩:=h i S d
 refine⟨t,k+1,b,c,?_⟩
 unfold hrd
 rw[if_neg (by simp),g,dJ rfl,if_neg (by rw[j];decide),if_neg (by decide)]
structure Win (m:Nat)(B:Nat->PS)(q:Nat)(f:Fr):Prop where
 hq:q<m
 eq:(B q).wt.head? =some f
 ok:∀i,i<m->∀g∈(B i).wt,FrN g
 le:∀j g,j<m->j≠q->(B j).wt.head? =some g->f.1<g.1
def FPh.begin {s:List PS}{f:Fr}(h:FPh B T s)(T9:T<=9)(W:Win s.length B q f)(xq:¬ x q)(hx:∀i,¬ x i->wp≠some i):cP s=0/\WPh B T q f.1 f.2 x 1 (bH wp s):=by
 have lt:∀{i:Nat}{S:PS},s[i]? =some S->i<s.length:=λe=>(Ye.mp e).1
 have fo:FrN f:=W.ok q W.hq f (XA W.eq)
 have hd:∀{i:Nat}{g:Fr},(B i).wt.head? =some g->(B i).wt≠ []/\(B i).wt.headD (0, [])=g:=λ{i g} e=>by
  cases c:(B i).wt with
  |nil=>rw[c]at e;cases e
  |cons a r=>rw[c]at e;cases e;exact⟨(λz=>by cases z),rfl⟩
 obtain⟨S0,d⟩:∃S,s[q]? =some S:=⟨_,Yb W.hq⟩
 obtain⟨j,p,u,v,rfl⟩:=h q S0 d
 have sq:bI { B q with tot:=j,now:= .free p }=0:=by rw[iQ (by lia),if_neg (hd W.eq).1]
 have m:cP s=0:=fX d sq
 have o:∀i,¬ x i->hrd wp (cP s) i=0:=λi z=>by unfold hrd;rw[if_neg (hx i z),m]
 have F:=(jH (n:=f.1) (ds:=f.2) fo).1
 refine⟨m,fo,by decide,by lia,xq,⟨j,u,v,?_⟩,λi G e cx w=>?_⟩
 ·rw[fQ d,o q xq,dJ rfl,if_pos sq,if_pos rfl]
  show some { B q with tot:=j,now:= .speaks ((B q).wt.headD (0, [])).1 ((B q).wt.headD (0, [])).2 1 }=_
  rw[(hd W.eq).2]
 ·obtain⟨S,l,rfl⟩:=dR e
  obtain⟨t,k,y,A,rfl⟩:=h i S l
  have b:=iQ (B:=B i) (t:=t) (k:=k) (by lia)
  refine⟨t,y,A,?_⟩
  rw[o i cx,dJ rfl]
  cases c:(B i).wt.head? with
  | none=>
   have C:(B i).wt= []:=List.head?_eq_none_iff.mp c
   rw[if_pos C]at b
   left
   rw[if_neg (by rw[b];decide),if_pos rfl,pJ]
  | some g=>
   obtain⟨D,E⟩:=hd c
   rw[if_neg D]at b
   right
   refine⟨g.1,g.2,W.ok i (lt l) g (XA c),W.le i g (lt l) w c,by rw[pJ,pJ],rfl,?_⟩
   rw[if_pos b,if_pos rfl]
   show { B i with tot:=t,now:= .speaks ((B i).wt.headD (0, [])).1 ((B i).wt.headD (0, [])).2 1 }=_
   rw[E]
def Fl (X h:List Int):Prop:=∃a,1<=a/\a<X.length/\h=X.set a (1-X.getD a 0)
def Rel (X h:List Int):Prop:=Fl X h\/∃e,X=(0::List.replicate e 1)++h/\h.head? =some 0
def Fl.snoc (r:Fl X h):Fl (X++[b]) (h++[b]):=by
 obtain⟨a,c,al,rfl⟩:=r
 refine⟨a,c,by rw[Yc];exact Nat.lt_add_right _ al,?_⟩
 rw[List.set_append_left _ _ al,Yf,Yf,YF al]
def Fl.symm (r:Fl X h):Fl h X:=by
 obtain⟨a,b,al,rfl⟩:=r
 refine⟨a,b,by rw[Y8];exact al,?_⟩
 have c:(X.set a (1-X.getD a 0)).getD a 0=1-X.getD a 0:=by
  rw[Yf,Y7,if_pos rfl,if_pos al];rfl
 rw[c,List.set_set,show 1-(1-X.getD a 0)=X.getD a 0 by lia,getD_get al,List.set_getElem_self]
def Rel.snoc (r:Rel X h):Rel (X++[b]) (h++[b]):=by
 rcases r with r | ⟨e,rfl,a⟩
 ·exact .inl r.snoc
 ·right
  refine⟨e,by rw[Ys],?_⟩
  cases h with
  |nil=>cases a
  |cons x r=>exact a
def Fl.len (r:Fl X h):h.length=X.length:=by
 obtain⟨a,b,al,rfl⟩:=r
 exact Y8
def Rel.len (r:Rel X h):h.length<=X.length:=by
 rcases r with r | ⟨e,rfl,a⟩
 ·exact Nat.le_of_eq r.len
 ·rw[Yc];exact Nat.le_add_left _ _
def Rel.hard (d:FrN (n,ds))(r:Rel (wr n ds) (h++[b]))(g:Good h):ans (h++[b])≠"whole":=by
 intro z
 have m:=a1K g z
 obtain⟨c,o⟩:=jM z
 have f:c0R (h++[b]):=by
  rcases r with ⟨a,u,al,e⟩ | ⟨e,i,p⟩
  ·rw[e,getD_get al]
   exact a0J d.1 d.2.1 al
  ·have q:Good (wr n ds):=lF (fb (n:Int) ds)
   have s:e+1<=(wr n ds).length:=by rw[i,Yc,Yo,YA];lia
   have k:(wr n ds).take (e+1)=0::List.replicate e 1:=by
    rw[i,Y3 (by rw[Yo,YA];exact Yd _)]
    exact Yi (by rw[Yo,YA];exact Yd _)
   have j:(wr n ds).drop (e+1)=h++[b]:=by
    rw[i]
    exact List.drop_left' (by rw[Yo,YA])
   have lt:e+1<(wr n ds).length:=by
    have:((wr n ds).drop (e+1)).length≠0:=by rw[j,Yc];exact Nat.succ_ne_zero _
    rw[Xp]at this
    lia
   have t:(wr n ds)[e+1]=0:=by
    have l:(h++[b]).head? =some ((wr n ds)[e+1]):=by rw[<-j,X2 lt];rfl
    rw[p]at l
    exact(Yp l).symm
   rw[<-j]
   exact a0K d.1 d.2.1 (uW q k s) k lt t
 exact f m c o
def Pat (X:List Int)(c:Nat):Prop:=match c with
 |0=>True
 |1=>∃Y,X=Y++[1]
 |e+2=>∃Y,X=Y++(1::0::List.replicate e 1)
def Pat.one (h:Pat X c)(c1:c≠1):Pat (X++[1]) (c+1):=by
 match c,h,c1 with
 |0,_,_=>exact⟨X,rfl⟩
 |1,_,z=>exact absurd rfl z
 | e+2,⟨Y,hY⟩,_=>
  refine⟨Y,?_⟩
  rw[hY,Ys,Xj]
  rfl
def Pat.zero (h:Pat X 1):Pat (X++[0]) 2:=by
 obtain⟨Y,a⟩:=h
 refine⟨Y,?_⟩
 rw[a,Ys]
 rfl
theorem oE (Y:List Int):∀e,(Wm.sk (Y++(1::0::List.replicate (e+1) 1))).1=some 1/\Wm.run (Y++(1::0::List.replicate (e+1) 1))=e+1
 | 0 =>by
  have e1:Y++(1::0::List.replicate 1 1)=(Y++[1,0])++[(1:Int)]:=by rw[Ys];rfl
  have e2:(Wm.sk (Y++[1,0])).1=some 0:=by
   rw[show Y++[(1:Int),0]=(Y++[1])++[0] by rw[Ys];rfl]
   exact Wm.last_snoc _ _
  rw[e1]
  refine⟨Wm.last_snoc _ _,?_⟩
  rw[Wm.run_snoc,if_neg (by rw[e2];decide)]
 | e+1=>by
  obtain⟨a,b⟩:=oE Y e
  have e1:Y++(1::0::List.replicate (e+1+1) 1)=(Y++(1::0::List.replicate (e+1) 1))++[(1:Int)]:=by rw[Xj (n:=e+1),Ys];rfl
  rw[e1]
  refine⟨Wm.last_snoc _ _,?_⟩
  rw[Wm.run_snoc,if_pos a,b]
def Pat.le (h:Pat X c)(g:Wm.run X<=5):c<=7:=by
 match c,h with
 |0,_=>decide
 |1,_=>decide
 |2,_=>decide
 | e+3,⟨Y,hY⟩=>
  rw[hY,(oE Y e).2]at g
  lia
def DpW (w0 one:Prop)(X:List Int):Stc->Prop
 |.free _=>w0/\∃e,X=0::List.replicate e 1
 |.reads h=>Rel X h
 |.speaks n ds k=>one/\FrN (n,ds)/\k=X.length/\k<(wr n ds).length/\Fl X ((wr n ds).take k)
 |.tlR _ _ c z=>z=0/\c<=7/\Pat X c/\27+c<=X.length
 |.tlS c z=>z=0/\c<=7/\Pat X c/\27+c<=X.length
 |_=>False
def hdT (c:Nat):List Int:=[1,0,1,1,1,1,1,1,1].take c
def tlD (w:List Int)(c a:Nat):Prop:=(a=0/\1<=c/\c<=7)\/(a=1/\3<=c/\c<=8)\/(c=0/\1<=a/\a<=7/\Pat w a)\/(c=1/\3<=a/\a<=8)
def DpT (w:List Int)(c:Nat):Stc->Prop
 |.reads h=>c<=7/\∃h0,Rel w h0/\h=h0++hdT c
 |.speaks n ds k=>c<=7/\FrN (n,ds)/\k=w.length+c/\k<(wr n ds).length/\∃h0,Rel w h0/\(wr n ds).take k=h0++hdT c
 |.tlR _ _ c' z=>z=0/\tlD w c c'
 |.tlS c' z=>z=0/\tlD w c c'
 |_=>False
def b1H {w0 one:Prop}{st:Stc}(dp:DpW w0 one X st):Sh8 st:=by
 cases st with
 |free k=>trivial
 |reads a=>trivial
 |speaks a b c=>trivial
 |tlR a b c z=>exact⟨by have:=dp.2.1;lia,dp.1⟩
 |tlS c z=>exact⟨by have:=dp.2.1;lia,dp.1⟩
 |flag l m=>exact dp.elim
 |settles m=>exact dp.elim
 |rests l=>exact dp.elim
 |off=>exact dp.elim
def b1I {st:Stc}(dp:DpT w c st):Sh8 st:=by
 cases st with
 |reads a=>trivial
 |speaks a b c=>trivial
 |tlR a b c' z=>exact⟨by have:=dp.2;unfold tlD at this;lia,dp.1⟩
 |tlS c' z=>exact⟨by have:=dp.2;unfold tlD at this;lia,dp.1⟩
 |free k=>exact dp.elim
 |flag l m=>exact dp.elim
 |settles m=>exact dp.elim
 |rests l=>exact dp.elim
 |off=>exact dp.elim
def Xs (B:Nat->PS)(x:Nat->Prop)(st:Stc)(s:List PS):Prop:=∀(i:Nat)(S:PS),x i->s[i]? =some S->S={ B i with tot:=0,now:=st }
def b2A {s:List PS}{st:Stc}(h:WPh B 0 q n ds x j s)(wf:∀(i:Nat)(S:PS),s[i]? =some S->Wf S)(a:∀i,1<=(B i).vt)(ex:Xs B x st s)(b:Sh8 st):∀(i:Nat)(S:PS),s[i]? =some S->At8 (B i) S:=λi S e=>by
 refine⟨?_,wf i S e,a i⟩
 by_cases cp:x i
 ·exact⟨st,ex i S cp e,b⟩
 ·by_cases cq:i=q
  ·subst cq
   obtain⟨t,c,d,f⟩:=h.sp
   rw[f]at e
   cases e
   have:t=0:=by lia
   subst this
   exact⟨_,rfl,trivial⟩
  ·obtain⟨t,c,d,rfl | ⟨k,g,_,_,_,_,rfl⟩⟩:=h.al i S e cp cq
   ·have:t=0:=by lia
    subst this
    exact⟨_,rfl,trivial⟩
   ·have:t=0:=by lia
    subst this
    exact⟨_,rfl,trivial⟩
def cQ (a:S.tot=0)(sp:Bool):(bW S sp).2={ S with tot:=if (!sp)=true then 1 else 8,now:= .flag 6 (!sp) }:=by
 unfold bW
 rw[rB (by lia) (by lia) (by cases sp <;> decide) (by cases sp <;> decide)]
 show ({ S with tot:=S.tot+_,now:=_ }:PS)=_
 rw[a]
 cases sp <;> rfl
def a2D {B:PS}:(ans (h++[b])="more"/\(aW { B with tot:=0,now:= .reads h } b).2={ B with tot:=0,now:= .reads (h++[b]) })\/(ans (h++[b])="whole"/\(aW { B with tot:=0,now:= .reads h } b).2={ B with tot:=0,now:= .tlR (nmB (kp (h++[b]))) (daB (kp (h++[b]))) 0 0 })\/(aW { B with tot:=0,now:= .reads h } b).2={ B with tot:=if true=true then 1 else 8,now:= .flag 6 true }:=by
 rw[cI rfl]
 by_cases c:ans (h++[b])="more"
 ·exact .inl ⟨c,by rw[if_pos c]⟩
 ·rw [if_neg c]
  by_cases d:ans (h++[b])="whole"
  ·exact .inr (.inl ⟨d,by rw[if_pos d]⟩)
  ·rw[if_neg d]
   exact .inr (.inr (cQ rfl false))
def pK {B:PS}{a c:Nat}{d:List Int}(g:c<=8)(h:b=0\/b=1):((c=1\/b=1)/\(aW { B with tot:=0,now:= .tlR a d c 0 } b).2={ B with tot:=0,now:= .tlR a d (c+1) 0 })\/(c≠1/\b=0/\(aW { B with tot:=0,now:= .tlR a d c 0 } b).2={ B with tot:=if true=true then 1 else 8,now:= .flag 6 true }):=by
 rw[lH rfl]
 have e:bJ ({ B with tot:=0,now:= .tlR a d c 0 }:PS).vt false c 0 b=if dF false c b=true then ("fault":Str) else ("more":Str):=if_neg (by lia)
 rw[e]
 by_cases f:c≠1/\b=0
 ·have:dF false c b=true:=by unfold dF;rw[if_neg f.1,f.2];rfl
  rw[if_pos this,if_neg gH.2.1,if_pos rfl]
  exact .inr ⟨f.1,f.2,cQ rfl false⟩
 ·have :¬ dF false c b=true:=by
   unfold dF
   by_cases c1:c=1
   ·rw[if_pos c1];exact Yr
   ·rw[if_neg c1]
    have:b≠0:=λz=>f ⟨c1,z⟩
    simpa using this
  rw[if_neg this,if_pos rfl,wD g]
  refine .inl ⟨?_,rfl⟩
  by_cases c1:c=1
  ·exact .inl c1
  ·exact .inr (h.resolve_left λz=>f ⟨c1,z⟩)
def wB {B:PS}(g:c<=8)(a:b=0\/b=1):(b=tbt c/\(aW { B with tot:=0,now:= .tlS c 0 } b).2={ B with tot:=0,now:= .tlS (c+1) 0 })\/(b≠tbt c/\(aW { B with tot:=0,now:= .tlS c 0 } b).2={ B with tot:=if false=true then 1 else 8,now:= .flag 6 false }):=by
 rw[jW rfl]
 have e:bJ ({ B with tot:=0,now:= .tlS c 0 }:PS).vt true c 0 b=if dF true c b=true then ("fault":Str) else ("more":Str):=if_neg (by lia)
 rw[e]
 have f:dF true c b=true↔b≠tbt c:=by
  unfold dF tbt
  by_cases c1:c=1
  ·rw[if_pos c1,if_pos c1]
   rcases a with rfl | rfl <;> decide
  ·rw[if_neg c1,if_neg c1]
   rcases a with rfl | rfl <;> decide
 by_cases d:b=tbt c
 ·rw[if_neg (λz=>f.mp z d),if_pos rfl,wD g]
  exact .inl ⟨d,rfl⟩
 ·rw[if_pos (f.mpr d),if_neg gH.2.1,if_pos rfl]
  exact .inr ⟨d,cQ rfl true⟩
def cM:hrd none b i=b:=if_neg (by simp)
def nY (j:Nat)(a:j<=(wr n ds).length):Wm.run ((wr n ds).take j)<=5:=lF (fb (n:Int) ds) j a
def vZ (b:FrN (n,ds))(a:j<(wr n ds).length):(wr n ds).getD j 0=0\/(wr n ds).getD j 0=1:=by rw[getD_get a];exact(lD b).wbits _ (YE a)
def a3S {B:PS}(b:FrN (n,ds))(m:j<(wr n ds).length)(c:18<=j)(d:(wr n ds).getD j 0=1):(aW { B with tot:=0,now:= .speaks n ds j } 0).2={ B with tot:=if false=true then 1 else 8,now:= .flag 6 false }:=by
 have a:¬ (kp ((wr n ds).take j)).length<9:=λz=>by
  have f:bF ((wr n ds).take j):=λx g=>(lD b).wbits x (Y1 g)
  have h:Good ((wr n ds).take j):=λk i=>by
   rw[Yj]at i
   rw[List.take_take,XB (by lia)]
   exact nY k (by lia)
  have e:=wN f h
  have l:=(kJ (kp ((wr n ds).take j))).2
  have lt:((wr n ds).take j).length=j:=by rw[Yj];lia
  rw[e]at l
  split at l
  ·rw[Yc,lt]at l;lia
  ·rw[lt]at l;lia
 rw[bG rfl]
 split
 ·exact cQ rfl true
 ·rw[if_neg λz=>a z.2.2,if_neg (by rw[d];decide)]
  exact cQ rfl true
structure DW (B:Nat->PS)(j:Nat)(s:List PS):Prop where
 ex:∃(q n:Nat)(ds:List Int)(x:Nat->Prop)(st:Stc),WPh B 0 q n ds x j s/\Xs B x st s/\(∃p,x p/\p<s.length)/\DpW (∀i,x i->(B i).wt= []) (∀i i',x i->x i'->i=i') ((wr n ds).take j) st
structure DT (B:Nat->PS)(c:Nat)(s:List PS):Prop where
 ex:∃(q n:Nat)(ds:List Int)(x:Nat->Prop)(st:Stc),TPh B 0 0 q n ds x c s/\Xs B x st s/\(∃p,x p/\p<s.length)/\DpT (wr n ds) c st
def b0Q (a:FrN (n,ds))(g:j<=(wr n ds).length):j<=2*(kp ((wr n ds).take j)).length:=by
 have b:bF ((wr n ds).take j):=λx c=>(lD a).wbits x (Y1 c)
 have d:Good ((wr n ds).take j):=λk f=>by
  rw[Yj]at f
  rw[List.take_take,XB (by lia)]
  exact nY k (by lia)
 have e:=wN b d
 have l:=(kJ (kp ((wr n ds).take j))).2
 have lt:((wr n ds).take j).length=j:=by rw[Yj];lia
 rw[e]at l
 split at l
 ·rw[Yc,lt]at l;lia
 ·rw[lt]at l;lia
def dZ (h:j=w.length):w.take j=w:=by rw[h];exact Yi (Yd _)
def DW.step {B: Nat->PS}{s:List PS}(hD:DW B j s)(wf:∀(i:Nat)(S:PS),s[i]? =some S->Wf S)(v1:∀i,1<=(B i).vt):R1 B 6 (bH none s)\/DW B (j+1) (bH none s)\/DT B 0 (bH none s):=by
 obtain⟨q,n,ds,x,Q,h,ex,⟨p,X,pl⟩,G⟩:=hD.ex
 have Y:=b2A h wf v1 ex (b1H G)
 have M:=h.hf
 have hl:=(jH M).1
 have v:=vZ M h.jl
 have H:=take_snoc h.jl
 have lt:((wr n ds).take j).length=j:=by rw[Yj];have:=h.jl;lia
 have g1:=nY (n:=n) (ds:=ds) (j+1) h.jl
 have R:s[p]? =some { B p with tot:=0,now:=Q }:=by
  have e:=Yb pl
  rw[e,ex p _ X e]
 have T:∃p,x p/\p<(bH none s).length:=⟨p,X,by rw[gZ];exact pl⟩
 have L:∀{o:Stc}{b:Int},cP s=b->(∀i,x i->(aW { B i with tot:=0,now:=Q } b).2={ B i with tot:=0,now:=o })->Xs B x o (bH none s):=λ{o b} f eh i S' g e=>by
  obtain⟨S,U,rfl⟩:=dR e
  rw[cM,f,ex i S g U]
  exact eh i g
 have go:∀o,cP s=(wr n ds).getD j 0->(∀i,x i->(aW { B i with tot:=0,now:=Q } ((wr n ds).getD j 0)).2={ B i with tot:=0,now:=o })->DpW (∀i,x i->(B i).wt= []) (∀i i',x i->x i'->i=i') ((wr n ds).take (j+1)) o->(j+1=(wr n ds).length->DpT (wr n ds) 0 o)->R1 B 6 (bH none s)\/DW B (j+1) (bH none s)\/DT B 0 (bH none s):=λo f eh d1 d2=>by
  have S:=h.step (Z:=0) (wp:=none) λi _=>by rw[cM,f]
  by_cases c:j+1=(wr n ds).length
  ·exact .inr (.inr ⟨q,n,ds,x,o,S.2 c,L f eh,T,d2 c⟩)
  ·have:j+1<(wr n ds).length:=by have:=h.jl;lia
   exact .inr (.inl ⟨q,n,ds,x,o,S.1 this,L f eh,T,d1⟩)
 have V:(∀i,x i->(wr n ds).getD j 0=1->bI { B i with tot:=0,now:=Q }≠0)->cP s=(wr n ds).getD j 0:=λW=>h.bit λi S g e z=>by
  rw[ex i S g e]
  exact W i g z
 have E:∀m:Bool,(aW { B p with tot:=0,now:=Q } (cP s)).2={ B p with tot:=if m=true then 1 else 8,now:= .flag 6 m }->R1 B 6 (bH none s):=λm e=>bV Y R (by rw[cM];exact e)
 have C:s[q]? =some { B q with tot:=0,now:= .speaks n ds j }:=by
  obtain⟨t,t0,tT,eq⟩:=h.sp
  have:t=0:=by lia
  subst this
  exact eq
 cases Q with
 | free k=>
  obtain⟨J,e,N⟩:=G
  have W:∀i,x i->bI { B i with tot:=0,now:= .free k }=1:=λi g=>by rw[iQ (by decide),if_pos (J i g)]
  have f:=V λi g _=>by rw[W i g];decide
  rcases v with z | z
  ·refine go (.reads [0]) f (λi g=>by rw[z,dJ rfl,if_neg (by rw[W i g];decide),if_pos rfl]) (.inr ⟨e,by rw[H,N,z],rfl⟩) λc=>?_
   refine⟨by decide, [0],.inr ⟨e,?_,rfl⟩,rfl⟩
   rw[<-N,<-z,<-H,dZ c]
  ·refine go (.free (k+1)) f (λi g=>by rw[z,dJ rfl,if_neg (by rw[W i g];decide),if_neg (by decide)]) ⟨J,e+1,by rw[H,N,z,Xj];rfl⟩ λc=>?_
   exfalso
   have e5:=uW (w:=wr n ds) (k:=e+1) (lF (fb (n:Int) ds)) (by
    have:e+1=j:=by have:=lt;rw[N,Yo,YA]at this;exact this
    rw[this,H,N,z,<-this,Xj]
    rfl) (by have:=lt;rw[N,Yo,YA]at this;have:=h.jl;lia)
   have:=lt
   rw[N,Yo,YA]at this
   lia
 | reads hh=>
  have f:=V λi g _=>(by decide:(1:Int)≠0)
  have on:=(wf p _ R).now
  have gd:Good hh:=on.2.1.good
  have I:Rel ((wr n ds).take (j+1)) (hh++[(wr n ds).getD j 0]):=by rw[H];exact Rel.snoc G
  rcases a2D (B:=B p) (h:=hh) (b:=(wr n ds).getD j 0) with ⟨em,e⟩ | ⟨ew,e⟩ | e
  ·refine go (.reads (hh++[(wr n ds).getD j 0])) f (λi g=>?_) I λc=>⟨by decide,_,?_,(YD _).symm⟩
   ·rw[cI rfl,if_pos em]
   ·rw[dZ c]at I
    exact I
  ·have cm:=(jM ew).1
   have a0:27<=((wr n ds).take (j+1)).length:=by
    have:=Wm.kp_len (hh++[(wr n ds).getD j 0])
    have:=I.len
    have:=cm.2
    lia
   refine go (.tlR (nmB (kp (hh++[(wr n ds).getD j 0]))) (daB (kp (hh++[(wr n ds).getD j 0]))) 0 0) f (λi g=>by rw[cI rfl,ew,if_neg iJ.2.2.1.symm,if_pos rfl]) ⟨rfl,by decide,trivial,a0⟩ λc=>?_
   exfalso
   rw[dZ c]at I
   exact I.hard M gd ew
  ·exact .inl (E true (by rw[f];exact e))
 | speaks n1 ds1 k =>
  obtain⟨one,A,ek,kl,fl⟩:=G
  rw[lt]at ek
  subst ek
  have a1:=vZ A kl
  have l1:=(jH A).1
  have K:=take_snoc kl
  have a2:Good ((wr n1 ds1).take k):=λa ha=>by
   rw[Yj]at ha
   rw[List.take_take,XB (by lia)]
   exact nY a (by lia)
  have O:(wr n1 ds1).getD k 0=(wr n ds).getD k 0->Fl ((wr n ds).take (k+1)) ((wr n1 ds1).take (k+1)):=λz=>by
   rw[H,K,z];exact fl.snoc
  by_cases c:(wr n1 ds1).getD k 0=(wr n ds).getD k 0
  ·-- alike bits:both go on
   have f:=V λi g z=>by
    show (wr n1 ds1).getD k 0≠0
    rw[c,z];decide
   have stp:∀i,x i->(aW { B i with tot:=0,now:= .speaks n1 ds1 k } ((wr n ds).getD k 0)).2={ B i with tot:=0,now:=if k+1=(wr n1 ds1).length then .tlS 0 0 else .speaks n1 ds1 (k+1) }:=λi _=>by rw[<-c];exact pN rfl A kl
   by_cases ce:k+1=(wr n1 ds1).length
   ·refine go (.tlS 0 0) f (λi g=>by rw[stp i g,if_pos ce]) ⟨rfl,by decide,trivial,by rw[Yj];have:=h.jl;lia⟩ λcc=>?_
    exfalso
    have r:Rel (wr n ds) ((wr n1 ds1).take k++[(wr n1 ds1).getD k 0]):=by
     have:=O c
     rw[dZ cc,K]at this
     exact .inl this
    refine r.hard M a2 ?_
    rw[<-K,dZ ce]
    exact(lD A).whole
   ·refine go (.speaks n1 ds1 (k+1)) f (λi g=>by rw[stp i g,if_neg ce]) ⟨one,A,by rw[Yj];have:=h.jl;lia,by lia,O c⟩ λcc=>?_
    refine⟨by decide,A,by rw[<-cc],by lia,_,?_,(YD _).symm⟩
    have:=O c
    rw[dZ cc]at this
    exact .inl this
  ·by_cases o1 : (wr n1 ds1).getD k 0=1
   ·-- it says a one against a nought:it loses,or finds a fault
    have J:(wr n ds).getD k 0=0:=v.resolve_right λz=>c (o1.trans z.symm)
    have f:cP s=(wr n ds).getD k 0:=by rw[J];exact fX C J
    by_cases c6:ans ((wr n1 ds1).take k++[0])="six"
    ·refine .inl (E false ?_)
     rw[f,J,bG rfl,if_pos c6]
     exact cQ rfl true
    ·by_cases c9:(kp ((wr n1 ds1).take k)).length<9
     ·have I:Rel ((wr n ds).take (k+1)) ((wr n1 ds1).take k++[0]):=by rw[H,J];exact .inl fl.snoc
      refine go (.reads ((wr n1 ds1).take k++[0])) f (λi g=>by rw[J,bG rfl,if_neg c6,if_pos ⟨o1,rfl,c9⟩]) I λcc=>⟨by decide,_,?_,(YD _).symm⟩
      rw[dZ cc]at I
      exact I
     ·refine .inl (E false ?_)
      rw[f,J,bG rfl,if_neg c6,if_neg λz=>c9 z.2.2,if_neg (by rw[o1];decide)]
      exact cQ rfl true
   ·-- it says a nought against a one:the others lose,or the speaker finds a fault
    have o0:(wr n1 ds1).getD k 0=0:=a1.resolve_right o1
    have w1:(wr n ds).getD k 0=1:=v.resolve_left λz=>c (o0.trans z.symm)
    have f:cP s=0:=fX R o0
    by_cases c6:ans ((wr n ds).take k++[0])="six"
    ·refine .inl (bV (m:=false) Y C ?_)
     rw[cM,f,bG rfl,if_pos c6]
     exact cQ rfl true
    ·by_cases c9 :(kp ((wr n ds).take k)).length<9
     ·right; left
      have k2:=b0Q M (XD h.jl)
      have am : ans ((wr n ds).take k++[0])="more":=by
       rcases a0W ((wr n ds).take k++[0]) with z | z | z | z
       ·exact z
       ·exact absurd z c6
       all_goals
        exfalso
        have : lN (kp ((wr n ds).take k++[0])):=by
         unfold ans at z
         split at z
         ·cases z
         ·split at z
          ·cases z
          ·rename_i y
           exact Classical.byContradiction λu=>y (.inr u)
        have P:=this.1
        rw[Wm.kp_snoc]at P
        split at P
        ·lia
        ·rw[Yc,Yw]at P;lia
      refine⟨p,n1,ds1,λi=>i≠p,.reads ((wr n ds).take k++[0]),⟨A,by lia,by lia,λz=>z rfl,⟨0,Xy 0,Xy 0,?_⟩,λi S _ z y=>absurd y z⟩,λi S' g e=>?_,⟨q,λz=>h.xq (by rw[z];exact X),by rw[gZ];exact(Ye.mp C).1⟩,?_⟩
      ·have:=pN (S:={ B p with tot:=0,now:= .speaks n1 ds1 k }) rfl A kl
       rw[o0,if_neg (by lia)]at this
       rw[fQ R,cM,f,this]
      ·obtain ⟨S,U,rfl⟩:=dR e
       rw[cM,f]
       have nx:¬ x i:=λz=>g (one i p z X)
       by_cases cq:i=q
       ·subst cq
        rw[C]at U
        cases U
        rw[bG rfl,if_neg c6,if_pos ⟨w1,rfl,c9⟩]
       ·obtain⟨t,t0,tT,rfl | ⟨n2,a5,a3,a4,e2,_,rfl⟩⟩:=h.al i S U nx cq
        ·have:t=0:=by lia
         subst this
         rw[cI rfl,if_pos am]
        ·have:t=0:=by lia
         subst this
         obtain⟨_,_,cc | cc⟩:=mY M a3 a4 e2 h.jl
         ·rw[bG rfl]
          dsimp only
          rw[e2,if_neg c6,if_pos ⟨cc.1.trans w1,rfl,c9⟩]
         ·rw[w1]at cc;cases cc.2.1
      ·refine .inl ?_
       rw[K,o0]
       exact fl.symm.snoc
     ·refine .inl (bV (m:=false) Y C ?_)
      rw[cM,f,bG rfl,if_neg c6,if_neg λz=>c9 z.2.2,if_neg (by rw[w1];decide)]
      exact cQ rfl true
 | tlR a d c z=>
  obtain⟨rfl,c7,pt,len⟩:=G
  rw[lt]at len
  by_cases c1:c=1
  ·subst c1
   have b0:cP s=0:=fX R rfl
   rcases v with z | z
   ·have D:Pat ((wr n ds).take (j+1)) 2:=by rw[H,z];exact pt.zero
    refine go (.tlR a d 2 0) (b0.trans z.symm) (λi g=>?_) ⟨rfl,by decide,D,by rw[Yj];have:=h.jl;lia⟩ λcc=>⟨rfl,.inr (.inr (.inl ⟨rfl,by decide,by decide,?_⟩))⟩
    ·rw[z]
     rcases pK (B:=B i) (a:=a) (d:=d) (c:=1) (b:=0) (by decide) (.inl rfl) with ⟨_,e⟩ | ⟨y,_,_⟩
     ·exact e
     ·exact absurd rfl y
    ·rw[dZ cc]at D
     exact D
   ·exact .inl (bV (m:=false) Y C (by rw[cM,b0];exact a3S M h.jl (by lia) z))
  ·have f:=V λi g _=>(by show fH false c≠0;unfold fH;rw[if_neg λy=>c1 y.1];decide)
   by_cases z:(wr n ds).getD j 0=1
   ·have D:Pat ((wr n ds).take (j+1)) (c+1):=by rw[H,z];exact pt.one c1
    have F:=D.le g1
    refine go (.tlR a d (c+1) 0) f (λi g=>?_) ⟨rfl,F,D,by rw[Yj];have:=h.jl;lia⟩ λcc=>⟨rfl,.inr (.inr (.inl ⟨rfl,by lia,F,?_⟩))⟩
    ·rcases pK (B:=B i) (a:=a) (d:=d) (c:=c) (b:=(wr n ds).getD j 0) (by lia) v with ⟨_,e⟩ | ⟨_,y,_⟩
     ·exact e
     ·rw[z]at y;cases y
    ·rw[dZ cc]at D
     exact D
   ·rcases pK (B:=B p) (a:=a) (d:=d) (c:=c) (b:=(wr n ds).getD j 0) (by lia) v with ⟨y,e⟩ | ⟨_,_,e⟩
    ·exact absurd (y.resolve_left c1) z
    ·exact .inl (E true (by rw[f];exact e))
 | tlS c z=>
  obtain⟨rfl,c7,pt,len⟩:=G
  rw[lt]at len
  have f:=V λi g _=>(by show fH true c≠0;unfold fH;rw[if_neg λy=>by cases y.2];decide)
  by_cases z:(wr n ds).getD j 0=tbt c
  ·have D:Pat ((wr n ds).take (j+1)) (c+1):=by
    rw[H,z]
    unfold tbt
    by_cases c1:c=1
    ·subst c1;exact pt.zero
    ·rw[if_neg c1];exact pt.one c1
   have F:=D.le g1
   refine go (.tlS (c+1) 0) f (λi g=>?_) ⟨rfl,F,D,by rw[Yj];have:=h.jl;lia⟩ λcc=>⟨rfl,.inr (.inr (.inl ⟨rfl,by lia,F,?_⟩))⟩
   ·rcases wB (B:=B i) (c:=c) (b:=(wr n ds).getD j 0) (by lia) v with ⟨_,e⟩ | ⟨y,_⟩
    ·exact e
    ·exact absurd z y
   ·rw[dZ cc]at D
    exact D
  ·rcases wB (B:=B p) (c:=c) (b:=(wr n ds).getD j 0) (by lia) v with ⟨y,_⟩ | ⟨_,e⟩
   ·exact absurd y z
   ·exact .inl (E false (by rw[f];exact e))
 |flag l m=>exact G.elim
 |settles m=>exact G.elim
 |rests l=>exact G.elim
 |off=>exact G.elim
def b2B {s:List PS}{st:Stc}(h:TPh B 0 0 q n ds x c s)(a:c<=8)(wf:∀(i:Nat)(S:PS),s[i]? =some S->Wf S)(b:∀i,1<=(B i).vt)(ex:Xs B x st s)(d:Sh8 st):∀(i:Nat)(S:PS),s[i]? =some S->At8 (B i) S:=λi S e=>by
 refine⟨?_,wf i S e,b i⟩
 by_cases cp:x i
 ·exact⟨st,ex i S cp e,d⟩
 ·by_cases cq:i=q
  ·subst cq
   obtain⟨t,z,f,g,j,_,k⟩:=h.sp
   rw[k]at e
   cases e
   have:t=0:=by lia
   subst this
   exact⟨_,rfl,a,by lia⟩
  ·obtain⟨t,z,f,g,j,_,rfl⟩:=h.al i S e cp cq
   have:t=0:=by lia
   subst this
   exact⟨_,rfl,a,by lia⟩
def a0H (h:c<=8):hdT (c+1)=hdT c++[tbt c]:=by
 have:c=0\/c=1\/c=2\/c=3\/c=4\/c=5\/c=6\/c=7\/c=8:=by lia
 rcases this with rfl | rfl | rfl | rfl | rfl | rfl | rfl | rfl | rfl <;> rfl
def a8Y (a:List Int):ans (a++hdT 8)="six":=by
 refine jC ?_
 have e:a++hdT 8=a++(1::0::List.replicate (5+1) 1):=rfl
 rw[e,(oE a 5).2]
 decide
def zG {B:PS}(f:c<=8)(d:(c≠1/\b=0)\/(c=1/\b=1)):(aW { B with tot:=0,now:= .tlS c 0 } b).2={ B with tot:=if false=true then 1 else 8,now:= .flag 6 false }:=by
 rw[jW rfl]
 have e:bJ ({ B with tot:=0,now:= .tlS c 0 }:PS).vt true c 0 b="fault":=by
  unfold bJ
  rw[if_neg (by lia),if_pos]
  unfold dF
  rcases d with ⟨a,rfl⟩ | ⟨rfl,rfl⟩
  ·rw[if_neg a];rfl
  ·rfl
 rw[e,if_neg gH.2.1,if_pos rfl]
 exact cQ rfl true
def TPh.sp0 {s:List PS}(h:TPh B 0 0 q n ds x c s):s[q]? =some { B q with tot:=0,now:= .tlS c 0 }:=by
 obtain⟨t,z,b,d,e,_,a⟩:=h.sp
 have:t=0:=by lia
 subst this
 have:z=0:=by lia
 subst this
 exact a
def TPh.bit {s:List PS}(h:TPh B T Z q n ds x c s)(g:∀i S,x i->s[i]? =some S->bI S=1):(c≠1->cP s=1)/\(c=1->(∃i,i<s.length/\¬ x i/\i≠q)->cP s=0)/\((¬ ∃i,i<s.length/\¬ x i/\i≠q)->cP s=1):=by
 obtain⟨t,z,_,_,_,_,e⟩:=h.sp
 have f:(∀i S,s[i]? =some S->¬ x i->i≠q->bI S≠0)->cP s=1:=λj=>jL λi S a=>by
  by_cases cx:x i
  ·rw[g i S cx a];decide
  ·by_cases b:i=q
   ·subst b
    rw[e]at a
    cases a
    show fH true c≠0
    unfold fH
    rw[if_neg λy=>by cases y.2]
    decide
   ·exact j i S a cx b
 refine⟨λd=>f λi S a cx b=>?_,λd ⟨i,k,cx,b⟩=>?_,λl=>f λi S a cx b=>absurd ⟨i,(Ye.mp a).1,cx,b⟩ l⟩
 ·obtain⟨m,o,_,_,_,_,rfl⟩:=h.al i S a cx b
  show fH false c≠0
  unfold fH
  rw[if_neg λy=>d y.1]
  decide
 ·have a:s[i]? =some s[i]:=Yb k
  obtain⟨m,o,_,_,_,_,eS⟩:=h.al i _ a cx b
  refine fX a ?_
  rw[eS]
  show fH false c=0
  exact if_pos ⟨d,rfl⟩
def DT.step {s:List PS}(hD:DT B c s)(c8:c<=8)(wf:∀(i:Nat)(S:PS),s[i]? =some S->Wf S)(hv:∀i,(B i).vt=v)(v1:1<=v):R1 B 6 (bH none s)\/(c+1<=8/\DT B (c+1) (bH none s)):=by
 obtain⟨q,n,ds,x,H,h,ex,⟨p,W,pl⟩,j⟩:=hD.ex
 have X:=b2B h c8 wf (λi=>by rw[hv];exact v1) ex (b1I j)
 have e0:=h.sp0
 have hf:=h.hf
 have hl:=(jH hf).1
 have N:s[p]? =some { B p with tot:=0,now:=H }:=by
  have e:=Yb pl
  rw[e,ex p _ W e]
 have go:∀w,cP s=tbt c->(∀i,x i->(aW { B i with tot:=0,now:=H } (tbt c)).2={ B i with tot:=0,now:=w })->c+1<=8->DpT (wr n ds) (c+1) w->R1 B 6 (bH none s)\/(c+1<=8/\DT B (c+1) (bH none s)):=λw f G c9 d1=>by
  refine .inr ⟨c9,q,n,ds,x,w,?_,λi S' A e=>?_,⟨p,W,by rw[gZ];exact pl⟩,d1⟩
  ·exact(h.step (Z':=0) (wp:=none) (by decide) hv (Yd _) (YV _) v1 (by lia) λi S z _ _ _ _=> .inr ⟨c8,.inl (by rw[cM,f])⟩).1 (by lia)
  ·obtain⟨S,e1,rfl⟩:=dR e
   rw[cM,f,ex i S A e1]
   exact G i A
 have C:∀m:Bool,(aW { B p with tot:=0,now:=H } (cP s)).2={ B p with tot:=if m=true then 1 else 8,now:= .flag 6 m }->R1 B 6 (bH none s):=λm e=>bV (m:=m) X N (by rw[cM];exact e)
 have O:(c≠1/\cP s=0)\/(c=1/\cP s=1)->R1 B 6 (bH none s):=λy=>bV (m:=false) X e0 (by rw[cM];exact zG c8 y)
 have I:(∀i,x i->bI { B i with tot:=0,now:=H }=1)->cP s=tbt c\/R1 B 6 (bH none s):=λJ=>by
  have b:=h.bit λi S A e=>by rw[ex i S A e];exact J i A
  unfold tbt
  by_cases c1:c=1
  ·rw[if_pos c1]
   by_cases hr:∃i,i<s.length/\¬ x i/\i≠q
   ·exact .inl (b.2.1 c1 hr)
   ·exact .inr (O (.inr ⟨c1,b.2.2 hr⟩))
  ·rw[if_neg c1]
   exact .inl (b.1 c1)
 have D:tbt c=0\/tbt c=1:=by unfold tbt;split <;> decide
 have P:c≠1->tbt c=1:=λy=>if_neg y
 cases H with
 | reads hh=>
  obtain⟨c7,t,Q,rfl⟩:=j
  rcases I (λ_ _=>rfl) with f | r
  ·have K:t++hdT c++[tbt c]=t++hdT (c+1):=by rw[a0H c8,Ys]
   have Y:c=7->ans (t++hdT c++[tbt c])="six":=λz=>by rw[K,z];exact a8Y t
   rcases a2D (B:=B p) (h:=t++hdT c) (b:=tbt c) with ⟨R,e⟩ | ⟨T,e⟩ | e
   ·have Z:c≠7:=λz=>by rw[Y z]at R;exact iJ.2.2.2.1 R
    exact go (.reads (t++hdT c++[tbt c])) f (λi _=>by rw[cI rfl,if_pos R]) (by lia) ⟨by lia,t,Q,K⟩
   ·have Z:c≠7:=λz=>by rw[Y z]at T;exact iJ.2.2.2.2 T
    exact go (.tlR (nmB (kp (t++hdT c++[tbt c]))) (daB (kp (t++hdT c++[tbt c]))) 0 0) f (λi _=>by rw[cI rfl,T,if_neg iJ.2.2.1.symm,if_pos rfl]) (by lia) ⟨rfl,.inl ⟨rfl,by lia,by lia⟩⟩
   ·exact .inl (C true (by rw[f];exact e))
  ·exact .inl r
 | speaks n1 ds1 k=>
  obtain⟨c7,E,ek,L,t,Q,et⟩:=j
  have M:=vZ E L
  have U:=take_snoc L
  have F:cP s=tbt c->(wr n1 ds1).getD k 0=tbt c->R1 B 6 (bH none s)\/(c+1<=8/\DT B (c+1) (bH none s)):=λf o=>by
   have K:(wr n1 ds1).take (k+1)=t++hdT (c+1):=by rw[U,et,o,a0H c8,Ys]
   have Z:c≠7:=λz=>by
    have g:=nY (n:=n1) (ds:=ds1) (k+1) L
    rw[K,z]at g
    have e8:t++hdT (7+1)=t++(1::0::List.replicate (5+1) 1):=rfl
    rw[e8,(oE t 5).2]at g
    exact absurd g (by decide)
   have stp:∀i,x i->(aW { B i with tot:=0,now:= .speaks n1 ds1 k } (tbt c)).2={ B i with tot:=0,now:=if k+1=(wr n1 ds1).length then .tlS 0 0 else .speaks n1 ds1 (k+1) }:=λi _=>by rw[<-o];exact pN rfl E L
   by_cases ce:k+1=(wr n1 ds1).length
   ·exact go (.tlS 0 0) f (λi A=>by rw[stp i A,if_pos ce]) (by lia) ⟨rfl,.inl ⟨rfl,by lia,by lia⟩⟩
   ·exact go (.speaks n1 ds1 (k+1)) f (λi A=>by rw[stp i A,if_neg ce]) (by lia) ⟨by lia,E,by lia,by lia,t,Q,K⟩
  by_cases c1:c=1
  ·have V:tbt c=0:=if_pos c1
   rcases M with o | o
   ·exact F ((fX N o).trans V.symm) (o.trans V.symm)
   ·rcases I (λi _=>o) with f | r
    ·exact .inl (C false (by rw[f,V];exact a3S E L (by lia) o))
    ·exact .inl r
  ·rcases M with o | o
   ·exact .inl (O (.inl ⟨c1,fX N o⟩))
   ·rcases I (λi _=>o) with f | r
    ·exact F f (o.trans (P c1).symm)
    ·exact .inl r
 | tlR a d c' z=>
  obtain⟨rfl,j⟩:=j
  have u:c'<=8:=by unfold tlD at j;lia
  by_cases c1:c'=1
  ·subst c1
   have b0:cP s=0:=fX N rfl
   exact .inl (O (.inl ⟨by unfold tlD at j;lia,b0⟩))
  ·have J:∀i,x i->bI { B i with tot:=0,now:= .tlR a d c' 0 }=1:=λi _=>if_neg λy=>c1 y.1
   rcases I J with f | r
   ·by_cases z:tbt c=1
    ·have cn:c≠1:=λy=>by unfold tbt at z;rw[if_pos y]at z;cases z
     have G:∀i,x i->(aW { B i with tot:=0,now:= .tlR a d c' 0 } (tbt c)).2={ B i with tot:=0,now:= .tlR a d (c'+1) 0 }:=λi _=>by
      rcases pK (B:=B i) (a:=a) (d:=d) (c:=c') (b:=tbt c) u D with ⟨_,e⟩ | ⟨_,y,_⟩
      ·exact e
      ·rw[z]at y;cases y
     rcases j with y | y | y | y
     ·exact go _ f G (by lia) ⟨rfl,.inr (.inl ⟨by lia,by lia,by lia⟩)⟩
     ·exact absurd y.1 c1
     ·exact go _ f G (by lia) ⟨rfl,.inr (.inr (.inr ⟨by lia,by lia,by lia⟩))⟩
     ·exact absurd y.1 cn
    ·rcases pK (B:=B p) (a:=a) (d:=d) (c:=c') (b:=tbt c) u D with ⟨y,_⟩ | ⟨_,_,e⟩
     ·exact absurd (y.resolve_left c1) z
     ·exact .inl (C true (by rw[f];exact e))
   ·exact .inl r
 | tlS c' z=>
  obtain⟨rfl,j⟩:=j
  have u:c'<=8:=by unfold tlD at j;lia
  have J:∀i,x i->bI { B i with tot:=0,now:= .tlS c' 0 }=1:=λi _=>if_neg λy=>by cases y.2
  rcases I J with f | r
  ·by_cases z:tbt c=tbt c'
   ·have G:∀i,x i->(aW { B i with tot:=0,now:= .tlS c' 0 } (tbt c)).2={ B i with tot:=0,now:= .tlS (c'+1) 0 }:=λi _=>by
     rcases wB (B:=B i) (c:=c') (b:=tbt c) u D with ⟨_,e⟩ | ⟨y,_⟩
     ·exact e
     ·exact absurd z y
    have tt:∀a:Nat,a=1↔tbt a=0:=λa=>by unfold tbt;split <;> lia
    have t1:=tt c
    have t2:=tt c'
    rw[z]at t1
    have a0:c=1↔c'=1:=t1.trans t2.symm
    rcases j with y | y | y | y
    ·exact go _ f G (by lia) ⟨rfl,.inr (.inl ⟨by lia,by lia,by lia⟩)⟩
    ·exfalso;lia
    ·exact go _ f G (by lia) ⟨rfl,.inr (.inr (.inr ⟨by lia,by lia,by lia⟩))⟩
    ·exfalso;lia
   ·rcases wB (B:=B p) (c:=c') (b:=tbt c) u D with ⟨y,_⟩ | ⟨_,e⟩
    ·exact absurd y z
    ·exact .inl (C false (by rw[f];exact e))
  ·exact .inl r
 |free k=>exact j.elim
 |flag l m=>exact j.elim
 |settles m=>exact j.elim
 |rests l=>exact j.elim
 |off=>exact j.elim
structure D2 (B:Nat->PS)(e:Nat)(s:List PS):Prop where
 al:∀(i:Nat)(S:PS),s[i]? =some S->∃Y:List Int,Y.length<=18/\S={ B i with tot:=0,now:= .reads (Y++List.replicate e 1) }
 one:∃(p:Nat)(Y:List Int),p<s.length/\Y.length<=18/\(Wm.sk Y).1=some 1/\s[p]? =some { B p with tot:=0,now:= .reads (Y++List.replicate e 1) }
def sE (Y:List Int)(e:Nat):Y++List.replicate (e+1) 1=(Y++List.replicate e 1)++[(1:Int)]:=by rw[Xj,Ys]
theorem a3M {Y:List Int}(h:(Wm.sk Y).1=some 1)(h0:1<=Wm.run Y):∀e,(Wm.sk (Y++List.replicate e 1)).1=some 1/\e+1<=Wm.run (Y++List.replicate e 1)
 |0=>by rw[Ju,YD];exact⟨h,h0⟩
 | e+1=>by
  obtain⟨a,b⟩:=a3M h h0 e
  rw[sE]
  refine⟨Wm.last_snoc _ _,?_⟩
  rw[Wm.run_snoc,if_pos a]
  lia
def vX (l:h.length<=26):ans h="more"\/ans h="six":=by
 rcases a0W h with z | z | z | z
 ·exact .inl z
 ·exact .inr z
 all_goals
  exfalso
  have : lN (kp h):=by
   unfold ans at z
   split at z
   ·cases z
   ·split at z
    ·cases z
    ·rename_i y
     exact Classical.byContradiction λu=>y (.inr u)
  have a:=this.2
  have:=Wm.kp_len h
  lia
def D2.step {e:Nat}{s:List PS}(h:D2 B e s)(y:e<=4)(wf:∀(i:Nat)(S:PS),s[i]? =some S->Wf S)(o:∀i,1<=(B i).vt):R1 B 6 (bH none s)\/(e+1<=4/\D2 B (e+1) (bH none s)):=by
 have q:∀(i:Nat)(S:PS),s[i]? =some S->At8 (B i) S:=λi S a=>by
  obtain⟨Y,_,t⟩:=h.al i S a
  exact⟨⟨_,t,trivial⟩,wf i S a,o i⟩
 have d:cP s=1:=jL λi S a=>by
  obtain⟨Y,_,rfl⟩:=h.al i S a
  exact(by decide:(1:Int)≠0)
 have stp:∀{i:Nat}{Y:List Int},Y.length<=18->s[i]? =some { B i with tot:=0,now:= .reads (Y++List.replicate e 1) }->(ans (Y++List.replicate (e+1) 1)="more"/\(aW { B i with tot:=0,now:= .reads (Y++List.replicate e 1) } 1).2={ B i with tot:=0,now:= .reads (Y++List.replicate (e+1) 1) })\/R1 B 6 (bH none s):=λ{i Y} l a=>by
  rcases vX (h:=Y++List.replicate (e+1) 1) (by rw[Yc,YA];lia) with z | z
  ·left
   refine⟨z,?_⟩
   rw[sE]at z ⊢
   rw[cI rfl,if_pos z]
  ·right
   refine bV (m:=true) q a ?_
   rw[sE]at z
   rw[cM,d,cI rfl,z,if_neg iJ.2.2.2.1,if_neg iJ.2.2.2.2]
   exact cQ rfl false
 obtain⟨p,Y,pl,f,b,g⟩:=h.one
 have u:1<=Wm.run Y:=Wm.run_pos λz=>by rw[z]at b;cases b
 rcases stp f g with ⟨j,v⟩ | r
 ·by_cases c:R1 B 6 (bH none s)
  ·exact .inl c
  ·right
   have w:e+1<=4:=by
    have:=(a3M b u (e+1)).2
    by_cases c5:5<Wm.run (Y++List.replicate (e+1) 1)
    ·rw[jC c5]at j
     exact absurd j iJ.2.2.2.1
    ·lia
   refine⟨w,λi A a=>?_,⟨p,Y,by rw[gZ];exact pl,f,b,by rw[fQ g,cM,d,v]⟩⟩
   obtain⟨S,k,rfl⟩:=dR a
   obtain⟨x,n,rfl⟩:=h.al i S k
   refine⟨x,n,?_⟩
   rw[cM,d]
   rcases stp n k with z | z
   ·exact z.2
   ·exact absurd z c
 ·exact .inl r
structure D3 (B:Nat->PS)(e:Nat)(s:List PS):Prop where
 al:∀(i:Nat)(S:PS),s[i]? =some S->(B i).wt= []/\((∃k,S={ B i with tot:=0,now:= .free k })\/S={ B i with tot:=0,now:= .reads (0::List.replicate e 1) })
 one:∃p,s[p]? =some { B p with tot:=0,now:= .reads (0::List.replicate e 1) }
def D3.step {e:Nat}{s:List PS}(h:D3 B e s)(q:e<=5)(wf:∀(i:Nat)(S:PS),s[i]? =some S->Wf S)(d:∀i,1<=(B i).vt):R1 B 6 (bH none s)\/(e+1<=5/\D3 B (e+1) (bH none s)):=by
 have l:∀(i:Nat)(S:PS),s[i]? =some S->At8 (B i) S:=λi S a=>by
  rcases (h.al i S a).2 with ⟨k,hS⟩ | hS
  ·exact⟨⟨_,hS,trivial⟩,wf i S a,d i⟩
  ·exact⟨⟨_,hS,trivial⟩,wf i S a,d i⟩
 have fs:∀{i k:Nat},(B i).wt= []->bI { B i with tot:=0,now:= .free k }=1:=λ{i k} b=>by rw[iQ (by decide),if_pos b]
 have c:cP s=1:=jL λi S a=>by
  obtain⟨b,⟨k,rfl⟩ | rfl⟩:=h.al i S a
  ·rw[fs b];decide
  ·exact(by decide:(1:Int)≠0)
 obtain⟨p,f⟩:=h.one
 have g:∀e,(0::List.replicate e 1)++[(1:Int)]=0::List.replicate (e+1) 1:=λe=>by rw[Xj];rfl
 rcases vX (h:=0::List.replicate (e+1) 1) (by rw[Yo,YA];lia) with z | z
 ·right
  have n:e+1<=5:=by
   by_cases c5:5<Wm.run (0::List.replicate (e+1) 1)
   ·rw[jC c5]at z
    exact absurd z iJ.2.2.2.1
   ·unfold Wm.run at c5
    rw[Wm.ones_sk (e+1) (by lia)]at c5
    exact Nat.le_of_not_lt c5
  have j:∀i,(aW { B i with tot:=0,now:= .reads (0::List.replicate e 1) } 1).2={ B i with tot:=0,now:= .reads (0::List.replicate (e+1) 1) }:=λi=>by
   rw[cI rfl,g,if_pos z]
  refine⟨n,λi r a=>?_,⟨p,by rw[fQ f,cM,c,j]⟩⟩
  obtain⟨S,o,rfl⟩:=dR a
  rw[cM,c]
  obtain⟨b,⟨k,rfl⟩ | rfl⟩:=h.al i S o
  ·exact⟨b,.inl ⟨k+1,by rw[dJ rfl,if_neg (by rw[fs b];decide),if_neg (by decide)]⟩⟩
  ·exact⟨b,.inr (j i)⟩
 ·left
  refine bV (m:=true) l f ?_
  rw[cM,c,cI rfl,g,z,if_neg iJ.2.2.2.1,if_neg iJ.2.2.2.2]
  exact cQ rfl false
abbrev non:Nat->Prop:=λ_=>False
def qZ {p:Nat}(h:i≠p):hrd (some p) b i=b:=if_neg λz=>h (Yp z).symm
def iD {p:Nat}:hrd (some p) b p=1-b:=if_pos rfl
def a1H {p:Nat}{s:List PS}(h:RPh B 0 l s)(pl:p<s.length)(wf:∀(i:Nat)(S:PS),s[i]? =some S->Wf S)(c:∀i,1<=(B i).vt):R1 B 6 (bH (some p) s):=by
 have a:∀(i:Nat)(S:PS),s[i]? =some S->S={ B i with tot:=0,now:= .rests l }:=λi S e=>by
  obtain⟨t,f,g,rfl⟩:=h i S e
  have:t=0:=by lia
  subst this
  rfl
 have d:cP s=1:=jL λi S e=>by rw[a i S e];exact(by decide:(1:Int)≠0)
 have b:=Yb pl
 rw[a p _ b]at b
 refine bV (m:=true) (λi S e=>⟨⟨_,a i S e,trivial⟩,wf i S e,c i⟩) b ?_
 rw[iD,d,gR rfl,if_pos (by decide)]
 exact cQ rfl false
def FPh.zero {s:List PS}(h:FPh B 0 s)(i:Nat)(S:PS)(e:s[i]? =some S):∃k,S={ B i with tot:=0,now:= .free k }:=by
 obtain⟨t,k,a,b,rfl⟩:=h i S e
 have:t=0:=by lia
 subst this
 exact⟨k,rfl⟩
def a1I {p:Nat}{s:List PS}(h:FPh B 0 s)(pl:p<s.length)(g:∀i,i<s.length->(B i).wt= []):D3 B 0 (bH (some p) s):=by
 have lt:∀{i:Nat}{S:PS},s[i]? =some S->i<s.length:=λe=>(Ye.mp e).1
 have d:∀(i:Nat)(S:PS),s[i]? =some S->bI S=1:=λi S e=>by
  obtain⟨k,rfl⟩:=h.zero i S e
  rw[iQ (by decide),if_pos (g i (lt e))]
 have j:cP s=1:=jL λi S e=>by rw[d i S e];decide
 have a:∀(S:PS),s[p]? =some S->(aW S (hrd (some p) (cP s) p)).2={ B p with tot:=0,now:= .reads (0::List.replicate 0 1) }:=λS e=>by
  have f:=d p S e
  obtain⟨k,rfl⟩:=h.zero p S e
  rw[iD,j,dJ rfl,if_neg (by rw[f];decide),if_pos (by decide)]
  rfl
 refine⟨λi m e=>?_,⟨p,by have l:=Yb pl;rw[fQ l,a _ l]⟩⟩
 obtain⟨S,b,rfl⟩:=dR e
 refine⟨g i (lt b),?_⟩
 by_cases c:i=p
 ·subst c
  exact .inr (a S b)
 ·left
  have f:=d i S b
  obtain⟨k,rfl⟩:=h.zero i S b
  exact⟨k+1,by rw[qZ c,j,dJ rfl,if_neg (by rw[f];decide),if_neg (by decide)]⟩
def yG {p:Nat}{f:Fr}{s:List PS}(h:FPh B 0 s)(pl:p<s.length)(W:Win s.length B q f)(wf:∀(i:Nat)(S:PS),s[i]? =some S->Wf S)(j:∀i,1<=(B i).vt):R1 B 6 (bH (some p) s)\/DW B 1 (bH (some p) s):=by
 have d:cP s=0:=(h.begin (x:=non) (wp:=none) (by decide) W (λz=>z) (λi _=>by simp)).1
 have a:=Yb pl
 obtain⟨k,eS⟩:=h.zero p _ a
 rw[eS]at a
 have b:=iQ (B:=B p) (t:=0) (k:=k) (by decide)
 by_cases w0:(B p).wt= []
 ·right
  rw[if_pos w0]at b
  have l:p≠q:=λz=>by
   have e:=W.eq
   rw[<-z,w0]at e
   cases e
  have wp:=(h.begin (x:=λi=>i=p) (wp:=some p) (by decide) W (λz=>l z.symm) (λi z y=>z (Yp y).symm)).2
  refine⟨q,f.1,f.2,λi=>i=p,.free (k+1),wp,λi n c e=>?_,⟨p,rfl,by rw[gZ];exact pl⟩,λi c=>by rw[c];exact w0,0,pJ⟩
  subst c
  obtain⟨S,g,rfl⟩:=dR e
  rw[a]at g
  cases g
  rw[iD,d,dJ rfl,if_neg (by rw[b];decide),if_neg (by decide)]
 ·left
  rw[if_neg w0]at b
  refine bV (m:=false) (λi S e=>?_) a ?_
  ·obtain⟨o,rfl⟩:=h.zero i S e
   exact⟨⟨_,rfl,trivial⟩,wf i _ e,j i⟩
  ·rw[iD,d,dJ rfl,if_pos b,if_neg (by decide)]
   exact cQ rfl true
def a1G {p:Nat}{s:List PS}(h:TPh B 0 0 q n ds non c s)(pl:p<s.length)(w:2<=s.length)(k:∀i,(B i).vt=v)(x:2<=v)(o:c<9+v)(wf:∀(i:Nat)(S:PS),s[i]? =some S->Wf S):
  R1 B 6 (bH (some p) s)\/(c<8+v/\TPh B 0 1 q n ds non (c+1) (bH (some p) s))\/(c=8+v/\RPh (nxB B q (n,ds)) 0 3 (bH (some p) s)):=by
 have f:cP s=tbt c:=by
  have b:=h.bit λi S g e=>g.elim
  unfold tbt
  by_cases c1:c=1
  ·rw[if_pos c1]
   refine b.2.1 c1 ?_
   by_cases z:q=0
   ·exact⟨1,by lia,λy=>y,by lia⟩
   ·exact⟨0,by lia,λy=>y,λy=>z y.symm⟩
  ·rw[if_neg c1];exact b.1 c1
 have go:(∀i S z,s[i]? =some S->¬ non i->(c<=9->z=0)->z<=0->TOk 1 q c i (hrd (some p) (cP s) i) z)->(c<8+v/\TPh B 0 1 q n ds non (c+1) (bH (some p) s))\/(c=8+v/\RPh (nxB B q (n,ds)) 0 3 (bH (some p) s)):=λok=>by
  have S:=h.step (Z':=1) (wp:=some p) (by decide) k (by decide) (by lia) (by lia) o ok
  by_cases c1:c=8+v
  ·exact .inr ⟨c1,S.2 c1 λ_ z=>z⟩
  ·exact .inl ⟨by lia,S.1 (by lia)⟩
 by_cases c9:9<=c
 ·refine .inr (go λi S z _ _ _ r=> .inl ⟨c9,?_⟩)
  unfold tlN
  split <;> lia
 ·have l:=b2B (st:= .free 0) h (by lia) wf (λi=>by rw[k];lia) (λi S g _=>g.elim) trivial
  by_cases pq:p=q
  ·subst pq
   left
   refine bV (m:=false) l h.sp0 ?_
   rw[iD,f]
   refine zG (by lia) ?_
   unfold tbt
   by_cases c1:c=1
   ·rw[if_pos c1];exact .inr ⟨c1,by decide⟩
   ·rw[if_neg c1];exact .inl ⟨c1,by decide⟩
  ·by_cases c1:c=1
   ·refine .inr (go λi S z _ _ _ r=> .inr ⟨by lia,?_⟩)
    by_cases ip:i=p
    ·exact .inr ⟨c1,by rw[ip];exact pq⟩
    ·left
     rw[qZ ip,f]
   ·left
    have j:=Yb pl
    obtain⟨t,z,A,C,D,_,eS⟩:=h.al p _ j (λy=>y) pq
    have:t=0:=by lia
    subst this
    have:z=0:=by lia
    subst this
    rw[eS]at j
    refine bV (m:=true) l j ?_
    have u:tbt c=1:=if_neg c1
    rw[iD,f,u]
    rcases pK (B:=B p) (a:=n) (d:=ds) (c:=c) (b:=1-1) (by lia) (.inl rfl) with ⟨y,_⟩ | ⟨_,_,e⟩
    ·exact absurd (y.resolve_left c1) (by decide)
    ·exact e
theorem sX (P:Nat->Nat->Prop):∀(b i n:Nat),n<=b->P i n->∃i n,P i n/\∀i' n',P i' n'->n<=n'
 |0,i,n,hb,h=>⟨i,n,h,λ_ _ _=>by lia⟩
 | b +1,i,n,hb,h=>by
  by_cases c:∃i' n',P i' n'/\n'<n
  ·obtain⟨i',n',h',lt⟩:=c
   exact sX P b i' n' (by lia) h'
  ·exact⟨i,n,h,λi' n' h'=>Nat.le_of_not_lt λz=>c ⟨i',n',h',z⟩⟩
def a1F {p:Nat}{s:List PS}(h:WPh B 0 q n ds non j s)(pl:p<s.length)(m2:2<=s.length)(wf:∀(i:Nat)(S:PS),s[i]? =some S->Wf S)(v1:∀i,1<=(B i).vt)(a0:∀i i' f f',i<s.length->i'<s.length->i≠i'->(B i).wt.head? =some f->(B i').wt.head? =some f'->f.1≠f'.1):
  R1 B 6 (bH (some p) s)\/DW B (j+1) (bH (some p) s)\/DT B 0 (bH (some p) s)\/D2 B 0 (bH (some p) s):=by
 have K:=h.hf
 have hl:=(jH K).1
 have a8:=b2A (st:= .free 0) h wf v1 (λi S A _=>A.elim) trivial
 have E:cP s=(wr n ds).getD j 0:=h.bit λi S A _=>A.elim
 have a2:=vZ K h.jl
 have ts:=take_snoc h.jl
 have lt:((wr n ds).take j).length=j:=by rw[Yj];have:=h.jl;lia
 have M:∀{l:List PS}{i:Nat}{S:PS},l[i]? =some S->i<l.length:=λe=>(Ye.mp e).1
 have v:∀b:Int,b=1-(wr n ds).getD j 0->Fl ((wr n ds).take (j+1)) ((wr n ds).take j++[b]):=λb eb=>by
  refine⟨j,h.j1,by rw[Yj];have:=h.jl;lia,?_⟩
  have g:((wr n ds).take (j+1)).getD j 0=(wr n ds).getD j 0:=by rw[Yf,Y9 (by lia),<-Yf]
  rw[g,ts,List.set_append_right _ _ (by rw[lt];exact Yd _),lt,X1,<-eb]
  rfl
 have N:s[q]? =some { B q with tot:=0,now:= .speaks n ds j }:=by
  obtain⟨t,O,P,eq⟩:=h.sp
  have:t=0:=by lia
  subst this
  exact eq
 have X:WPh B 0 q n ds (λi=>i=p) j s\/p=q:=by
  by_cases pq:p=q
  ·exact .inr pq
  ·exact .inl ⟨h.hf,h.j1,h.jl,λz=>pq z.symm,h.sp,λi S e _ cq=>h.al i S e (λz=>z) cq⟩
 rcases X with X | pq
 ·-- another one than the speaker
  have pq:p≠q:=λz=>X.xq z.symm
  have go:∀u,(bH (some p) s)[p]? =some { B p with tot:=0,now:=u }->DpW (∀i,i=p->(B i).wt= []) (∀i i',i=p->i'=p->i=i') ((wr n ds).take (j+1)) u->(j+1=(wr n ds).length->DpT (wr n ds) 0 u)->R1 B 6 (bH (some p) s)\/DW B (j+1) (bH (some p) s)\/DT B 0 (bH (some p) s)\/D2 B 0 (bH (some p) s):=λu C k L=>by
   have S:=X.step (Z:=0) (wp:=some p) λi ni=>by rw[qZ ni,E]
   have xs:Xs B (λi=>i=p) u (bH (some p) s):=λi x A e=>by
    rw[A,C]at e
    cases e
    rw[A]
   have Q:∃i,i=p/\i<(bH (some p) s).length:=⟨p,rfl,by rw[gZ];exact pl⟩
   by_cases c:j+1=(wr n ds).length
   ·exact .inr (.inr (.inl ⟨q,n,ds,_,u,S.2 c,xs,Q,L c⟩))
   ·have:j+1<(wr n ds).length:=by have:=h.jl;lia
    exact .inr (.inl ⟨q,n,ds,_,u,S.1 this,xs,Q,k⟩)
  have C:=Yb pl
  obtain⟨t,O,P,eS⟩:=h.al p _ C (λz=>z) pq
  have:t=0:=by lia
  subst this
  have R:∀Y:List Int,Y=(wr n ds).take j++[1-(wr n ds).getD j 0]->(bH (some p) s)[p]? =some { B p with tot:=0,now:= .reads Y }->R1 B 6 (bH (some p) s)\/DW B (j+1) (bH (some p) s)\/DT B 0 (bH (some p) s)\/D2 B 0 (bH (some p) s):=λY eh e=>by
   have I:Rel ((wr n ds).take (j+1)) Y:=by rw[eh];exact .inl (v _ rfl)
   refine go _ e I λc=>⟨by decide,_,?_,(YD _).symm⟩
   rw[dZ c]at I
   exact I
  rcases eS with eS | ⟨d,k,o,a1,T,_,eS⟩
  ·rw [eS]at C
   have gd:Good ((wr n ds).take j):=by
    have w:=(wf p _ C).now
    exact w.2.1.good
   rcases a2D (B:=B p) (h:=(wr n ds).take j) (b:=1-(wr n ds).getD j 0) with ⟨_,e⟩ | ⟨ew,e⟩ | e
   ·exact R _ rfl (by rw[fQ C,iD,E,e])
   ·have I:Rel ((wr n ds).take (j+1)) ((wr n ds).take j++[1-(wr n ds).getD j 0]):= .inl (v _ rfl)
    have cm:=(jM ew).1
    refine go (.tlR (nmB (kp ((wr n ds).take j++[1-(wr n ds).getD j 0]))) (daB (kp ((wr n ds).take j++[1-(wr n ds).getD j 0]))) 0 0) (by rw[fQ C,iD,E,e]) ⟨rfl,by decide,trivial,?_⟩ λc=>?_
    ·have:=Wm.kp_len ((wr n ds).take j++[1-(wr n ds).getD j 0])
     have:=I.len
     have:=cm.2
     lia
    ·exfalso
     rw[dZ c]at I
     exact I.hard K gd ew
   ·exact .inl (bV (m:=true) a8 C (by rw[iD,E];exact e))
  ·rw [eS]at C
   obtain⟨a3,j1,cc⟩:=mY K o a1 T h.jl
   have U:(aW { B p with tot:=0,now:= .speaks d k j } (1-(wr n ds).getD j 0)).2=(bW { B p with tot:=0,now:= .speaks d k j } true).2->R1 B 6 (bH (some p) s):=λz=>bV (m:=false) a8 C (by rw[iD,E,z];exact cQ rfl true)
   rcases cc with cc | cc
   ·by_cases c6:ans ((wr d k).take j++[1-(wr n ds).getD j 0])="six"
    ·exact .inl (U (by rw[bG rfl,if_pos c6]))
    ·by_cases cl:(wr d k).getD j 0=1/\1-(wr n ds).getD j 0=0/\(kp ((wr d k).take j)).length<9
     ·exact R ((wr d k).take j++[1-(wr n ds).getD j 0]) (by rw[T]) (by rw[fQ C,iD,E,bG rfl,if_neg c6,if_pos cl])
     ·refine .inl (U ?_)
      rw[bG rfl,if_neg c6,if_neg cl,if_neg]
      show ¬ 1-(wr n ds).getD j 0=(wr d k).getD j 0
      rw[cc.1]
      lia
   ·refine go (.speaks d k (j+1)) ?_ ⟨λi i' a b=>by rw[a,b],o,by rw[Yj];have:=h.jl;lia,?_,?_⟩ λc=>by lia
    ·have q1:=pN (S:={ B p with tot:=0,now:= .speaks d k j }) rfl o j1
     have l1:=(jH o).1
     rw[cc.1,if_neg (by lia)]at q1
     rw[fQ C,iD,E,cc.2.1]
     exact YU some q1
    ·have l1:=(jH o).1
     lia
    ·rw[take_snoc j1,T,cc.1]
     exact v _ (by rw[cc.2.1];rfl)
 ·-- the speaker itself
  subst pq
  have U:(aW { B p with tot:=0,now:= .speaks n ds j } (1-(wr n ds).getD j 0)).2=(bW { B p with tot:=0,now:= .speaks n ds j } true).2->R1 B 6 (bH (some p) s):=λz=>bV (m:=false) a8 N (by rw[iD,E,z];exact cQ rfl true)
  by_cases c6:ans ((wr n ds).take j++[1-(wr n ds).getD j 0])="six"
  ·exact .inl (U (by rw[bG rfl,if_pos c6]))
  ·by_cases cl:(wr n ds).getD j 0=1/\1-(wr n ds).getD j 0=0/\(kp ((wr n ds).take j)).length<9
   ·have k2:=b0Q K (XD h.jl)
    have V:(bH (some p) s)[p]? =some { B p with tot:=0,now:= .reads ((wr n ds).take j++[1-(wr n ds).getD j 0]) }:=by rw[fQ N,iD,E,bG rfl,if_neg c6,if_pos cl]
    have ot:∀(i:Nat)(x:PS),(bH (some p) s)[i]? =some x->i≠p->Nw (B i) 0 n ds (j+1) x:=λi x e F=>by
     obtain⟨S,T,rfl⟩:=dR e
     rw[qZ F,E]
     exact((h.al i S T (λz=>z) F).step K h.jl).1 (by lia)
    by_cases sp:∃(i d:Nat)(k:List Int),i≠p/\FrN (d,k)/\n<d/\(wr d k).take (j+1)=(wr n ds).take (j+1)/\(B i).wt.head? =some (d,k)/\(bH (some p) s)[i]? =some { B i with tot:=0,now:= .speaks d k (j+1) }
    ·-- another one speaks on
     right;left
     obtain⟨i0,n0,d0,z0⟩:=sp
     obtain⟨r,d,⟨k,rp,o,ln,et,hd,er⟩,mn⟩:=sX (λi d=>∃k:List Int,i≠p/\FrN (d,k)/\n<d/\(wr d k).take (j+1)=(wr n ds).take (j+1)/\(B i).wt.head? =some (d,k)/\(bH (some p) s)[i]? =some { B i with tot:=0,now:= .speaks d k (j+1) }) n0 i0 n0 (Yd _) ⟨d0,z0⟩
     have l1:=(jH o).1
     refine⟨r,d,k,λi=>i=p,.reads ((wr n ds).take j++[1-(wr n ds).getD j 0]),⟨o,by lia,by lia,rp,⟨0,Xy 0,Xy 0,er⟩,λi x e A ir=>?_⟩,λi x A e=>?_,⟨p,rfl,by rw[gZ];exact pl⟩,?_⟩
     ·obtain⟨t,O,P,eS | ⟨W,L,G,J,H,D,eS⟩⟩:=ot i x e A
      ·exact⟨t,O,P,.inl (by rw[et];exact eS)⟩
      ·have:t=0:=by lia
       subst this
       have le:=mn i W ⟨L,A,G,J,H,D,by rw[e,eS]⟩
       have ne:=a0 r i _ _ (by rw[<-gZ (wp:=some p)];exact M er) (by rw[<-gZ (wp:=some p)];exact M e) (λz=>ir z.symm) hd D
       exact⟨0,O,P,.inr ⟨W,L,G,by have:d≠W:=ne;lia,by rw[H,et],D,eS⟩⟩
     ·rw[A,V]at e
      cases e
      rw[A]
     ·show Rel _ _
      rw[et]
      exact .inl (v _ rfl)
    ·-- nobody speaks on
     right;right;right
     have al:∀(i:Nat)(x:PS),(bH (some p) s)[i]? =some x->i≠p->x={ B i with tot:=0,now:= .reads ((wr n ds).take (j+1)) }:=λi x e F=>by
      obtain⟨t,O,P,eS | ⟨W,L,G,J,H,D,eS⟩⟩:=ot i x e F
      ·have:t=0:=by lia
       subst this
       exact eS
      ·have:t=0:=by lia
       subst this
       exact absurd ⟨i,W,L,F,G,J,H,D,by rw[e,eS]⟩ sp
     refine⟨λi x e=>?_,?_⟩
     ·by_cases F:i=p
      ·subst F
       rw[V]at e
       cases e
       exact⟨(wr n ds).take j++[1-(wr n ds).getD j 0],by rw[Yc,lt,Yw];lia,by rw[Ju,YD]⟩
      ·exact⟨(wr n ds).take (j+1),by rw[Yj];lia,by rw[Ju,YD];exact al i x e F⟩
     ·obtain⟨i,il,F⟩:∃i,i<(bH (some p) s).length/\i≠p:=by
       rw[gZ]
       by_cases z:p=0
       ·exact⟨1,by lia,by lia⟩
       ·exact⟨0,by lia,λy=>z y.symm⟩
      have ei:=Yb il
      refine⟨i,(wr n ds).take (j+1),il,by rw[Yj];lia,?_,by rw[Ju,YD,<-al i _ ei F];exact ei⟩
      rw[ts,cl.1]
      exact Wm.last_snoc _ _
   ·refine .inl (U ?_)
    rw[bG rfl,if_neg c6,if_neg cl,if_neg]
    show ¬ 1-(wr n ds).getD j 0=(wr n ds).getD j 0
    lia
abbrev LW (f:Fr):Nat:=(wr f.1 f.2).length
def tgo (v:Nat)(f:Nat->Fr):Nat->Nat->Nat
 |0,_=>0
 |r+1,k=>LW (f k)+12+v+tgo v f r (k+1)
def tg (v N:Nat)(f:Nat->Fr)(k:Nat):Nat:=tgo v f (N-k) k
def qM {f:Nat->Fr}(h:k<N):tg v N f k=LW (f k)+12+v+tg v N f (k+1):=by
 unfold tg
 rw[show N-k=N-(k+1)+1 by lia]
 rfl
def a1P {f:Nat->Fr}:tg v N f N=0:=by unfold tg;rw[X1];rfl
structure xZ (m v N:Nat)(B:Nat->Nat->PS)(q:Nat->Nat)(f:Nat->Fr):Prop where
 m2:2<=m
 v2:2<=v
 v5:v<=5
 vt:∀k i,(B k i).vt=v
 win:∀k,k<N->Win m (B k) (q k) (f k)
 nx:∀k,k<N->B (k+1)=nxB (B k) (q k) (f k)
 dn:∀i,i<m->(B N i).wt= []
 ds:∀k,k<=N->∀i i' g g',i<m->i'<m->i≠i'->(B k i).wt.head? =some g->(B k i').wt.head? =some g'->g.1≠g'.1
 ln:∀k,k<N->LW (f k)<=103
def Nm (v N:Nat)(B:Nat->Nat->PS)(q:Nat->Nat)(f:Nat->Fr)(T:Int)(Z k n:Nat)(s:List PS):Prop:=
 (FPh (B k) T s/\tg v N f k<=n)\/
 (k<N/\∃j,WPh (B k) T (q k) (f k).1 (f k).2 non j s/\LW (f k)-j+12+v+tg v N f (k+1)<=n)\/
 (k<N/\∃c,c<9+v/\TPh (B k) T Z (q k) (f k).1 (f k).2 non c s/\9+v-c+3+tg v N f (k+1)<=n)\/
 ∃l,1<=l/\l<=3/\RPh (B k) T l s/\l+tg v N f k<=n
def Dis (v N:Nat)(B:Nat->Nat->PS)(f:Nat->Fr)(k n:Nat)(s:List PS):Prop:=
 (∃j,DW (B k) j s/\j<=103/\129+tg v N f k<=n+j)\/
 (∃c,c<=8/\DT (B k) c s/\25+tg v N f k<=n+c)\/
 (∃e,e<=4/\D2 (B k) e s/\21+tg v N f k<=n+e)\/
 (∃e,e<=5/\D3 (B k) e s/\22+tg v N f k<=n+e)\/
 (∃d,1<=d/\d<=6/\R1 (B k) d s/\d+10+tg v N f k<=n)\/
 ∃L,L<=6/\R2 (B k) L s/\L+4+tg v N f k<=n
variable {B:Nat->Nat->PS}{q:Nat->Nat}{f:Nat->Fr}
def Nm.step (C:xZ m v N B q f){s:List PS}(g:T<=9)(u:Z<=v / 2)(t:s.length=m)(a:k<=N)(h:Nm v N B q f T Z k (n+1) s):∃k',(k<=k'/\k'<=N)/\Nm v N B q f T Z k' n (bH none s):=by
 have E:=C.m2
 have F:=C.v2
 rcases h with ⟨h,l⟩ | ⟨d,j,h,l⟩ | ⟨d,c,w,h,l⟩ | ⟨r,G,H,h,l⟩
 ·by_cases c:k<N
  ·rw[qM c]at l
   have W:=C.win k c
   rw[<-t]at W
   have b:=(h.begin (x:=non) (wp:=none) g W (λz=>z) (λi _=>by simp)).2
   exact⟨k,⟨Yd _,a⟩,.inr (.inl ⟨c,1,b,by have:=b.jl;unfold LW at l ⊢;lia⟩)⟩
  ·have:k=N:=by lia
   subst this
   exact⟨k,⟨Yd _,a⟩,.inl ⟨h.idle g (λi A=>C.dn i (t▸A)),by rw[a1P];exact YV _⟩⟩
 ·have o:cP s=(wr (f k).1 (f k).2).getD j 0:=h.bit λi S p _=>p.elim
  have S:=h.step (Z:=Z) (wp:=none) λi _=>by rw[cM,o]
  have jl:=h.jl
  by_cases c:j+1=LW (f k)
  ·exact⟨k,⟨Yd _,a⟩,.inr (.inr (.inl ⟨d,0,by lia,S.2 c,by unfold LW at l c;lia⟩))⟩
  ·have:j+1<LW (f k):=by unfold LW at c ⊢;lia
   exact⟨k,⟨Yd _,a⟩,.inr (.inl ⟨d,j+1,S.1 this,by unfold LW at l ⊢;lia⟩)⟩
 ·have o:cP s=tbt c:=by
   have b:=h.bit λi S p e=>p.elim
   unfold tbt
   by_cases c1:c=1
   ·rw[if_pos c1]
    refine b.2.1 c1 ?_
    by_cases z:q k=0
    ·exact⟨1,by lia,λy=>y,by lia⟩
    ·exact⟨0,by lia,λy=>y,λy=>z y.symm⟩
   ·rw[if_neg c1];exact b.1 c1
  have S:=h.step (Z':=Z) (wp:=none) g (C.vt k) (Yd _) u (by lia) w λi S z _ _ I D=>by
   rw[cM,o]
   by_cases c9:9<=c
   ·refine .inl ⟨c9,?_⟩
    unfold tlN tbt
    rw[if_neg (by lia)]
    exact D
   ·exact .inr ⟨by lia,.inl rfl⟩
  by_cases c1:c=8+v
  ·have r:=S.2 c1 λ_ z=>z
   rw[<-C.nx k d]at r
   exact⟨k+1,⟨XM _,d⟩,.inr (.inr (.inr ⟨3,by decide,by decide,r,by lia⟩))⟩
  ·exact⟨k,⟨Yd _,a⟩,.inr (.inr (.inl ⟨d,c+1,by lia,S.1 (by lia),by lia⟩))⟩
 ·by_cases c:r=1
  ·exact⟨k,⟨Yd _,a⟩,.inl ⟨h.step.2 c,by lia⟩⟩
  ·exact⟨k,⟨Yd _,a⟩,.inr (.inr (.inr ⟨r-1,by lia,by lia,h.step.1 (by lia),by lia⟩))⟩
def a1J (a:FrN (n,ds)):(wr n ds).length<=103:=by
 have h:=b8D (fb (n:Int) ds)
 have l:=kY (n:Int) ds
 have b:ds.length<=7:=a.2.1
 unfold wr
 lia
def Dis.step (C:xZ m v N B q f){s:List PS}(wf:∀(i:Nat)(S:PS),s[i]? =some S->Wf S)(h:Dis v N B f k (n+1) s):Nm v N B q f 9 1 k n (bH none s)\/Dis v N B f k n (bH none s):=by
 have D:=C.v2
 have g:∀i,1<=(B k i).vt:=λi=>by rw[C.vt];lia
 have a:R1 (B k) 6 (bH none s)->16+tg v N f k<=n->Nm v N B q f 9 1 k n (bH none s)\/Dis v N B f k n (bH none s):=λr l=> .inr (.inr (.inr (.inr (.inr (.inl ⟨6,by decide,by decide,r,by lia⟩)))))
 rcases h with ⟨j,h,E,l⟩ | ⟨c,p,h,l⟩ | ⟨e,t,h,l⟩ | ⟨e,u,h,l⟩ | ⟨d,F,G,h,l⟩ | ⟨L,H,h,l⟩
 ·have jl:j<103:=by
   obtain⟨I,J,y,x,K,w,_⟩:=h.ex
   exact Yh w.jl (a1J w.hf)
  rcases h.step wf g with r | r | r
  ·exact a r (by lia)
  ·exact .inr (.inl ⟨j+1,r,by lia,by lia⟩)
  ·exact .inr (.inr (.inl ⟨0,by decide,r,by lia⟩))
 ·rcases h.step p wf (C.vt k) (by lia) with r | ⟨z,r⟩
  ·exact a r (by lia)
  ·exact .inr (.inr (.inl ⟨c+1,z,r,by lia⟩))
 ·rcases h.step t wf g with r | ⟨o,r⟩
  ·exact a r (by lia)
  ·exact .inr (.inr (.inr (.inl ⟨e+1,o,r,by lia⟩)))
 ·rcases h.step u wf g with r | ⟨o,r⟩
  ·exact a r (by lia)
  ·exact .inr (.inr (.inr (.inr (.inl ⟨e+1,o,r,by lia⟩))))
 ·obtain⟨b,rfl⟩:∃b,d=b+1:=⟨d-1,by lia⟩
  by_cases c:b=0
  ·exact .inr (.inr (.inr (.inr (.inr (.inr ⟨6,by decide,h.step.2 c,by lia⟩)))))
  ·exact .inr (.inr (.inr (.inr (.inr (.inl ⟨b,by lia,by lia,h.step.1 (by lia),by lia⟩)))))
 ·rcases h.step with ⟨A,rfl,r⟩ | r
  ·exact .inr (.inr (.inr (.inr (.inr (.inr ⟨A,by lia,r,by lia⟩)))))
  ·exact .inl (.inr (.inr (.inr ⟨3,by decide,by decide,r,by lia⟩)))
def Nm.mono {o:Int}{Z' p:Nat}{s:List PS}(C:T<=o)(D:Z<=Z')(E:n<=p)(h:Nm v N B q f T Z k n s):Nm v N B q f o Z' k p s:=by
 rcases h with ⟨h,l⟩ | ⟨m,j,h,l⟩ | ⟨m,c,u,h,l⟩ | ⟨r,w,A,h,l⟩
 ·exact .inl ⟨λi S e=>let ⟨t,k,a,b,c⟩:=h i S e;⟨t,k,a,by lia,c⟩,by lia⟩
 ·refine .inr (.inl ⟨m,j,⟨h.hf,h.j1,h.jl,h.xq,let ⟨t,a,b,c⟩:=h.sp;⟨t,a,by lia,c⟩,λi S e x y=>let ⟨t,a,b,c⟩:=h.al i S e x y;⟨t,a,by lia,c⟩⟩,by lia⟩)
 ·refine .inr (.inr (.inl ⟨m,c,u,⟨h.hf,h.xq,let ⟨t,z,a,b,d,e⟩:=h.sp;⟨t,z,a,by lia,by lia,e⟩,λi S e x y=>let ⟨t,z,a,b,d,g⟩:=h.al i S e x y;⟨t,z,a,by lia,by lia,g⟩⟩,by lia⟩))
 ·exact .inr (.inr (.inr ⟨r,w,A,λi S e=>let ⟨t,a,b,c⟩:=h i S e;⟨t,a,by lia,c⟩,by lia⟩))
def Nm.wrong (C:xZ m v N B q f){p:Nat}{s:List PS}(u:s.length=m)(F:p<m)(wf:∀(i:Nat)(S:PS),s[i]? =some S->Wf S)(d:k<=N)(h:Nm v N B q f 0 0 k n s):∃k',(k<=k'/\k'<=N)/\(Nm v N B q f 9 1 k' (n+140) (bH (some p) s)\/Dis v N B f k' (n+140) (bH (some p) s)):=by
 have G:=C.m2
 have w:=C.v2
 have pl:p<s.length:=by lia
 have t:∀i,1<=(B k i).vt:=λi=>by rw[C.vt];lia
 have o:R1 (B k) 6 (bH (some p) s)->tg v N f k<=n+124->∃k',(k<=k'/\k'<=N)/\(Nm v N B q f 9 1 k' (n+140) (bH (some p) s)\/Dis v N B f k' (n+140) (bH (some p) s)):=λr l=>⟨k,⟨Yd _,d⟩,.inr (.inr (.inr (.inr (.inr (.inl ⟨6,by decide,by decide,r,by lia⟩)))))⟩
 rcases h with ⟨h,l⟩ | ⟨e,j,h,l⟩ | ⟨e,c,x,h,l⟩ | ⟨r,_,H,h,l⟩
 ·by_cases c:k<N
  ·have W:=C.win k c
   rw[<-u]at W
   rcases yG h pl W wf t with r | r
   ·exact o r (by lia)
   ·exact⟨k,⟨Yd _,d⟩,.inr (.inl ⟨1,r,by decide,by lia⟩)⟩
  ·have:k=N:=by lia
   subst this
   exact⟨k,⟨Yd _,d⟩,.inr (.inr (.inr (.inr (.inl ⟨0,by decide,a1I h pl (λi y=>C.dn i (u▸y)),by lia⟩))))⟩
 ·have z:=qM (v:=v) (f:=f) e
  have l3:=C.ln k e
  have jl:j<LW (f k):=h.jl
  rcases a1F h pl (by lia) wf t (λi A g D a b=>C.ds k d i A g D (by lia) (by lia)) with r | r | r | r
  ·exact o r (by lia)
  ·exact⟨k,⟨Yd _,d⟩,.inr (.inl ⟨j+1,r,by lia,by lia⟩)⟩
  ·exact⟨k,⟨Yd _,d⟩,.inr (.inr (.inl ⟨0,by decide,r,by lia⟩))⟩
  ·exact⟨k,⟨Yd _,d⟩,.inr (.inr (.inr (.inl ⟨0,by decide,r,by lia⟩)))⟩
 ·have z:=qM (v:=v) (f:=f) e
  have l3:=C.ln k e
  have I:=C.v5
  rcases a1G h pl (by lia) (C.vt k) w x wf with r | ⟨E,r⟩ | ⟨E,r⟩
  ·exact o r (by lia)
  ·exact⟨k,⟨Yd _,d⟩,.inl (Nm.mono (T:=0) (by decide) (Yd 1) (Yd _) (.inr (.inr (.inl ⟨e,c+1,by lia,r,by lia⟩))))⟩
  ·rw[<-C.nx k e]at r
   exact⟨k+1,⟨XM _,e⟩,.inl (Nm.mono (T:=0) (Z:=1) (by decide) (Yd 1) (Yd _) (.inr (.inr (.inr ⟨3,by decide,by decide,r,by lia⟩))))⟩
 ·exact o (a1H h pl wf t) (by lia)
def b7M {s:List PS}(h:∀(i:Nat)(S:PS),s[i]? =some S->Wf S):∀(i:Nat)(S:PS),(bH wp s)[i]? =some S->Wf S:=λi S e=>by
 obtain⟨a,b,rfl⟩:=dR e
 refine(h i a b).hear ?_
 unfold hrd cP
 split <;> split <;> decide
def nQ (wp:Nat->Option Nat)(s:List PS):Nat->List PS
 |0=>s
 |t+1=>bH (wp t) (nQ wp s t)
theorem rY {wp:Nat->Option Nat}{s:List PS}:∀t,(nQ wp s t).length=s.length
 |0=>rfl
 |t+1=>gZ.trans (rY t)
theorem wJ {wp:Nat->Option Nat}{s:List PS}(h:∀(i:Nat)(S:PS),s[i]? =some S->Wf S):∀t (i:Nat)(S:PS),(nQ wp s t)[i]? =some S->Wf S
 |0=>h
 |t+1=>b7M (wJ h t)
def b5U (v N:Nat)(B:Nat->Nat->PS)(q:Nat->Nat)(f:Nat->Fr)(k n:Nat)(s:List PS):Prop:=Nm v N B q f 9 1 k n s\/Dis v N B f k n s
def Nm.pos {s:List PS}(b:k<=N)(h:Nm v N B q f T Z k 0 s):k=N/\FPh (B k) T s:=by
 rcases h with ⟨h,l⟩ | ⟨a,j,h,l⟩ | ⟨a,c,d,h,l⟩ | ⟨r,e,g,h,l⟩
 ·refine⟨?_,h⟩
  by_cases c:k<N
  ·rw[qM c]at l;lia
  ·lia
 ·lia
 ·lia
 ·lia
def b5U.step (C:xZ m v N B q f){s:List PS}(hs:s.length=m)(wf:∀(i:Nat)(S:PS),s[i]? =some S->Wf S)(kN:k<=N)(h:b5U v N B q f k n s):∃k',(k<=k'/\k'<=N)/\b5U v N B q f k' (n-1) (bH none s):=by
 have o:=C.v2
 cases n with
 | zero=>
  rcases h with h | h
  ·obtain⟨rfl,g⟩:=h.pos kN
   exact⟨k,⟨Yd _,kN⟩,.inl (.inl ⟨g.idle (by decide) (λi l=>C.dn i (hs▸l)),by rw[a1P];exact YV _⟩)⟩
  ·exfalso
   rcases h with ⟨j,_,a,b⟩ | ⟨c,a,_,b⟩ | ⟨e,a,_,b⟩ | ⟨e,a,_,b⟩ | ⟨d,_,_,_,b⟩ | ⟨L,_,_,b⟩ <;> lia
 | succ n=>
  rcases h with h | h
  ·obtain⟨k',a,b⟩:=h.step C (by decide) (by lia) hs kN
   exact⟨k',a,.inl b⟩
  ·exact⟨k,⟨Yd _,kN⟩,h.step C wf⟩
def Nm.step0 (C:xZ m v N B q f){s:List PS}(hs:s.length=m)(kN:k<=N)(h:Nm v N B q f 0 0 k n s):∃k',(k<=k'/\k'<=N)/\Nm v N B q f 0 0 k' (n-1) (bH none s):=by
 cases n with
 | zero=>
  obtain⟨rfl,g⟩:=h.pos kN
  exact⟨k,⟨Yd _,kN⟩,.inl ⟨g.idle (by decide) (λi a=>C.dn i (hs▸a)),by rw[a1P];exact YV _⟩⟩
 |succ n=>exact h.step C (by decide) (YV _) hs kN
def wrg (o:Option (Nat×Nat))(t:Nat):Option Nat:=match o with
 |none=>none
 |some (p,t0)=>if t=t0 then some p else none
theorem b6F (C:xZ m v N B q f){s:List PS}{o:Option (Nat×Nat)}(ho:∀p t,o=some (p,t)->p<m)(hs:s.length=m)(wf:∀(i:Nat)(S:PS),s[i]? =some S->Wf S)(h0:FPh (B 0) 0 s):∀t,∃k,k<=N/\((Nm v N B q f 0 0 k (tg v N f 0-t) (nQ (wrg o) s t)/\∀p t0,o=some (p,t0)->t<=t0)\/∃n,b5U v N B q f k n (nQ (wrg o) s t)/\(k=N\/n<=tg v N f 0+141-t)/\∀p t0,o=some (p,t0)->t0<t)
 |0=>⟨0,YV _,.inl ⟨.inl ⟨h0,Yd _⟩,λ_ _ _=>YV _⟩⟩
 | t + 1 =>by
  obtain⟨k,kN,h⟩:=b6F C ho hs wf h0 t
  have hl:(nQ (wrg o) s t).length=m:=(rY t).trans hs
  have hw:=wJ (wp:=wrg o) wf t
  have en:∀{w:Option Nat},wrg o t=w->nQ (wrg o) s (t+1)=bH w (nQ (wrg o) s t):=λ{w} e=>by
   show bH (wrg o t) _=_
   rw[e]
  have none_of:(¬ ∃p,o=some (p,t))->wrg o t=none:=λc=>by
   unfold wrg
   split
   ·rfl
   ·rename_i p t0
    exact if_neg λz=>c ⟨p,by rw[z]⟩
  rcases h with ⟨h,ht⟩ | ⟨n,h,hn,ht⟩
  ·by_cases c:∃p,o=some (p,t)
   ·obtain⟨p,rfl⟩:=c
    have ew:wrg (some (p,t)) t=some p:=if_pos rfl
    obtain⟨k',a,b⟩:=h.wrong C hl (ho p t rfl) hw kN
    refine⟨k',a.2,.inr ⟨_,by rw[en ew];exact b,?_,λp' t0 e=>by cases e;exact Xi _⟩⟩
    by_cases z:t<=tg v N f 0
    ·right;lia
    ·left
     rw[show tg v N f 0-t=0 by lia]at h
     have:=(h.pos kN).1
     lia
   ·obtain⟨k',a,b⟩:=h.step0 C hl kN
    refine⟨k',a.2,.inl ⟨by rw[en (none_of c),Nat.sub_succ];exact b,λp t0 e=>?_⟩⟩
    have:=ht p t0 e
    have:t≠t0:=λz=>c ⟨p,by rw[e,z]⟩
    lia
  ·have c:¬ ∃p,o=some (p,t):=λ⟨p,e⟩=>absurd (ht p t e) (YT _)
   obtain⟨k',a,b⟩:=h.step C hl hw kN
   refine⟨k',a.2,.inr ⟨_,by rw[en (none_of c)];exact b,?_,λp t0 e=>Jh (ht p t0 e)⟩⟩
   rcases hn with z | z
   ·left;lia
   ·right;lia
def Nm.base {s:List PS}(h:Nm v N B q f T Z k n s)(i:Nat)(S:PS)(e:s[i]? =some S):S.wt=(B k i).wt/\S.up=(B k i).up:=by
 rcases h with ⟨h,_⟩ | ⟨_,j,h,_⟩ | ⟨_,c,_,h,_⟩ | ⟨r,_,_,h,_⟩
 ·obtain⟨t,k,_,_,rfl⟩:=h i S e;exact⟨rfl,rfl⟩
 ·by_cases c:i=q k
  ·obtain⟨t,_,_,a⟩:=h.sp
   rw[c,a]at e
   cases e
   rw[c];exact⟨rfl,rfl⟩
  ·obtain⟨t,_,_,rfl | ⟨_,_,_,_,_,_,rfl⟩⟩:=h.al i S e (λz=>z) c
   ·exact⟨rfl,rfl⟩
   ·exact⟨rfl,rfl⟩
 ·by_cases c:i=q k
  ·obtain⟨t,z,_,_,_,_,a⟩:=h.sp
   rw[c,a]at e
   cases e
   rw[c];exact⟨rfl,rfl⟩
  ·obtain⟨t,z,_,_,_,_,rfl⟩:=h.al i S e (λz=>z) c
   exact⟨rfl,rfl⟩
 ·obtain⟨t,_,_,rfl⟩:=h i S e;exact⟨rfl,rfl⟩
def At8.base {B:PS}(h:At8 B S):S.wt=B.wt/\S.up=B.up:=by
 obtain⟨n,rfl,_⟩:=h.ex;exact⟨rfl,rfl⟩
def Dis.base (C:xZ m v N B q f){s:List PS}(wf:∀(i:Nat)(S:PS),s[i]? =some S->Wf S)(h:Dis v N B f k n s)(i:Nat)(S:PS)(e:s[i]? =some S):S.wt=(B k i).wt/\S.up=(B k i).up:=by
 have A:=C.v2
 have o:∀i,1<=(B k i).vt:=λi=>by rw[C.vt];lia
 rcases h with ⟨j,h,_⟩ | ⟨c,p,h,_⟩ | ⟨r,_,h,_⟩ | ⟨r,_,h,_⟩ | ⟨d,_,_,h,_⟩ | ⟨L,_,h,_⟩
 ·obtain⟨t,y,g,x,z,w,xs,_,l⟩:=h.ex
  exact(b2A w wf o xs (b1H l) i S e).base
 ·obtain⟨t,y,g,x,z,w,xs,_,l⟩:=h.ex
  exact(b2B w p wf o xs (b1I l) i S e).base
 ·obtain⟨Y,_,rfl⟩:=h.al i S e;exact⟨rfl,rfl⟩
 ·obtain⟨_,⟨D,rfl⟩ | rfl⟩:=h.al i S e
  ·exact⟨rfl,rfl⟩
  ·exact⟨rfl,rfl⟩
 ·cases h.al i S e with
  |u a b=>exact⟨rfl,rfl⟩
  |f a b=>exact⟨rfl,rfl⟩
  |s a b c=>exact⟨rfl,rfl⟩
 ·cases h i S e with
  |f a b=>exact⟨rfl,rfl⟩
  |s a b c=>exact⟨rfl,rfl⟩
def c3B (C:xZ m v N B q f){s:List PS}{o:Option (Nat×Nat)}(r:∀p t,o=some (p,t)->p<m)(u:s.length=m)(wf:∀(i:Nat)(S:PS),s[i]? =some S->Wf S)(w:FPh (B 0) 0 s)(t:Nat):∃k,k<=N/\(∀(i:Nat)(S:PS),(nQ (wrg o) s t)[i]? =some S->S.wt=(B k i).wt/\S.up=(B k i).up)/\(tg v N f 0+141<=t->k=N):=by
 obtain⟨k,g,⟨h,_⟩ | ⟨n,h,x,_⟩⟩:=b6F C r u wf w t
 ·refine⟨k,g,h.base,λl=>?_⟩
  rw[show tg v N f 0-t=0 by lia]at h
  exact(h.pos g).1
 ·refine ⟨k,g,?_,λl=>?_⟩
  ·rcases h with h | h
   ·exact h.base
   ·exact h.base C (wJ wf t)
  ·rcases x with z | z
   ·exact z
   ·have y:n=0:=by lia
    subst y
    rcases h with h | h
    ·exact(h.pos g).1
    ·exfalso
     have A:=C.v2
     rcases h with ⟨j,_,a,b⟩ | ⟨c,a,_,b⟩ | ⟨e,a,_,b⟩ | ⟨e,a,_,b⟩ | ⟨d,_,_,_,b⟩ | ⟨L,_,_,b⟩ <;> lia
def c3Y (h:n<=9000):n<sizeLine:=XQ h (by decide)
def a5D (H:Hp)(g:Addr)(ps:List (Int×Int))(o:Own):Prop:=∃c c' d,(H g=some (FnO g sH iqH [("kept",c)] c')/\H c'=some (kW c' iqH)/\H c=some (jZ c (.ref d))/\H d=some (.dT (kvP ps)))/\¬ o g/\¬ o c/\¬ o c'/\¬ o d
def a5D.moved {g:Addr}(h:a5D H g ps o)(m:Mv o H o' H'):qH H' g ps:=by
 obtain⟨c,a,d,⟨b,e,f,i⟩,j,k,l,n⟩:=h
 exact⟨c,a,d,m.1 _ _ b (.inl j),m.1 _ _ e (.inl l),m.1 _ _ f (.inl k),m.1 _ _ i (.inl n)⟩
def qH.fnE {g:Addr}(h:qH H g ps):FnE K H g:=by
 obtain⟨c,b,d,a,f,i,j⟩:=h
 exact .inr ⟨_,a,λ_ ⟨_,_,_,e⟩=>⟨_,_,_,_,e⟩⟩
def a0P (ps:List (Int×Int))(i t:Nat)(b:Int):Int:=if ((i:Int),(t:Int))∈ps then 1-b else b
def b5E {t:Nat}(h:b=0\/b=1):a0P ps i t b=0\/a0P ps i t b=1:=by
 unfold a0P
 split
 ·lia
 ·exact h
def dD (ps:List (Int×Int))(R:RS):Nat->RS
 |0=>R
 |n+1=>oA (dD ps R n) ((List.range R.ps.length).map λi=>a0P ps i (R.bo.length+n) (a0V (dD ps R n))) (a0V (dD ps R n))
theorem oF (ps:List (Int×Int))(R:RS):∀n:Nat,(dD ps R n).ps.length=R.ps.length
 |0=>rfl
 |n+1=>((jY (dD ps R n) _ _).2.2.1).trans (oF ps R n)
theorem wL (ps:List (Int×Int))(R:RS):∀n:Nat,(dD ps R n).bo.length=R.bo.length+n
 |0=>rfl
 | n+1=>by
  show ((dD ps R n).bo++[_]).length=_
  rw[Yc,wL ps R n]
  rfl
def a5P (K:W.Frag)(C:Addr)(A:Cs):Sp:=λa H Q _=>∃(r:Addr)(R:RS)(o:Own)(w:Rw)(n:Nat)(f:Addr)(ps:List (Int×Int)),a= [.ref r,.int (n:Int),.ref f]/\cU C A H r R o w/\R.ps≠ []/\n<=900/\(∀k,k<=n->SzR (dD ps R k))/\a5D H f ps o/\
 ∀l H1 o',mR C A H1 r (dD ps R n) o'->Mv o H o' H1->H1 l=none->Q (.ref l) (upd H1 l (.lst (((List.range n).map λk=>a0V (dD ps R k)).map V.int)))
def b3C:Sp:=λe H Q _=>∃(a:Addr)(qs:List Addr)(ps:List (Int×Int)),e= [.ref a]/\H a=some (.lst (qs.map V.ref))/\PrT H qs ps/\ps.length<=200/\pY 1080 tZ iqH H/\∀g c c' d H',H g=none->H c=none->H d=none->(H c'=none\/a0Y 1080 tZ c' H)->(∀b o,b≠1080->H b=some o->H' b=some o)->pY 1080 tZ iqH H'->a0Y 1080 tZ c' H'->H' g=some (FnO g sH iqH [("kept",c)] c')->H' c'=some (kW c' iqH)->H' c=some (jZ c (.ref d))->H' d=some (.dT (kvP ps))->Q (.ref g) H'
structure Ln (R:RS)(m t:Nat):Prop where
 ps:R.ps.length=m
 sa:R.sa.length=m
 he:R.he.length=m
 bo:R.bo.length=t
 sl:∀x∈R.sa,x.length=t
 hl:∀x∈R.he,x.length=t
 ev:R.ev.length<=m*t
def b2N {R:RS}{t:Nat}(h:Ln R m t)(g:hs.length=m):(oA R hs b).ps=R.ps.mapIdx λi S=>(aW S (hs.getD i 0)).2:=by
 refine List.ext_getElem? λi=>?_
 show (bB R hs R.ps.length).ps[i]? =_
 rw[X0]
 by_cases c:i<R.ps.length
 ·have l:=h.ps
  have a:=Yb c
  have d:hs[i]? =some (hs.getD i 0):=by rw[Yb (by lia),Yf,Yb (by lia)];rfl
  have e:=Yb (l:=R.sa) (i:=i) (by rw[h.sa];lia)
  have f:=Yb (l:=R.he) (i:=i) (by rw[h.he];lia)
  rw[(a4N a d e f R.ps.length c).1,a]
  rfl
 ·rw[List.getElem?_eq_none (by rw[(jY R hs _).2.2.1];lia),List.getElem?_eq_none (by lia)]
  rfl
theorem a4M {R:RS}{t:Nat}(h:Ln R m t)(hl:hs.length=m):∀n,n<=m->(∀i x,(bB R hs n).sa[i]? =some x->x.length=if i<n then t+1 else t)/\(∀i x,(bB R hs n).he[i]? =some x->x.length=if i<n then t+1 else t)/\(bB R hs n).ev.length<=m*t+n
 |0,_=>⟨λi x e=>by rw[if_neg (XC _)];exact h.sl x (Yx e),λi x e=>by rw[if_neg (XC _)];exact h.hl x (Yx e),h.ev⟩
 | n + 1, hn=>by
  obtain⟨a1,a2,a3⟩:=a4M h hl n (by lia)
  have l:=h.ps
  have e1:=Yb (l:=R.ps) (i:=n) (by lia)
  have e2:=Yb (l:=hs) (i:=n) (by lia)
  have e3:=Yb (l:=R.sa) (i:=n) (by rw[h.sa];lia)
  have e4:=Yb (l:=R.he) (i:=n) (by rw[h.he];lia)
  rw[jX e1 e2 e3 e4]
  have x3:=h.sl _ (Yx e3)
  have x4:=h.hl _ (Yx e4)
  refine⟨λi x e=>?_,λi x e=>?_,?_⟩
  ·change ((bB R hs n).sa.set n _)[i]? =some x at e
   rw[Y7]at e
   split at e
   ·rename_i c
    split at e
    ·cases e
     rw[if_pos (by lia),Yc,x3];rfl
    ·cases e
   ·rename_i c
    rw[a1 i x e]
    by_cases d:i<n
    ·rw[if_pos d,if_pos (by lia)]
    ·rw[if_neg d,if_neg (by lia)]
  ·change ((bB R hs n).he.set n _)[i]? =some x at e
   rw[Y7]at e
   split at e
   ·rename_i c
    split at e
    ·cases e
     rw[if_pos (by lia),Yc,x4];rfl
    ·cases e
   ·rename_i c
    rw[a2 i x e]
    by_cases d:i<n
    ·rw[if_pos d,if_pos (by lia)]
    ·rw[if_neg d,if_neg (by lia)]
  ·change ((bB R hs n).ev++evt _ _ _).length<=_
   rw[Yc]
   have:∀a b c,(evt a b c).length<=1:=λa b c=>by
    unfold evt
    split
    ·exact YV _
    ·exact Yd _
   have:=this R.bo.length n (aW R.ps[n] hs[n]).1
   lia
def Ln.turn {R:RS}{t:Nat}(h:Ln R m t)(d:hs.length=m):Ln (oA R hs b) m (t+1):=by
 have g:=jY R hs R.ps.length
 have l:=h.ps
 obtain⟨f,j,k⟩:=a4M h d R.ps.length (by lia)
 refine⟨g.2.2.1.trans h.ps,g.2.2.2.1.trans h.sa,g.2.2.2.2.1.trans h.he,?_,λx c=>?_,λx c=>?_,?_⟩
 ·show (R.bo++[b]).length=_
  rw[Yc,h.bo];rfl
 ·obtain⟨i,a⟩:=Xn.mp c
  have:=f i x a
  rw[this,if_pos]
  have:=(Ye.mp a).1
  have e:=g.2.2.2.1.trans h.sa
  change i<(bB R hs R.ps.length).sa.length at this
  lia
 ·obtain⟨i,a⟩:=Xn.mp c
  have:=j i x a
  rw[this,if_pos]
  have:=(Ye.mp a).1
  have e:=g.2.2.2.2.1.trans h.he
  change i<(bB R hs R.ps.length).he.length at this
  lia
 ·show (bB R hs R.ps.length).ev.length<=_
  rw[Nat.mul_succ]
  lia
def prs (o:Option (Nat×Nat)):List (Int×Int):=match o with
 |none=>[]
 |some (p,t)=>[(((p:Nat):Int),((t:Nat):Int))]
def a4C {o:Option (Nat×Nat)}{t:Nat}:(((i:Nat):Int),(t:Int))∈prs o↔wrg o t=some i:=by
 cases o with
 |none=>exact⟨(λz=>by cases z),λz=>by cases z⟩
 | some x=>
  obtain⟨p,d⟩:=x
  show _∈ [(((p:Nat):Int),((d:Nat):Int))]↔(if t=d then some p else none)=some i
  rw[Ym]
  constructor
  ·intro z
   have a:((i:Nat):Int)=((p:Nat):Int):=YU Prod.fst z
   have b:(t:Int)=((d:Nat):Int):=YU Prod.snd z
   rw[if_pos (by lia),show p=i by lia]
  ·intro z
   split at z
   ·rename_i c
    cases z
    rw[c]
   ·cases z
def b5D {o:Option (Nat×Nat)}{t:Nat}:a0P (prs o) i t b=hrd (wrg o t) b i:=by
 unfold a0P hrd
 by_cases c:(((i:Nat):Int),(t:Int))∈prs o
 ·rw[if_pos c,if_pos (a4C.mp c)]
 ·rw[if_neg c,if_neg λz=>c (a4C.mpr z)]
def c0K (R:RS):a0V R=cP R.ps:=rfl
theorem wK {R:RS}{t:Nat}(h:Ln R m t):∀n,Ln (dD ps R n) m (t+n)
 |0=>h
 |n+1=>(wK h n).turn (by rw[Ya,YZ,h.ps])
theorem mX {o:Option (Nat×Nat)}{R:RS}(h:Ln R m 0):∀n,(dD (prs o) R n).ps=nQ (wrg o) R.ps n
 |0=>rfl
 | n + 1=>by
  have L:=wK (ps:=prs o) h n
  show (oA (dD (prs o) R n) _ _).ps=_
  rw[b2N L (by rw[Ya,YZ,h.ps]),mX h n]
  show _=bH _ _
  unfold bH
  refine List.ext_getElem? λi=>?_
  rw[X0,X0]
  cases e:(nQ (wrg o) R.ps n)[i]? with
  |none=>rfl
  | some S=>
   have il:i<R.ps.length:=by
    have:=(Ye.mp e).1
    rw[rY]at this
    exact this
   show some _=some _
   rw[Yf,Yl,X5 il]
   show some (aW S (a0P (prs o) i (R.bo.length+n) (a0V (dD (prs o) R n)))).2=_
   rw[b5D,h.bo,Nat.zero_add,c0K,mX h n]
theorem mH {R:RS}{a:Nat}:∀b,dD ps (dD ps R a) b=dD ps R (a+b)
 |0=>rfl
 | b+1=>by
  show oA (dD ps (dD ps R a) b) _ _=oA (dD ps R (a+b)) _ _
  rw[mH b,oF,wL,Nat.add_assoc]
  rfl
def b3P {R:RS}(h:Ln R m 0)(c:m<=5)(a:n<990)(d:∀S∈(dD ps R n).ps,S.up.length<900):SzR (dD ps R n):=by
 have L:=wK (ps:=ps) h n
 rw[Nat.zero_add]at L
 refine⟨by rw[L.bo];exact a,λx b=>by rw[L.sl x b];exact a,λx b=>by rw[L.hl x b];exact a,?_,d⟩
 have:=L.ev
 have:m*n<=5*n:=Nat.mul_le_mul_right _ c
 lia
def frT (f:Nat×Nat×List Int)(d:Addr):HO:= .tup [.int ((f.1:Nat):Int),.int ((f.2.1:Nat):Int),.ref d]
structure F92 (m:Nat)(fs:List (Nat×Nat×List Int)):Prop where
 ok:∀f∈fs,f.1<m/\FrN f.2
 un:∀f∈fs,∀g∈fs,f.2.1=g.2.1->f.1=g.1
structure tW (H:Hp)(fl:Addr)(ts:List Addr)(fs:List (Nat×Nat×List Int)):Prop where
 at_:H fl=some (.lst (ts.map V.ref))
 ln:ts.length=fs.length
 tp:∀(i:Nat)(t:Addr)(f:Nat×Nat×List Int),ts[i]? =some t->fs[i]? =some f->∃d,H t=some (frT f d)/\H d=some (.lst (f.2.2.map V.int))
def tW.same {fl:Addr}{ts:List Addr}(h:tW H fl ts fs)(g:Same H H'):tW H' fl ts fs:=⟨g _ _ h.at_,h.ln,λi t f a b=>let ⟨d,x,y⟩:=h.tp i t f a b;⟨d,g _ _ x,g _ _ y⟩⟩
def b2Z (K:W.Frag):Sp:=λb H Q _=>∃(a:Addr)(ss:List Int)(m:Nat),b= [.ref a,.int (m:Int)]/\SqL K H a (ss.map V.int)/\ss.length<=63/\2<=m/\m<=5/\∀(fl:Addr)(ts:List Addr)(fs:List (Nat×Nat×List Int)) H',H fl=none->Same H H'->tW H' fl ts fs->F92 m fs->1<=fs.length->fs.length<=6->Q (.ref fl) H'
def Ldr (m:Nat)(g:Nat->List Fr)(q:Nat):Prop:=q<m/\g q≠ []/\∀j,j<m->j≠q->g j≠ []->((g q).headD (0, [])).1<((g j).headD (0, [])).1
open Classical in
noncomputable def pk (m:Nat)(g:Nat->List Fr):Nat:=if h:∃q,Ldr m g q then Classical.choose h else 0
def b8H (h:∃q,Ldr m g q):Ldr m g (pk m g):=by
 unfold pk
 rw[dif_pos h]
 exact Classical.choose_spec h
noncomputable def Bk (m:Nat)(B0:Nat->PS):Nat->Nat->PS
 |0=>B0
 |k+1=>nxB (Bk m B0 k) (pk m λi=>(Bk m B0 k i).wt) ((Bk m B0 k (pk m λi=>(Bk m B0 k i).wt)).wt.headD (0, []))
noncomputable abbrev qk (m:Nat)(B0:Nat->PS)(k:Nat):Nat:=pk m λi=>(Bk m B0 k i).wt
noncomputable abbrev fk (m:Nat)(B0:Nat->PS)(k:Nat):Fr:=(Bk m B0 k (qk m B0 k)).wt.headD (0, [])
def zO {B:Nat->PS}{q:Nat}{f:Fr}(i:Nat):(nxB B q f i).wt=if i=q then (B i).wt.tail else (B i).wt:=by
 unfold nxB
 split <;> rfl
def c1W {B:Nat->PS}{q:Nat}{f:Fr}(i:Nat):(nxB B q f i).vt=(B i).vt:=by
 unfold nxB
 split <;> rfl
def mD (m:Nat)(g:Nat->List Fr):Nat:=((List.range m).map λi=>(g i).length).sum
def gY:mD (m+1) g=mD m g+(g m).length:=by
 unfold mD
 rw[XT,Yn,List.sum_append]
 show _+((g m).length+0)=_
 rw[Nat.add_zero]
theorem uO:∀{m:Nat},mD m g=0->∀i,i<m->g i= []
 |0,_,i,hi=>absurd hi (XC _)
 | m+1,h,i,hi=>by
  rw[gY]at h
  by_cases c:i=m
  ·rw[c];exact XI.mp (by lia)
  ·exact uO (m:=m) (by lia) i (by lia)
theorem rP:∀{m:Nat},0<mD m g->∃i,i<m/\g i≠ []
 |0,h=>absurd h (YT 0)
 | m +1,h=>by
  rw[gY]at h
  by_cases c:g m= []
  ·obtain⟨i,hi,e⟩:=rP (m:=m) (by rw[c]at h;exact h)
   exact⟨i,by lia,e⟩
  ·exact⟨m,Xi _,c⟩
theorem uP {q:Nat}(hq:g q≠ []):∀{m:Nat},mD m (λi=>if i=q then (g i).tail else g i)+(if q<m then 1 else 0)=mD m g
 |0=>by rw[if_neg (XC _)];rfl
 | m + 1=>by
  have ih:=uP hq (m:=m)
  rw[gY,gY]
  have l:1<=(g q).length:=Jt.mpr hq
  by_cases c:m=q
  ·subst c
   rw[if_neg (YT _)]at ih
   rw[if_pos rfl,if_pos (Xi _),List.length_tail]
   lia
  ·rw [if_neg c]
   by_cases d:q<m
   ·rw[if_pos d]at ih
    rw[if_pos (by lia)];lia
   ·rw[if_neg d]at ih
    rw[if_neg (by lia)];lia
structure Rows (m v:Nat)(B0:Nat->PS):Prop where
 m2:2<=m
 v2:2<=v
 v5:v<=5
 vt:∀i,(B0 i).vt=v
 ok:∀i,i<m->∀f∈(B0 i).wt,FrN f
 un:∀i j f f',i<m->j<m->f∈(B0 i).wt->f'∈(B0 j).wt->f.1=f'.1->i=j
theorem Rows.sub (_:Rows m v B0):∀k i,∀f∈(Bk m B0 k i).wt,f∈(B0 i).wt
 |0,i,f,hf=>hf
 | k+1,i,f,hf=>by
  change f∈(nxB _ _ _ i).wt at hf
  rw[zO]at hf
  split at hf
  ·exact Rows.sub ‹_› k i f (List.mem_of_mem_tail hf)
  ·exact Rows.sub ‹_› k i f hf
def Rows.ldr (R:Rows m v B0)(h:0<mD m λi=>(Bk m B0 k i).wt):Ldr m (λi=>(Bk m B0 k i).wt) (qk m B0 k):=by
 refine b8H ?_
 obtain⟨i,g,e⟩:=rP h
 obtain⟨q,n,⟨b,c,s⟩,o⟩:=sX (λi n=>i<m/\(Bk m B0 k i).wt≠ []/\((Bk m B0 k i).wt.headD (0, [])).1=n) _ i _ (Yd _) ⟨g,e,rfl⟩
 refine⟨q,b,c,λj d p je=>?_⟩
 have le:=o j _ ⟨d,je,rfl⟩
 have f:∀{l:List Fr},l≠ []->l.headD (0, [])∈l:=λ{l} z=>by
  cases l with
  |nil=>exact absurd rfl z
  |cons a r=>exact YC
 have ne:((Bk m B0 k q).wt.headD (0, [])).1≠((Bk m B0 k j).wt.headD (0, [])).1:=λz=>p (R.un j q _ _ d b (R.sub k j _ (f je)) (R.sub k q _ (f c)) z.symm)
 show ((Bk m B0 k q).wt.headD (0, [])).1<((Bk m B0 k j).wt.headD (0, [])).1
 lia
theorem Rows.sum (R:Rows m v B0)(hN:mD m (λi=>(B0 i).wt)=N):∀k,k<=N->mD m (λi=>(Bk m B0 k i).wt)=N-k
 |0,_=>hN
 | k+1,hk=>by
  have ih:=R.sum hN k (by lia)
  have L:=R.ldr (k:=k) (by lia)
  have e:(λi=>(Bk m B0 (k+1) i).wt)=λi=>if i=qk m B0 k then (Bk m B0 k i).wt.tail else (Bk m B0 k i).wt:=funext λi=>zO i
  rw[e]
  have:=uP (g:=λi=>(Bk m B0 k i).wt) (q:=qk m B0 k) L.2.1 (m:=m)
  rw[if_pos L.1,ih]at this
  lia
def Rows.cx (R:Rows m v B0)(hN:mD m (λi=>(B0 i).wt)=N):xZ m v N (Bk m B0) (qk m B0) (fk m B0):=by
 have hd:∀{l:List Fr},l≠ []->l.head? =some (l.headD (0, [])):=λ{l} z=>by
  cases l with
  |nil=>exact absurd rfl z
  |cons a r=>rfl
 have o:∀{l:List Fr}{g:Fr},l.head? =some g->l≠ []/\l.headD (0, [])=g:=λ{l g} z=>by
  cases l with
  |nil=>cases z
  |cons a r=>cases z;exact⟨(λy=>by cases y),rfl⟩
 have b:∀k,k<N->Win m (Bk m B0 k) (qk m B0 k) (fk m B0 k):=λk d=>by
  have L:=R.ldr (k:=k) (by rw[R.sum hN k (by lia)];lia)
  refine⟨L.1,hd L.2.1,λi c g p=>R.ok i c g (R.sub k i g p),λj g q s e=>?_⟩
  obtain⟨t,u⟩:=o e
  have:=L.2.2 j q s t
  dsimp only at this
  rw[u]at this
  exact this
 refine⟨R.m2,R.v2,R.v5,λk=>?_,b,λk d=>rfl,λi c=>?_,λk d i h g n c f ne e x z=>?_,λk d=>?_⟩
 ·induction k with
  |zero=>exact R.vt
  |succ k ih=>exact λi=>(c1W i).trans (ih i)
 ·exact uO (g:=λi=>(Bk m B0 N i).wt) (by rw[R.sum hN N (Yd _)];lia) i c
 ·exact ne (R.un i h g n c f (R.sub k i g (XA e)) (R.sub k h n (XA x)) z)
 ·have w:=b k d
  exact a1J (w.ok _ w.hq _ (XA w.eq))
noncomputable def pP (m:Nat)(B0:Nat->PS)(k:Nat):List (Nat×Fr):=(List.range k).map λj=>(qk m B0 j,fk m B0 j)
def uV:pP m B0 (k+1)=pP m B0 k++[(qk m B0 k,fk m B0 k)]:=by
 unfold pP
 rw[XT,Yn]
 rfl
theorem a5F:∀k,gC (Bk m B0 k i) n=gC (B0 i) n
 |0=>rfl
 | k +1=>by
  have:gC (nxB (Bk m B0 k) (qk m B0 k) (fk m B0 k) i) n=gC (Bk m B0 k i) n:=by
   unfold nxB
   split <;> rfl
  exact this.trans (a5F k)
def uE (B:PS)(i:Nat)(l:List (Nat×Fr)):List Fr:=(l.filter λx=>decide (x.1≠i) && gC B x.2.1).map Prod.snd
theorem b6T:∀k,(Bk m B0 k i).up=(B0 i).up++uE (B0 i) i (pP m B0 k)
 |0=>(YD _).symm
 | k + 1=>by
  have ih:=b6T k
  rw[uV]
  unfold uE at ih ⊢
  rw[Je,Yn,<-Ys,<-ih]
  show (nxB (Bk m B0 k) (qk m B0 k) (fk m B0 k) i).up=_
  unfold nxB
  by_cases c:i=qk m B0 k
  ·rw[if_pos c,XJ (by rw[Yu (λz=>z c.symm)];exact Yr)]
   exact(YD _).symm
  ·rw [if_neg c]
   show (if gC (Bk m B0 k i) (fk m B0 k).1=true then _ else _)=_
   rw[a5F k]
   have d1:decide ((qk m B0 k,fk m B0 k).1≠i)=true:=Yq λz=>c z.symm
   by_cases w:gC (B0 i) (fk m B0 k).1=true
   ·rw[if_pos w,Jf (by rw[d1];exact w)]
    rfl
   ·rw[if_neg w,XJ (by rw[d1];exact w)]
    exact(YD _).symm
def lG:(pP m B0 k).length=k:=by unfold pP;rw[Ya,YZ]
theorem a3I {f:Nat->Fr}:∀(r k:Nat),tgo v f r k=((List.range r).map λj=>LW (f (k+j))).sum+r*(12+v)
 |0,k=>by unfold tgo;rw[Nat.zero_mul];rfl
 | r +1,k=>by
  rw[List.range_succ_eq_map,YK,XU,Jv]
  show LW (f k)+12+v+tgo v f r (k+1)=_
  rw[a3I r (k+1),Nat.succ_mul]
  have:((List.range r).map λj=>LW (f (k+1+j)))=(List.range r).map ((λj=>LW (f (k+j))) ∘ Nat.succ):=X4 λj _=>by
   show LW (f (k+1+j))=LW (f (k+(j+1)))
   rw[Nat.add_assoc,Nat.add_comm 1 j]
  rw[this]
  show LW (f k)+12+v+_=LW (f k)+_+_
  lia
def a7P {f:Nat->Fr}:tg v N f 0=((List.range N).map λj=>LW (f j)).sum+N*(12+v):=by
 have h:=a3I (v:=v) (f:=f) N 0
 have e:((List.range N).map λj=>LW (f (0+j)))=(List.range N).map λj=>LW (f j):=X4 λj _=>by rw[Nat.zero_add]
 rw[e]at h
 exact h
def lW (fs:List (Nat×Nat×List Int))(i:Nat):List Fr:=(fs.filter λf=>decide (f.1=i)).map λf=>f.2
def B91 (ch:Nat->Nat×Nat)(v:Nat)(fs:List (Nat×Nat×List Int))(i:Nat):PS:={ S0 (ch i).1 (ch i).2 v with wt:=lW fs i }
def oY {f:Fr}(h:f∈lW fs i):(i,f)∈fs:=by
 unfold lW at h
 obtain⟨x,a,e⟩:=YW.mp h
 obtain⟨b,c⟩:=List.mem_filter.mp a
 have d:x.1=i:=Y2 c
 rw[<-d,<-e]
 exact b
theorem uR {p:Nat}{f:Fr}:∀{m:Nat},mD m (λi=>if i=p then f::g i else g i)=mD m g+(if p<m then 1 else 0)
 |0=>by rw[if_neg (XC _)];rfl
 | m +1=>by
  have ih:=uR (p:=p) (f:=f) (m:=m)
  rw[gY,gY,ih]
  by_cases c:m=p
  ·subst c
   rw[if_neg (YT _),if_pos rfl,if_pos (Xi _),Yo]
   lia
  ·rw[if_neg c]
   by_cases d:p<m
   ·rw[if_pos d,if_pos (by lia)];lia
   ·rw[if_neg d,if_neg (by lia)];lia
def a6X {x:Nat×Nat×List Int}:lW (x::fs)=λi=>if i=x.1 then x.2::lW fs i else lW fs i:=by
 funext i
 unfold lW
 by_cases c:x.1=i
 ·rw[Jf (by exact Yq c),if_pos c.symm];rfl
 ·rw[XJ (by rw[Yu c];exact Yr),if_neg λz=>c z.symm]
theorem uQ:∀{fs:List (Nat×Nat×List Int)},(∀f∈fs,f.1<m)->mD m (lW fs)=fs.length
 | [],_=>by
  have:∀k,mD k (lW [])=0:=λk=>by
   induction k with
   |zero=>rfl
   |succ k ih=>rw[gY,ih];rfl
  exact this m
 | x::fs,h=>by
  rw[a6X,uR,uQ λf hf=>h f (Yv _ hf),if_pos (h x YC)]
  rfl
def a2C (c:2<=m)(d:2<=v)(g:v<=5)(F:F92 m fs):Rows m v (B91 ch v fs)/\mD m (λi=>(B91 ch v fs i).wt)=fs.length:=by
 refine⟨⟨c,d,g,λi=>rfl,λi _ f a=>(F.ok _ (oY a)).2,λi j f h _ _ a b e=>F.un _ (oY a) _ (oY b) e⟩,?_⟩
 exact uQ λf a=>(F.ok f a).1
def gX (q:Nat)(g:Nat->List Fr)(i:Nat):List Fr:=if i=q then (g i).tail else g i
structure pZ (H0 H:Hp)(m:Nat)(rl ev:Addr)(ras:List Addr)(g:Nat->List Fr)(ts:Nat->List Addr):Prop where
 er:H rl=some (.lst (ras.map V.ref))
 ln:ras.length=m
 ge:∀i,m<=i->g i= []
 at_:∀(i:Nat)(a:Addr),ras[i]? =some a->H a=some (.lst ((ts i).map V.ref))/\a≠rl/\a≠ev
 tl:∀i,i<m->(ts i).length=(g i).length
 tp:∀(i j:Nat)(t:Addr)(f:Fr),i<m->(ts i)[j]? =some t->(g i)[j]? =some f->∃d,H0 t=some (frT (i,f) d)/\H0 d=some (.lst (f.2.map V.int))
def pZ.same (h:pZ H0 H m rl ev ras g ts)(k:Same H H'):pZ H0 H' m rl ev ras g ts:=⟨k _ _ h.er,h.ln,h.ge,λi a e=>⟨k _ _ (h.at_ i a e).1,(h.at_ i a e).2⟩,h.tl,h.tp⟩
def pZ.hd (h:pZ H0 H m rl ev ras g ts)(hi:i<m){f:Fr}{r:List Fr}(e:g i=f::r):∃t tr d,ts i=t::tr/\H0 t=some (frT (i,f) d)/\H0 d=some (.lst (f.2.map V.int)):=by
 have l:=h.tl i hi
 rw[e]at l
 cases z:ts i with
 |nil=>rw[z]at l;cases l
 | cons t tr=>
  obtain⟨d,a,b⟩:=h.tp i 0 t f hi (by rw[z];rfl) (by rw[e];rfl)
  exact⟨t,tr,d,rfl,a,b⟩
def pL (ts:List Addr)(fs:List (Nat×Nat×List Int))(i:Nat):List Addr:=((ts.zip fs).filter λp=>decide (p.2.1=i)).map Prod.fst
def b0Y {ts:List Addr}(h:ts.length=fs.length)(i:Nat):lW fs i=((ts.zip fs).filter λp=>decide (p.2.1=i)).map λp=>p.2.2:=by
 have e:fs=(ts.zip fs).map Prod.snd:=(List.map_snd_zip (by lia)).symm
 unfold lW
 conv=>lhs;rw[e,List.filter_map,Jv]
 rfl
def a3K {fl:Addr}{ts:List Addr}(h:tW H fl ts fs)(i:Nat):(pL ts fs i).length=(lW fs i).length/\∀(j:Nat)(t:Addr)(f:Fr),(pL ts fs i)[j]? =some t->(lW fs i)[j]? =some f->∃d,H t=some (frT (i,f) d)/\H d=some (.lst (f.2.map V.int)):=by
 rw[b0Y h.ln]
 unfold pL
 refine⟨by rw[Ya,Ya],λj t f b a=>?_⟩
 rw[Yl]at b a
 obtain⟨p,c,rfl⟩:=YH.mp b
 rw[c]at a
 cases a
 obtain⟨e,g⟩:=List.mem_filter.mp (Yx c)
 have:=Y2 g
 subst this
 obtain⟨k,l⟩:=List.getElem?_of_mem e
 obtain⟨m,n⟩:=List.getElem?_zip_eq_some.mp l
 exact h.tp k _ _ m n
def uN {ts:List Addr}{f:Nat×Nat×List Int}(a:ts[i]? =some t)(b:fs[i]? =some f)(j:Nat):pL (ts.take (i+1)) (fs.take (i+1)) j=pL (ts.take i) (fs.take i) j++(if f.1=j then [t] else []):=by
 obtain⟨l1,d⟩:=Ye.mp a
 obtain⟨l2,e⟩:=Ye.mp b
 unfold pL
 rw[Yg l1,Yg l2,d,e,List.zip_append (by rw[Yj,Yj];lia),Je,Yn]
 congr 1
 by_cases c:f.1=j
 ·simp[c]
 ·simp[c]
def a7Q (ts:List Addr)(fs:List (Nat×Nat×List Int))(j:Nat):(pL ts fs j).length<=fs.length:=by
 unfold pL
 rw[Ya]
 exact YS (Xo _ _) (by rw[List.length_zip];exact Nat.min_le_right _ _)
def pZ.kp (h:pZ H0 H m rl ev ras g ts)(n:rl≠ev)(k:∀x u,x≠ev->H x=some u->H' x=some u):pZ H0 H' m rl ev ras g ts:=⟨k _ _ n h.er,h.ln,h.ge,λi a e=>let ⟨x,y,z⟩:=h.at_ i a e;⟨k _ _ z x,y,z⟩,h.tl,h.tp⟩
def pZ.pop {nl:Addr}{q:Nat}(h:pZ H0 H m rl ev ras g ts)(r:q<m)(n:nl≠rl)(ne:nl≠ev)(k:∀x u,x≠rl->H x=some u->H' x=some u)(o:H' rl=some (.lst ((ras.map V.ref).set q (.ref nl))))(p:H' nl=some (.lst ((ts q).tail.map V.ref))):pZ H0 H' m rl ev (ras.set q nl) (gX q g) (λi=>if i=q then (ts i).tail else ts i):=by
 refine⟨by rw[o,List.map_set],by rw[Y8,h.ln],λi b=>?_,λi a e=>?_,λi b=>?_,λi j t f b l d=>?_⟩
 ·unfold gX
  rw[if_neg (by lia)]
  exact h.ge i b
 ·rw [Y7]at e
  by_cases c:q=i
  ·rw [if_pos c]at e
   split at e
   ·cases e
    rw[if_pos c.symm,<-c]
    exact⟨p,n,ne⟩
   ·cases e
  ·rw[if_neg c]at e
   obtain⟨x,y,z⟩:=h.at_ i a e
   rw[if_neg (Va c)]
   exact⟨k _ _ y x,y,z⟩
 ·unfold gX
  by_cases c:i=q
  ·rw[if_pos c,if_pos c,List.length_tail,List.length_tail,h.tl i b]
  ·rw[if_neg c,if_neg c]
   exact h.tl i b
 ·unfold gX at d
  by_cases c:i=q
  ·rw[if_pos c,List.getElem?_tail]at l d
   exact h.tp i _ t f b l d
  ·rw[if_neg c]at l d
   exact h.tp i j t f b l d
theorem b2G {B1:Nat->PS}(h:∀i,(B0 i).wt=(B1 i).wt):∀k i,(Bk m B0 k i).wt=(Bk m B1 k i).wt
 |0,i=>h i
 | k+1,i=>by
  have ih:∀i,(Bk m B0 k i).wt=(Bk m B1 k i).wt:=b2G h k
  have e:(λi=>(Bk m B0 k i).wt)=λi=>(Bk m B1 k i).wt:=funext ih
  show (nxB _ _ _ i).wt=(nxB _ _ _ i).wt
  rw[zO,zO,e,ih i]
def b4E {B1:Nat->PS}(h:∀i,(B0 i).wt=(B1 i).wt)(k:Nat):pP m B0 k=pP m B1 k:=by
 unfold pP
 refine X4 λj _=>?_
 have e:(λi=>(Bk m B0 j i).wt)=λi=>(Bk m B1 j i).wt:=funext (b2G h j)
 have q:qk m B0 j=qk m B1 j:=YU (pk m) e
 have f:fk m B0 j=fk m B1 j:=by
  show (Bk m B0 j (qk m B0 j)).wt.headD (0, [])=(Bk m B1 j (qk m B1 j)).wt.headD (0, [])
  rw[q,b2G h j]
 rw[q,f]
noncomputable def dG (m:Nat)(fs:List (Nat×Nat×List Int))(k:Nat):List (Nat×Nat×List Int):=pP m (B91 (λ_=>(0,0)) 3 fs) k
def zN:dG m fs k=pP m (B91 ch v fs) k:=b4E (B0:=B91 (λ_=>(0,0)) 3 fs) (B1:=B91 ch v fs) (λ_=>rfl) k
noncomputable abbrev g91 (m:Nat)(fs:List (Nat×Nat×List Int))(k i:Nat):List Fr:=(Bk m (B91 (λ_=>(0,0)) 3 fs) k i).wt
def b2Y (K:W.Frag):Sp:=λa H Q _=>∃(fl:Addr)(ts:List Addr)(fs:List (Nat×Nat×List Int))(m:Nat),a= [.ref fl,.int (m:Int)]/\tW H fl ts fs/\F92 m fs/\1<=fs.length/\fs.length<=6/\2<=m/\m<=5/\∀(ol:Addr)(us:List Addr) H',H ol=none->Same H H'->tW H' ol us (dG m fs fs.length)->Q (.ref ol) H'
def b9I (m2:2<=m)(F:F92 m fs)(hk:k<fs.length):∃(q:Nat)(fq:Fr)(rq:List Fr),q<m/\g91 m fs k q=fq::rq/\(∀j f r,j<m->j≠q->g91 m fs k j=f::r->fq.1<f.1)/\dG m fs (k+1)=dG m fs k++[(q,fq)]/\g91 m fs (k+1)=gX q (g91 m fs k):=by
 obtain⟨R,d⟩:=a2C (ch:=λ_=>(0,0)) m2 (v:=3) (by decide) (by decide) F
 have L:=R.ldr (k:=k) (by rw[R.sum d k (by lia)];lia)
 obtain⟨g,h,l⟩:=L
 have b:∃fq rq,g91 m fs k (qk m (B91 (λ_=>(0,0)) 3 fs) k)=fq::rq:=by
  cases e:g91 m fs k (qk m (B91 (λ_=>(0,0)) 3 fs) k) with
  |nil=>exact absurd e h
  |cons a r=>exact⟨a,r,rfl⟩
 obtain⟨fq,rq,e⟩:=b
 have n:fk m (B91 (λ_=>(0,0)) 3 fs) k=fq:=by
  show (g91 m fs k (qk m (B91 (λ_=>(0,0)) 3 fs) k)).headD (0, [])=fq
  rw[e];rfl
 refine⟨_,fq,rq,g,e,λj f r o p c=>?_,?_,funext λi=>zO i⟩
 ·have z:=l j o p (by show g91 m fs k j≠ [];rw[c];exact λy=>by cases y)
  change ((g91 m fs k _).headD (0, [])).1<((g91 m fs k j).headD (0, [])).1 at z
  rw[e,c]at z
  exact z
 ·rw[<-n]
  exact uV
open PySem.Spec PyProof.Rows in
theorem b6W {X:Cx}(i:X.calm=true):fY X (.builtin "max") (b6K X.K (λm z=>z<=m)):=by
 intro e s F H xs G Q I r h
 obtain⟨x,rfl,h⟩:=l1.ex h
 obtain⟨p,rfl,k,l,b,q⟩:=vR.ex h
 obtain⟨u,rfl,n⟩:=vals1 r
 cases n
 obtain⟨o,w,pl,_⟩:=I.list l
 obtain⟨zs,y,c⟩:=nR (intsAre_of w)
 have A:s.heap.IsList p (intItems zs):=y▸pl.isList
 have d:0<zs.size:=by
  have f:0<k.length:=Jt.mpr b
  rw[c,Ya,Xl]at f;exact f
 refine max_intList (I.ok.hd i) A d λv J L B C=>?_
 obtain⟨t,rfl⟩:=intItems_at B
 obtain⟨M,D⟩:=argBest_gt (numAt zs) (zs.size-1)
 refine⟨.int _,H,I.kept C,⟨_,rfl⟩,q _ ?_ λa g=>?_⟩
 ·rw[c,numAt_eq];exact getD_mem (by rw[Ya,Xl];lia)
 ·rw[c]at g
  obtain⟨j,E,rfl⟩:=mem_getD g
  rw[Ya,Xl]at E
  rw[<-numAt_eq];exact D j (by lia)
def xY (o:Own)(H:Hp):Prop:=¬ o 1080/\∃ps,H 1080=some (.tbl ps)/\TriplesOk ps.toList/\(codeAmong tZ ps.toList=none\/∃c',codeAmong tZ ps.toList=some (.ref c')/\H c'=some (kW c' iqH)/\¬ o c')
def xY.tabP (h:xY o H):pY 1080 tZ iqH H:=by
 obtain⟨_,c,d,e,f⟩:=h
 exact⟨c,d,e,f.imp id λ⟨g,a,b,_⟩=>⟨g,a,b⟩⟩
def xY.mv (h:xY o H)(m:Mv o H o' H'):xY o' H':=by
 obtain⟨n,e,d,f,g⟩:=h
 refine⟨λz=>(m.2 _ z).elim n λy=>(by rw[d]at y;cases y),e,m.1 _ _ d (.inl n),f,g.imp id λ⟨i,a,b,c⟩=>⟨i,a,m.1 _ _ b (.inl c),λz=>(m.2 _ z).elim c λy=>by rw[b]at y;cases y⟩⟩
def xY.same (h:xY o H)(g:Same H H'):xY o H':=h.mv (Mv.of g)
structure JE (C:Addr)(A:Cs)(F H:Hp)(r:Addr)(R:RS)(o:Own):Prop where
 rl:mR C A H r R o
 tb:xY o H
 kp:∀x u,F x=some u->H x=some u/\¬ o x/\x≠1080
section
variable {F:Hp}{R R':RS}
def JE.sm (h:JE C A F H r R o):Same F H:=λx u e=>(h.kp x u e).1
def JE.same (h:JE C A F H r R o)(g:Same H H'):JE C A F H' r R o:=⟨let ⟨w,x⟩:=h.rl;⟨w,x.same g⟩,h.tb.same g,λx u e=>⟨g _ _ (h.kp x u e).1,(h.kp x u e).2⟩⟩
def JE.mv (h:JE C A F H r R o)(d:mR C A H' r R' o')(m:Mv o H o' H'):JE C A F H' r R' o':=⟨d,h.tb.mv m,λx u e=>let ⟨a,b,c⟩:=h.kp x u e;⟨m.1 _ _ a (.inl b),m.out a b,c⟩⟩
def JE.ear (h:JE C A F H r R o){g c a d:Addr}(I:H g=none)(J:H c=none)(hd:H d=none)(k:H a=none\/a0Y 1080 tZ a H)(sm:∀b u,b≠1080->H b=some u->H' b=some u)(tC:a0Y 1080 tZ a H')(K:H' g=some (FnO g sH iqH [("kept",c)] a))(B:H' a=some (kW a iqH))(L:H' c=some (jZ c (.ref d)))(M:H' d=some (.dT (kvP ps))):JE C A F H' r R o/\a5D H' g ps o:=by
 obtain⟨D,Q,E,_,l⟩:=id h.tb
 obtain⟨w,i⟩:=h.rl
 have m:∀x v,H x=some v->(o x\/isT v)->x≠1080:=λx v e z y=>by
  rcases z with z | ⟨_,rfl⟩
  ·exact D (y▸z)
  ·rw[y,E]at e;cases e
 have j:¬ o a:=λz=>by
  rcases k with h | ⟨N,s,G,f⟩
  ·exact i.al a z h
  ·have:=s.symm.trans E
   cases this
   rcases l with h | ⟨S,O,T,P⟩
   ·rw[h]at f;cases f
   ·rw[O]at f;cases f;exact P z
 obtain⟨t,s,G,f⟩:=tC
 exact⟨⟨⟨w,i.move λx v e z=>sm x v (m x v e z) e⟩,⟨D,t,s,G,.inr ⟨a,f,B,j⟩⟩,λx u e=>let ⟨p,q,n⟩:=h.kp x u e;⟨sm _ _ n p,q,n⟩⟩,c,a,d,⟨K,B,L,M⟩,λz=>i.al _ z I,λz=>i.al _ z J,j,λz=>i.al _ z hd⟩
end
def b3T {kvs:List (Key×V)}{k:Key}{v:V}:(putK kvs k v).length<=kvs.length+1:=by
 unfold putK
 split
 ·rw[Ya];exact XM _
 ·rw[Yc];exact Yd _
def b0V (S:PS)(b:Int):(aW S b).2.m1=S.m1/\(aW S b).2.m2=S.m2/\(aW S b).2.vt=S.vt/\(aW S b).2.wt.length<=S.wt.length:=by
 have f:∀e w nx,(dY S e w nx).2.m1=S.m1/\(dY S e w nx).2.m2=S.m2/\(dY S e w nx).2.vt=S.vt/\(dY S e w nx).2.wt.length<=S.wt.length:=λe w nx=>by unfold dY;split <;> exact⟨rfl,rfl,rfl,Yd _⟩
 have d:∀a,(bW S a).2.m1=S.m1/\(bW S a).2.m2=S.m2/\(bW S a).2.vt=S.vt/\(bW S a).2.wt.length<=S.wt.length:=λa=>by unfold bW;exact f _ _ _
 have g:∀a,(dM S a).2.m1=S.m1/\(dM S a).2.m2=S.m2/\(dM S a).2.vt=S.vt/\(dM S a).2.wt.length<=S.wt.length:=λa=>by unfold dM;exact f _ _ _
 have i:(gU S).2.m1=S.m1/\(gU S).2.m2=S.m2/\(gU S).2.vt=S.vt/\(gU S).2.wt.length<=S.wt.length:=by unfold gU;exact f _ _ _
 have j:S.wt.tail.length<=S.wt.length:=by rw[List.length_tail];lia
 cases en:S.now with
 |free k=>rw[dJ en];(repeat' split) <;> first | exact d _ | exact⟨rfl,rfl,rfl,Yd _⟩
 |speaks n ds k=>rw[bG en];(repeat' split) <;> first | exact d _ | exact⟨rfl,rfl,rfl,Yd _⟩
 |reads h=>rw[cI en];(repeat' split) <;> first | exact d _ | exact⟨rfl,rfl,rfl,Yd _⟩
 |tlS v c=>rw[jW en];(repeat' split) <;> first | exact d _ | exact g _ | exact⟨rfl,rfl,rfl,Yd _⟩ | exact⟨rfl,rfl,rfl,j⟩
 |tlR n ds v c=>rw[lH en];(repeat' split) <;> first | exact d _ | exact g _ | exact⟨rfl,rfl,rfl,Yd _⟩
 |flag l m=>rw[nC en];(repeat' split) <;> first | exact⟨rfl,rfl,rfl,Yd _⟩
 |settles m=>rw[jK en];(repeat' split) <;> first | exact i | exact⟨rfl,rfl,rfl,Yd _⟩
 |rests l=>rw[gR en];(repeat' split) <;> first | exact d _ | exact⟨rfl,rfl,rfl,Yd _⟩
 |off=>rw[a0G en];exact⟨rfl,rfl,rfl,Yd _⟩
def b0I {v:HO}(b:H1 p=none)(a:H1 dp=none)(f:∀x,o x->x=p\/upd (upd H1 dp (.own p)) p v x=none)(g:∀x u,x≠p->upd (upd H1 dp (.own p)) p v x=some u->H' x=some u):(∀x,o x->H1 x=none)/\Same H1 H':=by
 refine⟨λx i=>?_,λx u e=>g x u (aL e b) (by rw[aH (aL e b),aH (aL e a)];exact e)⟩
 rcases f x i with h | h
 ·rw[h];exact b
 ·by_cases c:x=p
  ·rw[c];exact b
  ·rw[aH c]at h
   by_cases d:x=dp
   ·rw[d];exact a
   ·rw[aH d]at h;exact h
def SqL.keepT {P:Addr}{xs:List V}{pos:Pos}{q:Str}(h:SqL K H a xs)(b:pY P pos q H)(g:∀x u,H x=some u->x≠P->H' x=some u):SqL K H' a xs:=by
 obtain⟨c,e,_⟩:=b
 rcases h with (h | ⟨o,h⟩) | h
 ·exact .inl (.inl (g _ _ h λz=>by rw[z,e]at h;cases h))
 ·exact .inl (.inr ⟨o,g _ _ h λz=>by rw[z,e]at h;cases h⟩)
 ·exact .inr h
def a6W {f:Nat×Nat×List Int}(h:fs[i]? =some f)(k:Nat):lW (fs.take (i+1)) k=lW (fs.take i) k++(if f.1=k then [f.2] else []):=by
 obtain⟨l,e⟩:=Ye.mp h
 unfold lW
 rw[Yg l,e,Je,Yn]
 congr 1
 by_cases c:f.1=k
 ·simp[c]
 ·simp[c]
structure tV (m v:Nat)(ch:Nat->Nat×Nat)(fs:List (Nat×Nat×List Int))(i:Nat)(R:RS):Prop where
 ln:R.ps.length=m
 ps:∀k,k<m->R.ps[k]? =some (B91 ch v (fs.take i) k)
 bo:R.bo= []
 ev:R.ev= []
 l2:R.sa.length=m
 sa:∀x∈R.sa,x= []
 l4:R.he.length=m
 he:∀x∈R.he,x= []
 ol:R.ow.length<=i
 ow:∀(n:Nat)(u:V),iH R.ow (.inl (n:Int))=some u->∃f∈fs,f.2.1=n/\u= .int ((f.1:Nat):Int)
abbrev chI (ms:List (Nat×Nat)):List (Int×Int):=ms.map λc=>(((c.1:Nat):Int),((c.2:Nat):Int))
def tV.start (v:Nat)(a:List (Nat×Nat))(fs:List (Nat×Nat×List Int)):tV a.length v (λi=>a.getD i (0,0)) fs 0 (R0 (chI a) (v:Int)):=by
 have b:(chI a).length=a.length:=Ya _
 refine⟨by show (List.map _ (chI a)).length=_;rw[Ya,b],λk d=>?_,rfl,rfl,by show (List.replicate _ _).length=_;rw[YA,b],λx c=>List.eq_of_mem_replicate c,by show (List.replicate _ _).length=_;rw[YA,b],λx c=>List.eq_of_mem_replicate c,Yd _,λn u e=>by cases e⟩
 show (List.map _ (List.map _ a))[k]? =_
 rw[Yl,Yl,Yb d]
 have e:(λi=>a.getD i ((0,0):Nat×Nat)) k=a[k]:=by
  show a.getD k (0,0)=_
  rw[Yf,Yb d]
  rfl
 unfold B91
 rw[e]
 rfl
def tV.hand {R:RS}(h:tV m v ch fs i R)(hF:F92 m fs){f:Nat×Nat×List Int}(ef:fs[i]? =some f):(iH R.ow (.inl ((f.2.1:Nat):Int))).getD (.int ((f.1:Nat):Int))= .int ((f.1:Nat):Int)/\R.ps[f.1]? =some (B91 ch v (fs.take i) f.1)/\tV m v ch fs (i+1) { R with ps:=R.ps.set f.1 { B91 ch v (fs.take i) f.1 with wt:=(B91 ch v (fs.take i) f.1).wt++[(f.2.1,f.2.2)] },ow:=putK R.ow (.inl ((f.2.1:Nat):Int)) (.int ((f.1:Nat):Int)) }:=by
 have b:=Yx ef
 have d:=(hF.ok f b).1
 refine⟨?_,h.ps _ d,⟨by show (R.ps.set _ _).length=m;rw[Y8];exact h.ln,λk j=>?_,h.bo,h.ev,h.l2,h.sa,h.l4,h.he,?_,λn u e=>?_⟩⟩
 ·cases e:iH R.ow (.inl ((f.2.1:Nat):Int)) with
  |none=>rfl
  | some u=>
   obtain⟨g,l,o,p⟩:=h.ow _ u e
   rw[p,hF.un g l f b o]
   rfl
 ·show (R.ps.set f.1 _)[k]? =_
  rw[Y7]
  unfold B91
  rw[a6W ef]
  by_cases c:f.1=k
  ·subst c
   rw[if_pos rfl,if_pos (by rw[h.ln];exact d),if_pos rfl]
  ·rw[if_neg c,if_neg c,YD]
   exact h.ps k j
 ·show (putK _ _ _).length<=_
  have q:=b3T (kvs:=R.ow) (k:= .inl ((f.2.1:Nat):Int)) (v:= .int ((f.1:Nat):Int))
  have r:=h.ol
  lia
 ·have a:iH (putK R.ow (.inl ((f.2.1:Nat):Int)) (.int ((f.1:Nat):Int))) (.inl ((n:Nat):Int))=some u:=e
  rw[yH]at a
  split at a
  ·rename_i z
   cases a
   exact⟨f,b,by have:=Sum.inl.inj z;lia,rfl⟩
  ·exact h.ow n u a
def tV.ln0 {R:RS}(h:tV m v ch fs i R):Ln R m 0:=⟨h.ln,h.l2,h.l4,by rw[h.bo];rfl,λx a=>by rw[h.sa x a];rfl,λx a=>by rw[h.he x a];rfl,by rw[h.ev];exact YV _⟩
theorem rW {wp:Nat->Option Nat}{s:List PS}{t:Nat}:∀(b i:Nat)(S:PS),(nQ wp s (t+b))[i]? =some S->∃S',(nQ wp s t)[i]? =some S'/\S.m1=S'.m1/\S.m2=S'.m2/\S.wt.length<=S'.wt.length
 |0,i,S,e=>⟨S,e,rfl,rfl,Yd _⟩
 | b+1,i,S,e=>by
  obtain⟨S1,e1,rfl⟩:=dR (s:=nQ wp s (t+b)) e
  obtain⟨S',e2,h1,h2,h3⟩:=rW b i S1 e1
  obtain⟨p1,p2,_,p4⟩:=b0V S1 (hrd (wp (t+b)) (cP (nQ wp s (t+b))) i)
  exact⟨S',e2,p1.trans h1,p2.trans h2,YS p4 h3⟩
def a0Z (ch:Nat->Nat×Nat)(a:List (Nat×Nat×List Int))(R:RS):Prop:=∀(i:Nat)(S:PS),R.ps[i]? =some S->S.m1=(ch i).1/\S.m2=(ch i).2/\S.wt= []/\S.up=uE S i a
structure c5D (m v:Nat)(ch:Nat->Nat×Nat)(fs:List (Nat×Nat×List Int))(ps:List (Int×Int))(R:RS)(T:Nat):Prop where
 tm:T<=720
 ne:∀t,(dD ps R t).ps.length=m
 sz:∀t,t<990->SzR (dD ps R t)
 wl:∀t,∀S∈(dD ps R t).ps,S.wt.length<=6
 d0:∀t,(∀S∈(dD ps R t).ps,S.wt= [])->a0Z ch (dG m fs fs.length) (dD ps R t)
 d1:∀t,T+141<=t->a0Z ch (dG m fs fs.length) (dD ps R t)
 d2:∀t b,a0Z ch (dG m fs fs.length) (dD ps R t)->a0Z ch (dG m fs fs.length) (dD ps R (t+b))
def b1F {l:List (Nat×Fr)}(a:S.m1=S'.m1)(b:S.m2=S'.m2):uE S i l=uE S' i l:=by
 have:∀n,gC S n=gC S' n:=λn=>by unfold gC;rw[a,b]
 unfold uE
 congr 1
 refine List.filter_congr λx _=>?_
 rw[this]
def tV.all {R:RS}(h:tV m v ch fs fs.length R)(m2:2<=m)(m5:m<=5)(v2:2<=v)(v5:v<=5)(F:F92 m fs)(n6:fs.length<=6){o:Option (Nat×Nat)}(ho:∀p t,o=some (p,t)->p<m):c5D m v ch fs (prs o) R (((dG m fs fs.length).map λf=>LW f.2).sum+fs.length*(12+v)):=by
 obtain⟨B,E⟩:=a2C (ch:=ch) m2 v2 v5 F
 have C:=B.cx E
 have G:fs.take fs.length=fs:=Yi (Yd _)
 have y:=h.ps
 rw[G]at y
 have L:=h.ln0
 have O:tg v fs.length (fk m (B91 ch v fs)) 0=((dG m fs fs.length).map λf=>LW f.2).sum+fs.length*(12+v):=by
  rw[a7P,zN (ch:=ch) (v:=v)]
  unfold pP
  rw[Jv]
  rfl
 rw[<-O]
 have at0:∀(i:Nat)(S:PS),R.ps[i]? =some S->S=B91 ch v fs i:=λi S e=>by
  have:=y i (by rw[<-h.ln];exact(Ye.mp e).1)
  rw[e]at this
  exact Yp this
 have wf:∀(i:Nat)(S:PS),R.ps[i]? =some S->Wf S:=λi S e=>by
  rw[at0 i S e]
  have q:i<m:=by rw[<-h.ln];exact(Ye.mp e).1
  exact⟨v5,B.ok i q,trivial⟩
 have all:=λt=>c3B C (s:=R.ps) ho h.ln wf (λi S e=>⟨0,0,Xy 0,Xy 0,at0 i S e⟩) t
 have par:∀t (i:Nat)(S:PS),(dD (prs o) R t).ps[i]? =some S->S.m1=(ch i).1/\S.m2=(ch i).2:=λt i S e=>by
  rw[mX L]at e
  obtain⟨H,D,d,x,_⟩:=rW (t:=0) t i S (by rw[Nat.zero_add];exact e)
  rw[at0 i H D]at d x
  exact⟨d,x⟩
 have base:∀t,∃k,k<=fs.length/\(∀(i:Nat)(S:PS),(dD (prs o) R t).ps[i]? =some S->S.wt=(Bk m (B91 ch v fs) k i).wt/\S.up=uE S i (dG m fs k))/\(tg v fs.length (fk m (B91 ch v fs)) 0+141<=t->k=fs.length):=λt=>by
  obtain⟨k,r,d,x⟩:=all t
  refine⟨k,r,λi S e=>?_,x⟩
  obtain⟨z,A⟩:=par t i S e
  rw[mX L]at e
  obtain⟨P,Q⟩:=d i S e
  refine⟨P,?_⟩
  rw[Q,b6T,zN (ch:=ch) (v:=v)]
  exact b1F z.symm A.symm
 have len:∀t,(dD (prs o) R t).ps.length=m:=λt=>(oF _ _ t).trans h.ln
 have done:∀t,(∀S∈(dD (prs o) R t).ps,S.wt= [])->a0Z ch (dG m fs fs.length) (dD (prs o) R t):=λt I i S e=>by
  obtain⟨k,r,d,_⟩:=base t
  have :k=fs.length:=by
   by_cases c:k<fs.length
   ·exfalso
    obtain⟨J,u,T⟩:=rP (m:=m) (g:=λi=>(Bk m (B91 ch v fs) k i).wt) (by rw[B.sum E k r];lia)
    have K:=Yb (l:=(dD (prs o) R t).ps) (i:=J) (by rw[len];exact u)
    exact T ((d J _ K).1.symm.trans (I _ (Yx K)))
   ·lia
  subst this
  obtain⟨z,A⟩:=par t i S e
  exact⟨z,A,I S (Yx e),(d i S e).2⟩
 have U:∀t,∀S∈(dD (prs o) R t).ps,S.up.length<=6:=λt S w=>by
  obtain⟨i,q⟩:=Xn.mp w
  obtain⟨k,r,d,_⟩:=base t
  rw[(d i S q).2]
  unfold uE
  rw[Ya]
  refine YS (Xo _ _) ?_
  unfold dG
  rw[lG]
  lia
 have V:∀N,N<=6->(∀k,k<N->LW (fk m (B91 ch v fs) k)<=103)->tg v N (fk m (B91 ch v fs)) 0<=720:=λN n6 W=>by
  rw[a7P]
  have :∀n,n<=N->((List.range n).map λj=>LW (fk m (B91 ch v fs) j)).sum<=n*103:=λn=>by
   induction n with
   |zero=>exact λ_=>Yd _
   | succ n ih=>
    intro Y
    rw[XT,Yn,List.sum_append,Nat.succ_mul]
    have a:=ih (by lia)
    have b:=W n (by lia)
    show _+(LW (fk m (B91 ch v fs) n)+0)<=_
    lia
  have a:=this N (Yd _)
  have b:N*(12+v)<=6*17:=Nat.mul_le_mul n6 (by lia)
  lia
 refine⟨V _ n6 C.ln,len,λt X=>b3P L m5 X λS w=>XQ (U t S w) (by decide),λt S w=>?_,done,λt G i S e=>?_,λt b hd=>done _ λS w=>?_⟩
 ·obtain⟨i,q⟩:=Xn.mp w
  obtain⟨k,r,d,_⟩:=base t
  have u:i<m:=by rw[<-len t];exact(Ye.mp q).1
  rw[(d i S q).1]
  have e:=B.sum E k r
  have :∀{g:Nat->List Fr}{m i:Nat},i<m->(g i).length<=mD m g:=λ{g m i} q=>by
   induction m with
   |zero=>exact absurd q (XC _)
   | succ m ih=>
    rw[gY]
    by_cases c:i=m
    ·rw[c];lia
    ·have:=ih (by lia);lia
  have:=this (g:=λi=>(Bk m (B91 ch v fs) k i).wt) u
  lia
 ·obtain⟨k,r,d,x⟩:=base t
  have:=x G
  subst this
  obtain⟨z,A⟩:=par t i S e
  have q:i<m:=by rw[<-len t];exact(Ye.mp e).1
  exact⟨z,A,(d i S e).1.trans (C.dn i q),(d i S e).2⟩
 ·obtain⟨i,q⟩:=Xn.mp w
  rw[mX L]at q
  obtain⟨H,D,_,_,M⟩:=rW b i S q
  rw[<-mX L]at D
  have:=(hd i H D).2.2.1
  rw[this]at M
  exact XI.mp (Nat.le_zero.mp M)
def a9U (b:2<=m)(F:F92 m fs):∀f∈dG m fs fs.length,FrN f.2:=λf a=>by
 obtain⟨R,c⟩:=a2C (ch:=λ_=>(0,0)) b (v:=3) (by decide) (by decide) F
 unfold dG pP at a
 obtain⟨k,d,rfl⟩:=YW.mp a
 have w:=(R.cx c).win k (Jy.mp d)
 exact w.ok _ w.hq _ (XA w.eq)
def b7B {f:Fr}(h:FrN f):1<=LW f:=by
 have a:=(kJ (fb ((f.1:Nat):Int) f.2)).1
 have b:=kY ((f.1:Nat):Int) f.2
 show 1<=(put _).length
 lia
abbrev nV (l:List Nat):List V:=l.map λn=>V.int ((n:Nat):Int)
def wY (l:List Nat):nV l=(l.map λn=>((n:Nat):Int)).map V.int:=by rw[Jv];rfl
theorem yS:∀l:List Nat,(l.map λn=>((n:Nat):Int)).sum=((l.sum:Nat):Int)
 |[]=>rfl
 |a::l=>by rw[YK,XU,XU,yS l];lia
def b7N (v:Nat)(zs:List Nat):List Nat:=(List.range (zs.length+1)).map λk=>(zs.take k).sum+k*(12+v)
def b2S {zs:List Nat}(v5:v<=5)(h6:zs.length<=6)(h:∀z∈zs,z<=103):∀n∈b7N v zs,n<=5000:=λn f=>by
 unfold b7N at f
 obtain⟨k,g,rfl⟩:=YW.mp f
 have g:=Jy.mp g
 have d:∀l:List Nat,(∀z∈l,z<=103)->l.sum<=l.length*103:=λl=>by
  induction l with
  |nil=>exact λ_=>Yd _
  | cons a l ih=>
   intro i
   have j:=i a YC
   have m:=ih λz e=>i z (Yv _ e)
   rw[XU,Yo,Nat.succ_mul]
   lia
 have a:=d (zs.take k) λz e=>h z (Y1 e)
 rw[Yj]at a
 have b:k*(12+v)<=7*17:=Nat.mul_le_mul (by lia) (by lia)
 have c:min k zs.length*103<=6*103:=Nat.mul_le_mul_right _ (by lia)
 lia
def qO (K:W.Frag):Sp:=λb H Q _=>∃(a:Addr)(ns:List Int),b= [.ref a]/\SqL K H a (ns.map V.int)/\ns.length<=63/\pY 1080 tZ iqH H/\∀H',Q (.bl true) H'
def b3D (K:W.Frag):Sp:=λb H Q _=>∃(a fl:Addr)(ss:List Int)(k:Nat)(ts:List Addr)(fs:List (Nat×Nat×List Int)),b= [.ref a,.int (k:Int),.ref fl]/\SqL K H a (ss.map V.int)/\ss.length<=63/\k<=5/\tW H fl ts fs/\1<=fs.length/\fs.length<=6/\(∀f∈fs,FrN f.2)/\∀(m1 m2:Nat)(t:Addr) H',m1<256->m2<256->H t=none->Same H H'->H' t=some (.tup [.int (m1:Int),.int (m2:Int)])->Q (.ref t) H'
def a7Z (K:W.Frag):Sp:=λb H Q _=>∃(a sa za:Addr)(ss:List Int)(st sz:List Nat)(v last:Nat),b= [.ref a,.ref sa,.ref za,.int (v:Int),.int (last:Int)]/\SqL K H a (ss.map V.int)/\ss.length<=63/\SqL K H sa (st.map λn=>V.int ((n:Nat):Int))/\SqL K H za (sz.map λn=>V.int ((n:Nat):Int))/\st.length=sz.length/\1<=st.length/\st.length<=9/\(∀n∈sz,1<=n/\n<=200)/\(∀n∈st,n<=5000)/\v<=5/\last<=5000/\∀(t:Nat) H',Same H H'->Q (.int (t:Int)) H'
def pG {l:List Nat}(h:i<l.length):atI (l.map λn=>V.int ((n:Nat):Int)) ((i:Nat):Int)=some (.int ((l[i]:Nat):Int)):=eV (by rw[Yl,Yb h];rfl)
def a8G (K:W.Frag):Sp:=λa H Q _=>∃(d:Addr)(n:Nat)(ds:List Int),a= [.int (n:Int),.ref d]/\SqL K H d (ds.map V.int)/\n<256/\ds.length<=7/\ds.all byt=true/\∀H',Same H H'->Q (.int (((put (fb (n:Int) ds)).length:Nat):Int)) H'
def a8H (K:W.Frag)(C:Addr)(A:Cs):Sp:=λa H Q _=>∃(r:Addr)(R:RS)(o:Own)(w:Rw)(i:Nat)(S:PS)(ch ol:Addr)(us:List Addr)(os:List (Nat×Nat×List Int)),a= [.ref r,.int (i:Int),.ref ch,.ref ol]/\cU C A H r R o w/\R.ps[i]? =some S/\H ch=some (.tup [.int ((S.m1:Nat):Int),.int ((S.m2:Nat):Int)])/\tW H ol us os/\os.length<=6/\S.up=uE S i os/\S.wt= []/\∀H',Same H H'->Q (.bl true) H'
abbrev FB (P:Program)(w:World)(K:W.Frag)(mg:Str->Option Value)(base:Heap)(CX:CXT)(k:Nat)(nm:Str)(a:Addr)(d:FuncData)(ps:List Str)(sp:Sp):Prop:=iV P w K mg base CX k a d ps sp/\Binds K d ps []/\W.keepIn K (.ref a)=true/\mg nm=some (.ref a)
abbrev MB (P:Program)(w:World)(K:W.Frag)(mg:Str->Option Value)(base:Heap)(CX:CXT)(k:Nat)(a:Addr)(d:FuncData)(ps:List Str)(sp:Sp):Prop:=iV P w K mg base CX k a d ps sp/\Binds K d ps []
abbrev FL (K:W.Frag)(f:Addr)(n q:Str)(st:Stmt)(oc:Value)(od:Option Addr)(kV dc pm:Value)(an:Option Addr)(cd ct:Value)(sl:Array (Option Value)):Prop:=K.lookup f=some ⟨oc,od,.func (W.fnOf n q (jA st) (fD st) (aZ st) .none kV dc pm an cd ct),sl⟩
structure GFm (K:W.Frag)(mg:Str->Option Value)(nm:Str)(st:Stmt)(f:Addr)(d:FuncData):Prop where
 F:Fun K nm nm st f d
 m:mg nm=some (.ref f)
def GF (K:W.Frag)(mg:Str->Option Value)(nm:Str)(st:Stmt)(f:Addr):Prop:=∃d,GFm K mg nm st f d
def MF (K:W.Frag)(C:Addr)(x q:Str)(st:Stmt)(f:Addr):Prop:=W.findIn K (.ref C) x=some (some (.ref f))/\∃d,Fun K x q st f d
def gf_mk {h:Heap}{nm:Str}{f:Addr}(X:K.In h)(G:h.Ns mainGlobals mg)(a:W.nsIn K mainGlobals nm=some (some (.ref f)))(l:FL K f nm nm st oc od kV dc pm an cd ct sl)(c:W.codeIn K cd nm=true)(k:W.keepIn K (.ref f)=true):GF K mg nm st f:=⟨_,a2O l c k,W.mg_of X G a⟩
def GFc (K:W.Frag)(mg:Str->Option Value)(nm:Str)(st:Stmt)(f c0:Addr):Prop:=∃d,GFm K mg nm st f d/\d.code= .ref c0
def gfc_mk {h:Heap}{nm:Str}{f:Addr}{c0:Addr}(X:K.In h)(G:h.Ns mainGlobals mg)(a:W.nsIn K mainGlobals nm=some (some (.ref f)))(l:FL K f nm nm st oc od kV dc pm an (.ref c0) ct sl)(c:W.codeIn K (.ref c0) nm=true)(k:W.keepIn K (.ref f)=true):GFc K mg nm st f c0:=⟨_,⟨a2O l c k,W.mg_of X G a⟩,rfl⟩
def GF.s {nm:Str}{f:Addr}(h:GF K mg nm st f):GFm K mg nm st f (Exists.choose h):=Exists.choose_spec h
def GFc.s {nm:Str}{f c0:Addr}(h:GFc K mg nm st f c0):GFm K mg nm st f (Exists.choose h)/\(Exists.choose h).code= .ref c0:=Exists.choose_spec h
def MF.s {x q:Str}{f:Addr}(h:MF K C x q st f):Fun K x q st f (Exists.choose h.2):=Exists.choose_spec h.2
def mf_mk {x q:Str}{f:Addr}(a:W.findIn K (.ref C) x=some (some (.ref f)))(l:FL K f x q st oc od kV dc pm an cd ct sl)(c:W.codeIn K cd q=true)(k:W.keepIn K (.ref f)=true):MF K C x q st f:=⟨a,_,a2O l c k⟩
abbrev HB (x q:Str)(st:Stmt)(ps:List Str):Prop:=∀(kV doc pm:Value)(an:Option Addr)(cdv ct:Value)(us:List Value),us.length=ps.length->bindArgs (W.fnOf x q (jA st) (fD st) (aZ st) .none kV doc pm an cdv ct) ⟨us, []⟩=pure (ps.zip us)
theorem bi0 (h:bindArgs d ⟨[], []⟩=pure []):∀us:List Value,us.length=([]:List Str).length->bindArgs d ⟨us, []⟩=pure (([]:List Str).zip us) | [],_=>h
def bi1 {a:Str}(h:∀u,bindArgs d ⟨[u], []⟩=pure [(a,u)]):∀us:List Value,us.length= [a].length->bindArgs d ⟨us, []⟩=pure ([a].zip us):=by
 intro us b
 rcases us with _ | ⟨u,_ | ⟨c,e⟩⟩
 ·simp at b
 ·exact h u
 ·simp at b
def bi2 {a b:Str}(h:∀u v,bindArgs d ⟨[u,v], []⟩=pure [(a,u),(b,v)]):∀us:List Value,us.length= [a,b].length->bindArgs d ⟨us, []⟩=pure ([a,b].zip us):=by
 intro us c
 rcases us with _ | ⟨u,_ | ⟨v,_ | ⟨e,f⟩⟩⟩
 ·simp at c
 ·simp at c
 ·exact h u v
 ·simp at c
def bi3 {a b c:Str}(h:∀u v x,bindArgs d ⟨[u,v,x], []⟩=pure [(a,u),(b,v),(c,x)]):∀us:List Value,us.length= [a,b,c].length->bindArgs d ⟨us, []⟩=pure ([a,b,c].zip us):=by
 intro us e
 rcases us with _ | ⟨u,_ | ⟨v,_ | ⟨x,_ | ⟨f,g⟩⟩⟩⟩
 ·simp at e
 ·simp at e
 ·simp at e
 ·exact h u v x
 ·simp at e
def bi4 {a b c e:Str}(h:∀u v x y,bindArgs d ⟨[u,v,x,y], []⟩=pure [(a,u),(b,v),(c,x),(e,y)]):∀us:List Value,us.length= [a,b,c,e].length->bindArgs d ⟨us, []⟩=pure ([a,b,c,e].zip us):=by
 intro us f
 rcases us with _ | ⟨u,_ | ⟨v,_ | ⟨x,_ | ⟨y,_ | ⟨g,i⟩⟩⟩⟩⟩
 ·simp at f
 ·simp at f
 ·simp at f
 ·simp at f
 ·exact h u v x y
 ·simp at f
def bi5 {a b c e f:Str}(h:∀u v x y z,bindArgs d ⟨[u,v,x,y,z], []⟩=pure [(a,u),(b,v),(c,x),(e,y),(f,z)]):∀us:List Value,us.length= [a,b,c,e,f].length->bindArgs d ⟨us, []⟩=pure ([a,b,c,e,f].zip us):=by
 intro us g
 rcases us with _ | ⟨u,_ | ⟨v,_ | ⟨x,_ | ⟨y,_ | ⟨z,_ | ⟨i,j⟩⟩⟩⟩⟩⟩
 ·simp at g
 ·simp at g
 ·simp at g
 ·simp at g
 ·simp at g
 ·exact h u v x y z
 ·simp at g
def sco {N ps:List Str}{a:Scope}(c:a.kind= .function/\a.isCoroutine=false/\a.isGenerator=false)(b:N.Nodup/\N.take ps.length=ps/\(∀x∈ps,a.names.lookup x=some .local\/a.names.lookup x=some .cell)/\∀y∈a.names,y.2≠ .free):jO N ps a:=⟨c.1,c.2.1,c.2.2,b.1,b.2.1,b.2.2.1,b.2.2.2⟩
section
variable {P:Program}{w:World}{base:Heap}{CX:CXT}{x q:Str}{f:Addr}{fd:FuncData}{ps:List Str}{sp:Sp}
theorem fbM (N:List Str)(F:GFm K mg x st f fd)(g:jO N ps (aZ st)->iV P w K mg base CX k f fd ps sp)(S:jO N ps (aZ st):=by exact sco ⟨rfl,rfl,rfl⟩ (by decide +kernel))
  (a:HB x x st ps:=by first | exact λ_ _ _ _ _ _=>bi1 λ_=>rfl | exact λ_ _ _ _ _ _=>bi2 λ_ _=>rfl | exact λ_ _ _ _ _ _=>bi3 λ_ _ _=>rfl | exact λ_ _ _ _ _ _=>bi4 λ_ _ _ _=>rfl | exact λ_ _ _ _ _ _=>bi5 λ_ _ _ _ _=>rfl | exact λ_ _ _ _ _ _=>bi6 λ_ _ _ _ _ _=>rfl | exact λ_ _ _ _ _ _=>bi7 λ_ _ _ _ _ _ _=>rfl | exact λ_ _ _ _ _ _=>bi0 rfl):FB P w K mg base CX k x f fd ps sp:=⟨g S,F.F.binds a,F.F.kp,F.m⟩
theorem mbK (N:List Str)(F:Fun K x q st f fd)(a:∀{c:Value}{A:Around}{b:List Env}{s:Shared}{vs:List V}{E:XK}(H:Hp)(Q:VK),N.Nodup->fB k (A.deeper (PyProof.Rows.envOfC q (aZ st) s.heap.objs.size f c))->sp vs H Q E->∃t,PSs (tK CX0 P w K mg base N q (aZ st) f c A b s H E).nox (fD st) t/\t { nx:=λ_ H'=>Q .non H',rt:=Q } (start N vs) H)(len:∀(vs:List V)(H:Hp)(Q:VK)(E:XK),sp vs H Q E->vs.length=ps.length:=by intro _ _ _ _ h;repeat (first | (obtain⟨rfl,_⟩:=h;exact rfl) | obtain⟨_,h⟩:=h))(S:jO N ps (aZ st):=by exact sco ⟨rfl,rfl,rfl⟩ (by decide +kernel))
  (d:HB x q st ps:=by first | exact λ_ _ _ _ _ _=>bi1 λ_=>rfl | exact λ_ _ _ _ _ _=>bi2 λ_ _=>rfl | exact λ_ _ _ _ _ _=>bi3 λ_ _ _=>rfl | exact λ_ _ _ _ _ _=>bi4 λ_ _ _ _=>rfl | exact λ_ _ _ _ _ _=>bi5 λ_ _ _ _ _=>rfl | exact λ_ _ _ _ _ _=>bi6 λ_ _ _ _ _ _=>rfl | exact λ_ _ _ _ _ _=>bi7 λ_ _ _ _ _ _ _=>rfl | exact λ_ _ _ _ _ _=>bi0 rfl):MB P w K mg base CX0 (k+1) f fd ps sp:=⟨F.ok S len λ_ _ _ _ _ _ _ _ e=>a _ _ S.nd e,F.binds d⟩
theorem fbK (N:List Str)(F:GFm K mg x st f fd)(a:∀{c:Value}{A:Around}{b:List Env}{s:Shared}{vs:List V}{E:XK}(H:Hp)(Q:VK),N.Nodup->fB k (A.deeper (PyProof.Rows.envOfC x (aZ st) s.heap.objs.size f c))->sp vs H Q E->∃t,PSs (tK CX0 P w K mg base N x (aZ st) f c A b s H E).nox (fD st) t/\t { nx:=λ_ H'=>Q .non H',rt:=Q } (start N vs) H)(len:∀(vs:List V)(H:Hp)(Q:VK)(E:XK),sp vs H Q E->vs.length=ps.length:=by intro _ _ _ _ h;repeat (first | (obtain⟨rfl,_⟩:=h;exact rfl) | obtain⟨_,h⟩:=h))(S:jO N ps (aZ st):=by exact sco ⟨rfl,rfl,rfl⟩ (by decide +kernel))
  (d:HB x x st ps:=by first | exact λ_ _ _ _ _ _=>bi1 λ_=>rfl | exact λ_ _ _ _ _ _=>bi2 λ_ _=>rfl | exact λ_ _ _ _ _ _=>bi3 λ_ _ _=>rfl | exact λ_ _ _ _ _ _=>bi4 λ_ _ _ _=>rfl | exact λ_ _ _ _ _ _=>bi5 λ_ _ _ _ _=>rfl | exact λ_ _ _ _ _ _=>bi6 λ_ _ _ _ _ _=>rfl | exact λ_ _ _ _ _ _=>bi7 λ_ _ _ _ _ _ _=>rfl | exact λ_ _ _ _ _ _=>bi0 rfl):FB P w K mg base CX0 (k+1) x f fd ps sp:=⟨F.F.ok S len λ_ _ _ _ _ _ _ _ e=>a _ _ S.nd e,F.F.binds d,F.F.kp,F.m⟩
end
section
variable (P:Program)(w:World)(mg:Str->Option Value)(base:Heap)(CA:Cs){Zll ZdC Zcr ZcJ ZbM Zgs Zfh Zff Zgt Zgv ZfK Zgu ZhV Zev ZeI Zgw Zfi Zex ZeJ Zdy Zc3 Zdx Zdg Zdf Zej Zdp Zck Zbt Zdo Zc2 ZcI ZdL ZcE Zdc ZdM Zds Zdr ZdK Zd8 Zea Zdz ZdP Zdt ZcY Zdh ZdS Zc1 Zdw ZcG ZbL ZbK Zfg Zdd Zed ZhU ZdN ZeC ZeL ZfL ZeK ZfJ Zew Zd9 Zef Zeb ZdA ZdQ Zdu ZcZ Zdi ZdT ZeA ZeB Zc0 Zdj ZdU Zec ZdR ZdB Zdv Zeg Zee Zde Zei Zeh ZcH ZeE ZeD ZdO Zfb Zfd Zet Zes Zeu Zfe Zfc Zlm ZlN ZlG Zka ZlK Zc5 ZcF ZdV ZiM Zp:Addr}{Zln Zf1 Zey ZeQ ZdY Zi7 Zht Zhr Zi8 Zja Zig Zi9 Zkc Zf5 ZgI Zjb Zhu Zf7 ZgJ ZfX Ze2 ZfW Zfn Zfm Zhl Zhm Ze3 Zeq Zhk Ze1 ZeP Zgy ZeM Zfj Zgz ZfR ZfQ Zgx Zfr Zhb ZfY ZgC ZfS ZeX Zfo ZgF Ze0 ZfV ZeN ZdX ZdW Zhs Zfk Zhe Zkb ZgA Zic ZgL Zih ZgK Zif Zf6 Zfs Zhg Zhc ZfZ ZgD ZfT ZeY Zfp ZgG Zia Zib ZeZ Zfq ZgH Zhd ZgE Zf0 ZfU Zhh Zhf Zfl Zhj Zhi ZeO Zie Zid ZgB Zhn Zhp Zf3 Zf2 Zf4 Zhq Zho ZlI:FuncData}{Zi5 ZlP Zkz Zlb Zi6 ZkA ZlD Zlc ZlC Zk8 ZkB ZjO ZjQ ZkD Zlt Zk7 Zlu Zla ZkE ZjP Zk9 ZkC:Tok}(Zb4:mg "MOST_ALIKE"=some (.int 5 ZkA))(Zax:mg "NoBits"=some (.ref ZlG))(Zdm:mg "HIGHEST_BYTE"=some (.int 255 Zi5))(ZI:mg "NoKey"=some (.ref ZlK))(ZjS:mg "KEY"=some (.int 64647 ZlP))(Zbu:mg "CHECK_BITS"=some (.int 15 Zkz))(Zdn:mg "HIGHEST_NAME"=some (.int 255 Zi6))(ZdJ:mg "Streak"=some (.ref CA.streak))(Zd2:mg "MOST_BYTES"=some (.int 7 ZkB))(Zs:mg "NoFrame"=some (.ref Zc5))(Zem:mg "NAME_BITS"=some (.int 8 Zlb))(Zen:mg "SIZE_BITS"=some (.int 3 Zlc))(ZaO:mg "BYTE_BITS"=some (.int 8 Zk8))(Zc6:mg "SIZE_AT"=some (.int 9 ZlD))(Zbv:mg "DATA_AT"=some (.int 12 ZlC))(Zcp:mg "ANSWER_AT"=some (.int 1 Zk7))(ZcM:mg "VOTES_AT"=some (.int 9 Zlu))(Zc7:mg "Tail"=some (.ref ZdV))(Zd4:mg "QUIET_FROM"=some (.int 12 ZkD))(ZeF:mg "OFF_FROM"=some (.int 18 Zlt))(ZbJ:mg "GREAT_FAULT"=some (.int 8 ZjO))(ZdF:mg "SMALL_FAULT"=some (.int 1 ZjQ))(ZfM:mg "Reader"=some (.ref CA.reader))(ZjT:mg "Off"=some (.ref CA.off))(ZcL:mg "Flagging"=some (.ref CA.flag))(Zel:mg "FLAG_BITS"=some (.int 6 Zla))(ZbX:mg "Settles"=some (.ref CA.settles))(ZcX:mg "VOTES"=some (.ref ZiM))(Zab:mg "NoPost"=some (.ref ZcF))(Zg2:mg "Count"=some (.ref CA.count))(Zdq:mg "Free"=some (.ref CA.free))(ZdE:mg "QUIET_TURNS"=some (.int 8 ZjP))(ZcA:mg "Rests"=some (.ref CA.rests))(Zbw:mg "REST_TURNS"=some (.int 3 ZkE))(ZdI:mg "Speaks"=some (.ref CA.speaks))(ZcW:mg "Reads"=some (.ref CA.reads))(ZdH:mg "InTail"=some (.ref CA.intail))(ZeG:mg "ReadTail"=some (.ref CA.rtail))(Zek:mg "DUEL_BITS"=some (.int 9 Zk9))(Zeo:mg "SpeakTail"=some (.ref CA.stail))(ZaX:mg "Rail"=some (.ref Zp))(Zd3:mg "MOST_POSTS"=some (.int 5 ZkC))(Zii:mg "Post"=some (.ref CA.post))(ZeR:mg "NoName"=some (.ref Zka))(ZJ:mg "range"=none)(ZjU:mg "all"=none)(ZaP:mg "list"=none)(Zo:mg "len"=none)(ZfN:mg "max"=none)(ZfO:mg "min"=none)(Zep:mg "enumerate"=none)(ZfP:mg "sum"=none)(Zb5:mg "isinstance"=none)(Zij:mg "bool"=none)(Zg3:mg "tuple"=none)(Zdl:a2Y K ZiM [1,3,5])(Zg:TCl K CA.rtail)(Zf:TCl K CA.stail)(Zh:Cls K CA.streak)(Zbj:Mk K CA.streak ZdC)(Ze:Cls K CA.reader)(Zae:b6S K ZdV "__init__" Zej)
variable (Zd:Cls K CA.count)(Zdk:Mk K CA.reader Zdy)(ZK:Cls K CA.free)(Zi:Cls K CA.speaks)(ZB:Cls K CA.reads)(Zn:Cls K CA.intail)(Zq:Cls K CA.flag)(ZP:Cls K CA.settles)(ZU:Cls K CA.rests)(Zb:Cls K CA.post)(ZaR:Mk K CA.flag ZcY)(Zam:Mk K CA.settles Zdh)(ZdD:Mk K CA.count ZdL)(ZaL:Mk K CA.free Zea)(Zar:Mk K CA.rests ZdS)(Zbi:Mk K CA.speaks Zdz)(ZaC:Mk K CA.reads ZdP)(Zbh:Mk K CA.intail Zdt)(ZcK:Mk K CA.rtail Zc2)(Zcs:Mk K CA.stail ZcI)(Zb3:Cls K CA.off)(Zc:Cls K Zp)(ZdZ:Mk K CA.post Zef)(Zd0:Mk K Zp Zei)(ZO:Meth K CA.streak "lengthen" Zcr)(Zz:Meth K CA.streak "is_full" ZcJ)(ZaI:Meth K CA.streak "is_too_long" ZbM)(Zbc:Meth K CA.reader "judged" Zc3)(ZaY:Meth K CA.rtail "is_fault" Zck)(ZaQ:Meth K CA.stail "is_fault" Zck)(ZaJ:Meth K CA.rtail "judged_vote" Zbt)(Zav:Meth K CA.stail "judged_vote" Zbt)(Zaa:Meth K CA.count "is_off" Zdc)(ZR:Meth K CA.count "move" ZdM)(ZM:Meth K CA.reader "hear" Zdx)(Za2:Meth K CA.count "is_quiet" ZcE)(ZbG:Meth K CA.post "is_off" Zdw)(Zd1:MkB K CA.off)(Zaf:Meth K CA.count "fault" Zds)(ZbD:Meth K CA.count "blame" Zdr)(Za3:Meth K CA.post "has_frame" ZcG)(Zbb:Meth K CA.post "is_quiet" Zc1)(ZaW:Meth K CA.rtail "says" Zdp)(ZaN:Meth K CA.stail "says" Zdp)(Zat:Meth K CA.free "says" Zeb)(ZaH:Meth K CA.post "foremost_wire" ZbL)(Zbm:Meth K CA.reader "frame" Zdf)(Zbn:Meth K CA.reader "plain" Zdg)(ZbN:Meth K CA.count "good" ZdK)(ZaG:Meth K CA.post "drop_foremost" ZbK)(Zbl:Meth K CA.post "hand_up" Zdd)(ZaV:Meth K CA.rtail "hear" Zdo)(ZaM:Meth K CA.stail "hear" Zdo)(ZbH:Meth K CA.speaks "says" ZdA)(ZbP:Meth K CA.reads "says" ZdQ)(ZbE:Meth K CA.intail "says" Zdu)(Za9:Meth K CA.flag "says" ZcZ)(Zbo:Meth K CA.settles "says" Zdi)(ZbR:Meth K CA.rests "says" ZdT)(Zcl:Meth K CA.off "says" ZeA)(Zb6:Meth K CA.free "step" Zec)(ZbI:Meth K CA.speaks "step" ZdB)(ZbQ:Meth K CA.reads "step" ZdR)(ZbF:Meth K CA.intail "step" Zdv)(Zba:Meth K CA.flag "step" Zc0)(Zbp:Meth K CA.settles "step" Zdj)(ZbS:Meth K CA.rests "step" ZdU)(Zcm:Meth K CA.off "step" ZeB)(ZF:Meth K Zp "post_at" Zde)(Zb7:Meth K CA.post "hand" Zed)(Zb9:Meth K CA.post "says" Zeg)(Zb8:Meth K CA.post "hear" Zee)(Za4:Meth K Zp "make_turn" ZcH)(Zcn:Meth K CA.post "got" ZeC)(ZbO:Meth K CA.post "waits" ZdN)(Zco:Meth K Zp "got" ZeD)(Zao:Meth K Zp "waits" ZdO)(Zca:Meth K Zp "hand" Zeh)(ZaU:Meth K Zp "run" ZeE)(ZeH:Bm K mg 4)(Zad:bM K CA.streak "last")(Zr:bM K CA.streak "alike")(Zw:bM K CA.reader "streak")(Zm:bM K CA.reader "kept")(ZD:bM K CA.reader "answer")(Zt:bM K CA.count "total")(ZZ:bM K CA.free "since")(ZE:bM K CA.speaks "wire")(ZN:bM K CA.speaks "reader")(Zy:bM K CA.speaks "many")(ZX:bM K CA.reads "reader")(Zaw:bM K CA.reads "many")(Zx:bM K CA.intail "tail")(Zap:bM K CA.intail "found")(Z5:bM K CA.flag "left")(ZL:bM K CA.flag "may_blame")(ZY:bM K CA.settles "may_blame")(Zan:bM K CA.rests "left")(Zk:bM K CA.post "tally")(Zj:bM K CA.post "waiting")(Zau:bM K CA.post "choice")(ZG:bM K CA.post "handed_up")(Z0:bM K CA.post "votes")(Z3:bM K CA.post "now")(ZC:bM K Zp "posts")(Zac:bM K Zp "owners")(Z9:bM K Zp "borne")
variable (Zaq:bM K Zp "sayings")(Zah:bM K Zp "hearings")(Zag:bM K Zp "happened")(ZdG:W.codeHdIn K 1084 1080=true)(hc_ear:Zln.code= .ref 1084)
set_option maxHeartbeats 4000000
variable (Zcq:FB P w K mg base (CX0) 1 "ear" Zll Zln ["wrong"] (b3C))
include ZeH ZdG hc_ear in
theorem ZlL (J:GFm K mg "ear" Zg4 Zll Zln):type_of% Zcq:=by
 refine fbM ["wrong","kept","pair","heard"] J λj=>J.F.okM (y:="kept") hc_ear ZdG j rfl (λW H Q E h=>?_) λA t s H W Q E X h=>?_
 ·obtain⟨a,L,u,rfl,_⟩:=h
  rfl
 obtain⟨a,L,u,rfl,M,N,Y,O,q⟩:=h
 have w:=j.nd
 refine⟨_,(a3V (bA (i:=1) w rfl (Or.inr rfl) a9M) (a3V (gF YY rfl (dN (dv 0)) (eN (i:=2) w rfl (Or.inl rfl)) (aF (a3U (a4L X) (dv 1) (dv 2) jV rfl))) (c1O (iy:=1) (im:=3) (c0:=1084) (P:=1080) (bm:=4) (iq:=iqH) rfl ZdG ZeH (λc B=>clH B) w rfl rfl rfl rfl (by decide) rfl rfl rfl rfl rfl rfl))),?_⟩
 intro p C
 generalize eU:upd H p _=H0
 have R:=nS C eU
 have Z:=nE eU
 clear eU
 have D:=N.len
 refine⟨⟨_,Vb (R _ _ M)⟩,jD (xs:=L.map V.ref) (λi m r=>∃x:Option V,m= [some (.ref a),some (.ref p),x,none]/\Same H r/\r p=some (.dT (kvP (u.take i)))) ⟨_,rfl,R,Z⟩ (λi m r _ z=>by obtain⟨_,_,g,_⟩:=z;exact Vb (g _ _ M)) ?_ ?_⟩
 ·rintro i v m r S ⟨x,rfl,g,ep⟩
  rw[Yl]at S
  obtain⟨qq,hq,rfl⟩:=YH.mp S
  obtain⟨pp,G,eq⟩:=(N.same g).get hq
  obtain⟨hi,d⟩:=Ye.mp G
  have hl:=b4S (u.take i)
  rw[Yj]at hl
  refine⟨p,_,rfl,.inr ⟨_,kyP pp,qq,ep,rfl,eq,bT (by lia),rfl⟩,_,rfl,g.put C,?_⟩
  rw[aB,Yg hi,d,b0O]
 rintro m H1 ⟨x,rfl,f,d⟩
 rw[Ya,D,Yi (Yd _)]at d
 have k:=pY.same O f
 refine⟨.ref p,rfl,k,λg c c' H3 hg B T l I h1 h2 h3=>q g c c' p H3 (f.none hg) (f.none B) C (T.2.1.imp f.none λ⟨a0,a1,a2,a3⟩=>?_) (λb o n e=>l b o n (f _ _ e)) I T.2.2 h3 h1 h2 (l p _ (λz=>?_) d)⟩
 ·obtain⟨a4,t1,_⟩:=k
  rw[z,t1]at d
  cases d
 ·obtain⟨a5,U,_⟩:=O
  have:=a1.symm.trans (f _ _ U)
  cases this
  exact⟨_,U,a2,a3⟩
variable (ZaB:MB P w K mg base (CX0) 1 ZdC Zf1 ["self"] (a8E CA.streak))
include Zh Zad Zr in
theorem ZiY (c:Fun K "__init__" "Streak.__init__" Zgj ZdC Zf1):type_of% ZaB:=by
 refine mbK ["self"] c λH Q e f h=>?_
 obtain⟨a,b,rfl,d,q⟩:=h
 refine⟨_,(aD (bU Zh Zad (dv 0) wQ) (aF (bU Zh Zr (dv 0) aG))),?_⟩
 refine⟨b, [],d,by decide,?_⟩
 refine⟨b,_,aB,by decide,?_⟩
 exact q _ (by rw[lO];rfl)
variable (ZQ:MB P w K mg base (CX0) 1 Zcr Zey ["self","bit"] (b2W CA.streak))
include Zh Zad Zr in
theorem ZgM (F0:Fun K "lengthen" "Streak.lengthen" Zez Zcr Zey):type_of% ZQ:=by
 refine mbK ["self","bit"] F0 λH Q k m h=>?_
 obtain⟨a,s,b,rfl,⟨d,f⟩,q⟩:=h
 refine⟨_,(aD (bU Zh Zr (dv 0) (cR (fJ (aY fG (dv 1) (aP Zh Zad (dv 0)) (aV _)) (aR cC (aP Zh Zr (dv 0)) aG) aG))) (aF (bU Zh Zad (dv 0) (dv 1)))),?_⟩
 refine⟨λx i=>x= .int (((skp s b).2:Nat):Int)/\i=H,?_,?_⟩
 ·obtain⟨l,n⟩:=s
  cases l with
  |none=>exact⟨d,_,.non,f,rfl,rfl,rfl⟩
  | some c=>
   refine⟨d,_,.int c,f,rfl,?_⟩
   conv=>whnf
   refine bQ (λz=>?_) (λz=>?_)
   ·have e:b=c:=dec_true z
    subst e
    refine⟨d,_,.int n,f,rfl,?_,rfl⟩
    have g:(skp (some b,n) b).2=n+1:=if_pos rfl
    rw[g];rfl
   ·have e:¬ b=c:=dec_false z
    refine⟨?_,rfl⟩
    have g:(skp (some c,n) b).2=1:=if_neg λy=>e (Yp y).symm
    rw[g];rfl
 rintro x i ⟨rfl,rfl⟩
 refine⟨d,_,f,(show 2<1000 by decide),?_⟩
 refine⟨d,_,aB,(show 2<1000 by decide),?_⟩
 refine q _ ⟨d,?_⟩ λx j=>by rw[aH j,aH j]
 rw[aB]
 rfl
variable (ZH:MB P w K mg base (CX0) 1 ZcJ ZeQ ["self"] (a8F CA.streak))
include Zb4 Zh Zr in
theorem Zha (b:Fun K "is_full" "Streak.is_full" ZeW ZcJ ZeQ):type_of% ZH:=by
 refine mbK ["self"] b λH Q e f h=>?_
 obtain⟨a,s,rfl,⟨c,d⟩,q⟩:=h
 refine⟨_,(aF (aM (gB fG (aP Zh Zr (dv 0)) (bD (v:= .int 5) rfl Zb4 ⟨_,rfl⟩) (aV _)))),?_⟩
 refine⟨c,_,.int s.2,d,rfl,?_⟩
 conv=>whnf
 rw[a6Z]
 exact q
variable (ZaF:MB P w K mg base (CX0) 1 ZbM ZdY ["self"] (a8D CA.streak))
include Zb4 Zh Zr in
theorem Zfv (b:Fun K "is_too_long" "Streak.is_too_long" Zd7 ZbM ZdY):type_of% ZaF:=by
 refine mbK ["self"] b λH Q e f h=>?_
 obtain⟨a,s,rfl,⟨c,d⟩,q⟩:=h
 refine⟨_,(aF (aM (gB tX (aP Zh Zr (dv 0)) (bD (v:= .int 5) rfl Zb4 ⟨_,rfl⟩) (aV _)))),?_⟩
 refine⟨c,_,.int s.2,d,rfl,?_⟩
 show Q (.bl (decide ((5:Int)<((s.2:Nat):Int)))) H
 rw[b5F]
 exact q
variable (ZV:FB P w K mg base (CX0) 1 "bits_of" Zgs Zi7 ["number","many"] (a8V))
include Zax ZJ in
theorem Zlo (f:GFm K mg "bits_of" Zjc Zgs Zi7):type_of% ZV:=by
 refine fbK ["number","many"] f λH Q r s h=>?_
 obtain⟨n,m,rfl,g,t,q⟩:=h
 refine⟨_,(aD (bK (PW.pt (uU (aY yE (dv 0) aG (aV _)) (wM (aY a1B (aR a3C (dv 0) (dv 1)) aG (aV _))))) (aF fZ) aU) (aF (aM (gA rfl (ix:=[0,1]) (dH rfl ZJ (aA (dv 1) aC)) (λC j k l at0=>eG) (λC j k l at0=>(aR uH (aR a3C (dv 1) (aR lB (aR lB (dv 2) aG) (dv 0))) aG)) rfl rfl (by rfl) (show ([".0","place","number","many"]:List Str).Nodup by decide +kernel))))),?_⟩
 refine⟨by lia,?_⟩
 conv=>whnf
 refine c2M (a6Y g) ?_
 have d:((m:Nat):Int).toNat=m:=YR m
 refine⟨⟨by lia,by lia⟩,fM (λi a b=>a=((bO n m).take i).map V.int/\b=H) ?_ ⟨rfl,rfl⟩ ?_ ?_⟩
 ·rintro i a b c ⟨rfl,_⟩
  refine bT ?_
  rw[Ya,Yj,cF]
  lia
 ·rintro i a b c ⟨rfl,rfl⟩
  rw[d]at c
  refine⟨(by show (0:Int)<=(m:Int)-1-(0+(i:Int));lia),?_,rfl⟩
  have e:(m:Int)-1-(0+(i:Int))=((m-1-i:Nat):Int):=by lia
  show _++[V.int (Builtin.bitAnd ((n:Int) / 2 ^ ((m:Int)-1-(0+(i:Int))).toNat) 1)]=_
  rw[e,b6P,a5J c,Yn]
  rfl
 ·rintro a b ⟨rfl,rfl⟩ p o
  rw[d,Yi (by rw[cF];exact Yd _)]
  exact q p o
variable (Zu:FB P w K mg base (CX0) 1 "number_of" Zfh Zht ["bits"] (a1T K))
def Zkv (k:GFm K mg "number_of" ZhN Zfh Zht):type_of% Zu:=by
 refine fbK ["bits","number","bit"] k λH Q e p h=>?_
 obtain⟨a,bs,rfl,g,j,r,q⟩:=h
 refine⟨_,(aD (bA (i:=1) e rfl (Or.inl rfl) aG) (aD (gF YY rfl (dN (dv 0)) (eN (i:=2) e rfl (Or.inl rfl)) (aF (bA (i:=1) e rfl (Or.inl rfl) (aR cC (aR jQ (dv 1) aG) (dv 2))))) (aF (aM (dv 1))))),?_⟩
 refine⟨⟨_,g⟩,jD (xs:=bs.map V.int) (λi c d=>(∃x,c= [some (.ref a),some (.int (lU (bs.take i))),x])/\d=H) ⟨⟨_,rfl⟩,rfl⟩ (λi c d _ z=>by rw[z.2];exact g) ?_ ?_⟩
 ·rintro i x c d l ⟨⟨y,rfl⟩,rfl⟩
  obtain⟨m,rfl⟩:=oX l
  have f:bF (bs.take i):=λb h=>j b (Y1 h)
  have o:=wW f
  have s:(2:Int) ^ (bs.take i).length<=2 ^ 450:=a1M (by rw[Yj];lia)
  refine⟨⟨tR (n:=450) (a6D o.1 (by lia)),jE (by decide) (by decide)⟩,⟨some (.int bs[i]),?_⟩,rfl⟩
  rw[Yg m,pQ]
  rfl
 ·rintro c d ⟨⟨y,rfl⟩,rfl⟩
  rw[Ya,Yi (Yd _),b4M j]
  exact q
variable (Zak:FB P w K mg base (CX0) 1 "are_bytes" Zff Zhr ["numbers"] (b3F K))
include Zdm ZjU in
theorem Zkt (j:GFm K mg "are_bytes" ZhL Zff Zhr):type_of% Zak:=by
 refine fbK ["numbers"] j λH Q s t h=>?_
 obtain⟨a,b,rfl,k,u,q⟩:=h
 refine⟨_,(aF (aM (aX (c0X rfl) rfl ZjU c0I (aA (gA rfl (ix:=[]) (b9G (dv 0)) (λC l m n at0=>eG) (λC l m n at0=>(a0B a1D a1D aG (dv 0) (bD (v:= .int 255) rfl Zdm ⟨_,rfl⟩))) rfl rfl (by rfl) (show ([".0","number"]:List Str).Nodup by decide +kernel)) aC)))),?_⟩
 refine b1R k (λi d=>d=((b.take i).map byt).map V.bl) ?_ rfl ?_ ?_
 ·rintro i d f rfl
  refine bT ?_
  rw[Ya,Ya,Yj]
  lia
 ·rintro i x d o rfl
  obtain⟨f,rfl⟩:=oX o
  conv=>whnf
  refine bQ (λc=>⟨?_,rfl⟩) (λc=>⟨?_,rfl⟩)
  ·have g:(0:Int)<=b[i]:=dec_true c
   rw[Yg f,Yn,Yn]
   show _++[V.bl (decide (b[i]<=255))]=_++[V.bl (byt b[i])]
   unfold byt
   rw[Yq g,Bool.true_and]
  ·have g:¬ (0:Int)<=b[i]:=dec_false c
   rw[Yg f,Yn,Yn]
   show _++[V.bl false]=_++[V.bl (byt b[i])]
   unfold byt
   rw[Yu g,Bool.false_and]
 rintro d rfl p r
 rw[Ya,Yi (Yd _)]
 refine⟨b.map byt,Vb aB,?_⟩
 have e:(b.map byt).all id=b.all byt:=by rw[List.all_map];rfl
 rw[e]
 exact q _ (aK r _)
variable (ZcB:FB P w K mg base (CX0) 1 "divided" Zgt Zi8 ["number","key"] (a5T))
include ZI in
theorem Zlp (u:GFm K mg "divided" Zjd Zgt Zi8):type_of% ZcB:=by
 refine fbK ["number","key","whole","rest","power"] u λH Q b f h=>?_
 obtain⟨a,rfl,v,q⟩:=h
 refine⟨_,(aD (bK (aY fG (dv 1) aG (aV _)) (aF fZ) aU) (aD (bA (i:=2) b rfl (Or.inl rfl) aG) (aD (bA (i:=3) b rfl (Or.inl rfl) (dv 0)) (aD (zJ YY (aY a7J (a4D (dv 3)) (a4D (dv 1)) (aV _)) (aD (bA (i:=4) b rfl (Or.inl rfl) (aR lB (a4D (dv 3)) (a4D (dv 1)))) (aD (bA (i:=2) b rfl (Or.inl rfl) (aR a3Y (dv 2) (aR a3Z aG (dv 4)))) (aF (bA (i:=3) b rfl (Or.inl rfl) (aR a3Y (dv 3) (aR a3Z (dv 1) (dv 4)))))))) (aF (aM (cH (aA (dv 2) (aA (dv 3) aC))))))))),?_⟩
 refine⟨λmm m g=>∃(w r:Nat)(p:Option V),mm=bl r/\m= [some (.int a),some (.int 64647),some (.int w),some (.int r),p]/\g=H/\r<2 ^ 450/\R r=R a,⟨_,0,a,_,rfl,rfl,rfl,v,rfl⟩,?_⟩
 rintro mm m g ⟨w,r,p,rfl,rfl,rfl,f,e⟩
 conv=>whnf
 refine bQ (λc=>?_) (λc=>?_)
 ·have o:16<=bl r:=by
   have:((Builtin.Int.intBits (64647:Int):Nat):Int)<=((Builtin.Int.intBits (r:Int):Nat):Int):=dec_true c
   have k:=a2X
   show 16<=Builtin.Int.intBits (r:Int)
   have l:Builtin.Int.intBits (64647:Int)=16:=k
   lia
  obtain⟨x,y,z⟩:=b0S f o
  have E:=b1Y f
  refine⟨λd s=>∃(w:Nat)(p:Option V),d= [some (.int a),some (.int 64647),some (.int w),some (.int ((r ^^^ 64647 <<< (bl r-16):Nat):Int)),p]/\s=g,?_,?_⟩
  ·rintro d s ⟨A,B,rfl,rfl⟩
   exact⟨bl (r ^^^ 64647 <<< (bl r-16)),z,A,_,B,rfl,rfl,rfl,x,y.trans e⟩
  have t:((Builtin.Int.intBits (r:Int):Nat):Int)-((Builtin.Int.intBits (64647:Int):Nat):Int)=((bl r-16:Nat):Int):=by
   have l:Builtin.Int.intBits (64647:Int)=16:=a2X
   rw[l]
   show ((bl r:Nat):Int)-_=_
   lia
  refine⟨1,(bl r-16),rfl,YU V.int t,⟨b0M (n:=1) (by decide),by lia⟩,w,_,rfl,rfl,trivial,?_⟩
  refine⟨64647,(bl r-16),rfl,YU V.int t,⟨b0M (n:=16) (by decide),by lia⟩,r,_,rfl,rfl,trivial,?_⟩
  exact⟨_,_,rfl,rfl⟩
 ·have o:bl r<16:=by
   have:¬ ((Builtin.Int.intBits (64647:Int):Nat):Int)<=((Builtin.Int.intBits (r:Int):Nat):Int):=dec_false c
   have l:Builtin.Int.intBits (64647:Int)=16:=a2X
   show Builtin.Int.intBits (r:Int)<16
   lia
  have C:r<32768:=Yh (b6L r) (Yz (n:=2) (j:=15) (by decide) (by lia))
  rw[rD C]at e
  rw[e]
  exact⟨aO rfl,λp D=>q w p D⟩
variable (Z4:FB P w K mg base (CX0) 2 "rest_of" Zgv Zja ["bits"] (b7P K))
include ZI ZjS Zu ZcB in
theorem Zlr (e:GFm K mg "rest_of" Zjf Zgv Zja):type_of% Z4:=by
 refine fbK ["bits"] e λH Q i b h=>?_
 obtain⟨a,bs,rfl,f,c,d,q⟩:=h
 refine⟨_,(aF (aM (bL iI (aN ZcB.1 b.mo rfl ZcB.2.2.2 ZcB.2.2.1 ZcB.2.1 .nil aJ (aA (aN Zu.1 b.mo rfl Zu.2.2.2 Zu.2.2.1 Zu.2.1 .nil aJ (aA (dv 0) aC)) (aA (bD (v:= .int 64647) rfl ZjS ⟨_,rfl⟩) aC))) aG (λ_ _=>rfl)))),?_⟩
 refine⟨a,bs,rfl,f,c,d,?_⟩
 refine⟨nm bs,rfl,Yh (nJ c) (Yz (by decide) d),λw p g=>?_⟩
 exact⟨_,_,Vc aB,rfl,q _ (aK g _)⟩
variable (Zcj:FB P w K mg base (CX0) 3 "check_of" ZfK Zig ["bits"] (b3E K))
include Zax ZI Zbu ZaP ZV Z4 in
theorem Zk5 (t:GFm K mg "check_of" ZiA ZfK Zig):type_of% Zcj:=by
 refine fbK ["bits"] t λH Q C f h=>?_
 obtain⟨a,bs,rfl,u,w,D,q⟩:=h
 refine⟨_,(aF (aM (aN ZV.1 f.mo rfl ZV.2.2.2 ZV.2.2.1 ZV.2.1 .nil aJ (aA (aN Z4.1 f.mo rfl Z4.2.2.2 Z4.2.2.1 Z4.2.1 .nil aJ (aA (aR a3E (jP lC rfl ZaP kO (aA (dv 0) aC)) (aR c0U (fW (aA aG aC)) (bD (v:= .int 15) rfl Zbu ⟨_,rfl⟩))) aC)) (aA (bD (v:= .int 15) rfl Zbu ⟨_,rfl⟩) aC))))),?_⟩
 refine⟨_,.inl u,λl b=>?_⟩
 have g:=aK b (.lst (bs.map V.int))
 have i:=aB (H:=H) (a:=l) (o:= .lst (bs.map V.int))
 generalize upd H l (.lst (bs.map V.int))=H1 at g i
 refine⟨aO rfl,λo x=>?_⟩
 have d:=aK x (.lst [.int 0])
 have j:=aB (H:=H1) (a:=o) (o:= .lst [.int 0])
 generalize upd H1 o (.lst [.int 0])=H2 at d j
 refine⟨_,j,⟨by decide,by decide⟩,(by show 1*15<=sizeLine;exact small (by decide)),λz y=>?_⟩
 have e:=aK y (.lst (List.replicate (15:Int).toNat [V.int 0]).flatten)
 have k:upd H2 z (.lst (List.replicate (15:Int).toNat [V.int 0]).flatten) z=some (.lst ((zs 15).map V.int)):=by rw[aB];rfl
 generalize upd H2 z (.lst (List.replicate (15:Int).toNat [V.int 0]).flatten)=H3 at e k
 refine⟨_,_,e _ _ (d _ _ i),k,(by rw[Ya];exact small (by show bs.length+15<=1000;lia)),λc A=>?_⟩
 have m:=aK A (.lst (bs.map V.int++(zs 15).map V.int))
 have n:upd H3 c (.lst (bs.map V.int++(zs 15).map V.int)) c=some (.lst ((bs++zs 15).map V.int)):=by rw[aB,Yn]
 generalize upd H3 c (.lst (bs.map V.int++(zs 15).map V.int))=H4 at m n
 refine⟨c,bs++zs 15,rfl,Vb n,iG w (vY 15),(by rw[Yc];show bs.length+15<=450;lia),λE B=>?_⟩
 refine⟨ckn bs,15,rfl,b1S bs,by decide,λp r=>?_⟩
 have s:=g.trans (d.trans (e.trans (m.trans B)))
 exact q p _ (s.none r) (s.trans (aK r _)) aB
variable (ZcC:FB P w K mg base (CX0) 1 "is_name" Zgu Zi9 ["number"] (c1K))
include Zdn in
theorem Zlq (b:GFm K mg "is_name" Zje Zgu Zi9):type_of% ZcC:=by
 refine fbK ["number"] b λH Q d f h=>?_
 obtain⟨n,rfl,q⟩:=h
 refine⟨_,(aF (aM (a0B a1D a1D aG (dv 0) (bD (v:= .int 255) rfl Zdn ⟨_,rfl⟩)))),?_⟩
 conv=>whnf
 refine bQ (λc=>?_) (λc=>?_)
 ·have a:(0:Int)<=n:=dec_true c
  show Q (.bl (decide (n<=255))) H
  have e:decide (n<=255)=byt n:=by unfold byt;rw[Yq a,Bool.true_and]
  rw[e];exact q
 ·have a:¬ (0:Int)<=n:=dec_false c
  show Q (.bl false) H
  have e:false=byt n:=by unfold byt;rw[Yu a,Bool.false_and]
  rw[e];exact q
variable (Zc4:FB P w K mg base (CX0) 3 "put_in" ZhV Zkc ["bits"] (b2X K))
include ZdJ Zh Zbj ZO Zz ZaB ZQ ZH in
theorem ZlB (Z:GFm K mg "put_in" Zky ZhV Zkc):type_of% Zc4:=by
 refine fbK ["bits","wire","streak","bit"] Z λH Q F v h=>?_
 obtain⟨a,bs,rfl,P,hl,q⟩:=h
 refine⟨_,(aD (bA (i:=1) F rfl (Or.inl rfl) (fW aC)) (aD (bA (i:=2) F rfl (Or.inl rfl) (oJ Zbj ZaB.1 v.mo rfl ZdJ ZaB.2 .nil aJ)) (aD (gF YY rfl (dN (dv 0)) (eN (i:=3) F rfl (Or.inl rfl)) (aD (bC (dO (dv 1) (aA (dv 3) aC))) (aD (bC (cD Zh ZO ZQ.1 v.mo ZQ.2 .nil aJ (dv 2) (aA (dv 3) aC))) (aF (bK (cT (cL Zh Zz ZH.1 v.mo ZH.2 .nil aJ (dv 2))) (aD (bC (dO (dv 1) (aA (aR lB aG (dv 3)) aC))) (aF (bC (cD Zh ZO ZQ.1 v.mo ZQ.2 .nil aJ (dv 2) (aA (aR lB aG (dv 3)) aC))))) aU))))) (aF (aM (dv 1)))))),?_⟩
 refine⟨aO rfl,λp A=>?_⟩
 have B:=aK A (.lst [])
 have R:=aB (H:=H) (a:=p) (o:= .lst [])
 generalize upd H p (.lst [])=H1 at B R
 refine λj S n G a0=>⟨j,S,rfl,aB,λT I=>⟨rfl,?_⟩⟩
 have J:Same H1 T:=by rw[I];exact bN n G
 have s2:lL CA.streak T j (sk []):=⟨S,by rw[I];exact aB⟩
 clear I
 have r:=B.none n
 refine⟨⟨_,(B.trans J).seq P⟩,jD (xs:=bs.map V.int) (λi C f=>(∃x,C= [some (.ref a),some (.ref p),some (.ref j),x])/\f p=some (.lst ((put (bs.take i)).map V.int))/\lL CA.streak f j (sk (put (bs.take i)))/\Same H f)
  ⟨⟨_,rfl⟩,J _ _ R,s2,B.trans J⟩ (λi C f _ z=>z.2.2.2.seq P) ?_ ?_⟩
 ·rintro i x C f hx ⟨⟨y,rfl⟩,l,L,M⟩
  obtain⟨hi,rfl⟩:=oX hx
  have pl:=kJ (bs.take i)
  rw[Yj]at pl
  have h4:=oG (bs.take i)
  generalize zH hi=ept
  generalize bs[i]=b at ept
  generalize put (bs.take i)=w at l L pl h4 ept
  refine⟨⟨_,Vb l⟩,_,l,bT (by rw[Ya];lia),?_⟩
  have m:upd f p (.lst (w.map V.int++[.int b])) p=some (.lst ((w++[b]).map V.int)):=by rw[aB,Yn];rfl
  have g:lL CA.streak (upd f p (.lst (w.map V.int++[.int b]))) j (sk w):=L.set l
  have s:Same H (upd f p (.lst (w.map V.int++[.int b]))):=M.put A
  generalize upd f p (.lst (w.map V.int++[.int b]))=H3 at m g s
  obtain⟨d3,k3⟩:=id g
  refine⟨⟨d3,_,k3,rfl⟩,j,sk w,b,rfl,g,λD t U=>?_⟩
  rw[<-iY]at t
  have d:=(U p (g.ne m)).trans m
  have k:Same H D:=λc o e=>(U c (aL e r)).trans (s c o e)
  obtain⟨d4,k5⟩:=id t
  refine⟨⟨d4,_,k5,rfl⟩,j,sk (w++[b]),rfl,t,?_⟩
  conv=>whnf
  refine bQ (λc=>?_) (λc=>?_)
  ·have N:run (w++[b])=5:=dec_true c
   have u:put (bs.take (i+1))=w++[b]++[1-b]:=by rw[ept];unfold pst;rw[if_pos N]
   refine⟨⟨_,Vb d⟩,_,d,bT (by rw[Ya,Yc,Yw];lia),?_⟩
   have O:upd D p (.lst ((w++[b]).map V.int++[.int (1-b)])) p=some (.lst ((w++[b]++[1-b]).map V.int)):=by rw[aB,Yn (l₁:=w++[b])];rfl
   have E:=t.set (ys:=(w++[b]).map V.int++[.int (1-b)]) d
   have W:Same H (upd D p (.lst ((w++[b]).map V.int++[.int (1-b)]))):=k.put A
   generalize upd D p (.lst ((w++[b]).map V.int++[.int (1-b)]))=H5 at O E W
   obtain⟨d6,k6⟩:=id E
   refine⟨⟨d6,_,k6,rfl⟩,j,sk (w++[b]),1-b,rfl,E,λH6 X Y=>?_⟩
   rw[<-iY]at X
   refine⟨⟨_,rfl⟩,?_,?_,λc o e=>(Y c (aL e r)).trans (W c o e)⟩
   ·rw[u];exact(Y p (E.ne O)).trans O
   ·rw[u];exact X
  ·have N:¬ run (w++[b])=5:=dec_false c
   have u:put (bs.take (i+1))=w++[b]:=by rw[ept];unfold pst;rw[if_neg N]
   exact⟨⟨_,rfl⟩,by rw[u];exact d,by rw[u];exact t,k⟩
 rintro C f ⟨⟨y,rfl⟩,l,L,M⟩
 rw[Ya,Yi (Yd _)]at l
 exact q p f A M l
variable (Zv:FB P w K mg base (CX0) 2 "check_frame" Zev Zf5 ["name","data"] (b7V K Zc5))
include Zd2 Zs Zo Zak ZcC in
theorem Zi2 (F0:GFm K mg "check_frame" Zgn Zev Zf5):type_of% Zv:=by
 refine fbK ["name","data"] F0 λH Q p i h=>?_
 obtain⟨n,a,b,rfl,j,l,m,d⟩:=h
 refine⟨_,(aD (bK (gO (cT (aN ZcC.1 i.mo rfl ZcC.2.2.2 ZcC.2.2.1 ZcC.2.1 .nil aJ (aA (dv 0) aC)))) (aF fZ) aU) (aD (bK (aY tX (aX dW rfl Zo cG (aA (dv 1) aC)) (bD (v:= .int 7) rfl Zd2 ⟨_,rfl⟩) (aV _)) (aF fZ) aU) (aF (bK (gO (cT (aN Zak.1 i.mo rfl Zak.2.2.2 Zak.2.2.1 Zak.2.1 .nil aJ (aA (dv 1) aC)))) (aF fZ) aU)))),?_⟩
 refine⟨n,rfl,?_⟩
 conv=>whnf
 refine bQ (λc=>?_) (λc=>?_)
 ·have f:¬ byt n=true:=λz=>by
   have:(!byt n)=true:=c
   rw[z]at this;cases this
  exact(d (b0B (.inl f)) _ (Vd _))
 have f:byt n=true:=by
  cases e:byt n with
  |true=>rfl
  |false=>exact absurd (show (!byt n)=true by rw[e];rfl) c
 refine⟨_,.inl j,?_⟩
 rw[Ya]
 conv=>whnf
 refine bQ (λz=>?_) (λz=>?_)
 ·have o:(7:Int)<((b.length:Nat):Int):=dec_true z
  exact(d (b0B (.inr (.inl (by lia)))) _ (Vd _))
 have o:¬ (7:Int)<((b.length:Nat):Int):=dec_false z
 refine⟨a,b,rfl,.inl j,l,λq k=>?_⟩
 conv=>whnf
 refine bQ (λy=>?_) (λy=>?_)
 ·have g:¬ b.all byt=true:=λz=>by
   have:(!b.all byt)=true:=y
   rw[z]at this;cases this
  exact(d (λh=>g h.2.2) _ k)
 ·have g:b.all byt=true:=by
   cases e:b.all byt with
   |true=>rfl
   |false=>exact absurd (show (!b.all byt)=true by rw[e];rfl) y
  exact m ⟨f,by lia,g⟩ _ k
variable (Zbq:FB P w K mg base (CX0) 5 "frame_bits" ZeI ZgI ["name","data"] (b3A K Zc5))
include Zax ZI Zs Zem Zen ZaO Zo ZV Zcj Zv in
theorem ZjK (F0:GFm K mg "frame_bits" ZgY ZeI ZgI):type_of% Zbq:=by
 refine fbK ["name","data","bits","byte"] F0 λH Q N k h=>?_
 obtain⟨n,a,b,rfl,s,hl,q1,q2⟩:=h
 refine⟨_,(aD (bC (aN Zv.1 k.mo rfl Zv.2.2.2 Zv.2.2.1 Zv.2.1 .nil aJ (aA (dv 0) (aA (dv 1) aC)))) (aD (bA (i:=2) N rfl (Or.inl rfl) (aR a3E (aR a3E (fW (aA aG aC)) (aN ZV.1 k.mo rfl ZV.2.2.2 ZV.2.2.1 ZV.2.1 .nil aJ (aA (dv 0) (aA (bD (v:= .int 8) rfl Zem ⟨_,rfl⟩) aC)))) (aN ZV.1 k.mo rfl ZV.2.2.2 ZV.2.2.1 ZV.2.1 .nil aJ (aA (aX dW rfl Zo cG (aA (dv 1) aC)) (aA (bD (v:= .int 3) rfl Zen ⟨_,rfl⟩) aC))))) (aD (gF YY rfl (dN (dv 1)) (eN (i:=3) N rfl (Or.inl rfl)) (aF (bC (a6H (dv 2) (aA (aN ZV.1 k.mo rfl ZV.2.2.2 ZV.2.2.1 ZV.2.1 .nil aJ (aA (dv 3) (aA (bD (v:= .int 8) rfl ZaO ⟨_,rfl⟩) aC))) aC))))) (aF (aM (aR a3E (dv 2) (aN Zcj.1 k.mo rfl Zcj.2.2.2 Zcj.2.2.1 Zcj.2.1 .nil aJ (aA (dv 2) aC)))))))),?_⟩
 refine⟨n,a,b,rfl,s,hl,λt O g1=>?_,q2⟩
 obtain⟨m,rfl,hm⟩:=xR t.1
 refine⟨aO rfl,λP B=>?_⟩
 have R:=aK B (.lst [.int 0])
 have S:=aB (H:=O) (a:=P) (o:= .lst [.int 0])
 generalize upd O P (.lst [.int 0])=H2 at R S
 refine⟨m,8,rfl,by show m<2 ^ 8;lia,by decide,λT C=>?_⟩
 have D:=aK C (.lst ((bO m 8).map V.int))
 have U:=aB (H:=H2) (a:=T) (o:= .lst ((bO m 8).map V.int))
 generalize upd H2 T (.lst ((bO m 8).map V.int))=H3 at D U
 refine⟨_,_,D _ _ S,U,(by rw[Ya,cF];exact aO rfl),λW E=>?_⟩
 have X:=aK E (.lst ([.int 0]++(bO m 8).map V.int))
 have Y:=aB (H:=H3) (a:=W) (o:= .lst ([.int 0]++(bO m 8).map V.int))
 generalize upd H3 W (.lst ([.int 0]++(bO m 8).map V.int))=H4 at X Y
 have f:=g1.trans (R.trans (D.trans X))
 refine⟨_,.inl (f.seq s),?_⟩
 rw[Ya]
 have h7:=t.2.1
 refine⟨b.length,3,rfl,by show b.length<2 ^ 3;lia,by decide,λZ F=>?_⟩
 have u:=aK F (.lst ((bO b.length 3).map V.int))
 have e5:=aB (H:=H4) (a:=Z) (o:= .lst ((bO b.length 3).map V.int))
 generalize upd H4 Z (.lst ((bO b.length 3).map V.int))=H5 at u e5
 refine⟨_,_,u _ _ Y,e5,(by rw[Yc,Ya,Ya,cF,cF];exact aO rfl),λj l=>?_⟩
 have g6:=aK l (.lst ([.int 0]++(bO m 8).map V.int++(bO b.length 3).map V.int))
 have e6:upd H5 j (.lst ([.int 0]++(bO m 8).map V.int++(bO b.length 3).map V.int)) j=some (.lst ((hdD (m:Int) b.length []).map V.int)):=by
  rw[aB];unfold hdD b8;simp
 generalize upd H5 j (.lst ([.int 0]++(bO m 8).map V.int++(bO b.length 3).map V.int))=H6 at g6 e6
 have p:=f.trans (u.trans g6)
 have G:H j=none:=(f.trans u).none l
 refine⟨⟨_,p.seq s⟩,jD (xs:=b.map V.int) (λi w A=>(∃x,w= [some (.int m),some (.ref a),some (.ref j),x])/\Same H A/\A j=some (.lst ((hdD (m:Int) b.length (b.take i)).map V.int))) ⟨⟨_,rfl⟩,p,e6⟩ (λi w A _ z=>z.2.1.seq s) ?_ ?_⟩
 ·rintro i x w A hx ⟨⟨y,rfl⟩,g,e⟩
  obtain⟨hi,rfl⟩:=oX hx
  obtain⟨d,ed,I⟩:=xR (a0X t.2.2 hi)
  have c:=rA (m:Int) b.length (b.take i)
  rw[Yj]at c
  refine⟨⟨_,e⟩,d,8,by rw[ed];rfl,by show d<2 ^ 8;lia,by decide,λp7 J=>?_⟩
  have q:=aK J (.lst ((bO d 8).map V.int))
  refine⟨_,_,q _ _ e,aB,(by rw[Ya,Ya,cF,c];exact small (by lia)),⟨_,rfl⟩,(g.trans q).put G,?_⟩
  have eb:b8 b[i]=bO d 8:=by rw[ed];rfl
  rw[aB,Yg hi,a0I,eb,Yn]
 rintro w H7 ⟨⟨y,rfl⟩,q,L⟩
 rw[Ya,Yi (Yd _)]at L
 have c:=a2M (m:Int) b
 refine⟨j,hd (m:Int) b,rfl,Vb L,oU _ _,by lia,λp8 H8 a0 M e8=>?_⟩
 refine⟨_,_,M _ _ L,e8,(by rw[Ya,Ya,a2W];show (hd (m:Int) b).length+15<=sizeLine;exact small (by lia)),λp9 r=>?_⟩
 have g9:=aK r (.lst ((hd (m:Int) b).map V.int++(ck (hd (m:Int) b)).map V.int))
 refine q1 t p9 _ ((q.trans M).none r) (q.trans (M.trans g9)) ?_
 rw[aB]
 unfold fb
 rw[Yn]
 rfl
variable (ZcD:FB P w K mg base (CX0) 6 "wire_of" Zgw Zjb ["name","data"] (a7W K Zc5))
include Zax ZI Zs Zc4 Zbq in
theorem Zls (g:GFm K mg "wire_of" Zjg Zgw Zjb):type_of% ZcD:=by
 refine fbK ["name","data"] g λH Q t d h=>?_
 obtain⟨n,a,b,rfl,i,j,k,l⟩:=h
 refine⟨_,(aF (aM (aN Zc4.1 d.mo rfl Zc4.2.2.2 Zc4.2.2.1 Zc4.2.1 .nil aJ (aA (aN Zbq.1 d.mo rfl Zbq.2.2.2 Zbq.2.2.1 Zbq.2.1 .nil aJ (aA (dv 0) (aA (dv 1) aC))) aC)))),?_⟩
 refine⟨n,a,b,rfl,i,j,λe p u v f m=>?_,l⟩
 have:=kY n b
 have:=e.2.1
 exact⟨p,fb n b,rfl,Vb m,by lia,λo q c r s=>k e o q (f.none c) (f.trans r) s⟩
variable (Zal:FB P w K mg base (CX0) 2 "told_size" Zfi Zhu ["bits"] (b7O K))
include Zc6 Zbv Zu in
theorem Zkw (b:GFm K mg "told_size" ZhO Zfi Zhu):type_of% Zal:=by
 refine fbK ["bits"] b λH Q j c h=>?_
 obtain⟨a,bs,rfl,d,e,f,k,q⟩:=h
 refine⟨_,(aF (aM (aN Zu.1 c.mo rfl Zu.2.2.2 Zu.2.2.1 Zu.2.1 .nil aJ (aA (jU uG (dv 0) (iZ (bD (v:= .int 9) rfl Zc6 ⟨_,rfl⟩)) (iZ (bD (v:= .int 12) rfl Zbv ⟨_,rfl⟩))) aC)))),?_⟩
 refine⟨_,d,λp g=>?_⟩
 have i:kZ (bs.map V.int) (some (9:Int)) (some (12:Int))=((bs.drop 9).take 3).map V.int:=a2T rfl rfl (by lia)
 rw[i]
 refine⟨p,_,rfl,Vb aB,mO e 9 3,?_,q _ (aK g _)⟩
 rw[Yj];lia
variable (Z2:FB P w K mg base (CX0) 3 "is_complete" Zex Zf7 ["bits"] (c1J K))
include Zbu ZaO Zbv Zo Zal in
theorem Zi4 (j:GFm K mg "is_complete" Zgp Zex Zf7):type_of% Z2:=by
 refine fbK ["bits"] j λH Q o k h=>?_
 obtain⟨a,bs,rfl,b,d,l,m,f⟩:=h
 refine⟨_,(aF (aM (b0G (gB a7J (aX dW rfl Zo cG (aA (dv 0) aC)) (bD (v:= .int 12) rfl Zbv ⟨_,rfl⟩) (aV _)) (a9I (gB fG (aX dW rfl Zo cG (aA (dv 0) aC)) (aR cC (aR cC (bD (v:= .int 12) rfl Zbv ⟨_,rfl⟩) (aR jQ (bD (v:= .int 8) rfl ZaO ⟨_,rfl⟩) (aN Zal.1 k.mo rfl Zal.2.2.2 Zal.2.2.1 Zal.2.1 .nil aJ (aA (dv 0) aC)))) (bD (v:= .int 15) rfl Zbu ⟨_,rfl⟩)) (aV _)))))),?_⟩
 refine⟨_,.inl b,?_⟩
 rw[Ya]
 conv=>whnf
 refine bQ (λc=>?_) (λc=>?_)
 ·have n:(12:Int)<=((bs.length:Nat):Int):=dec_true c
  refine⟨_,.inl b,?_⟩
  rw[Ya]
  refine⟨a,bs,rfl,b,d,by lia,l,λg i=>?_⟩
  have:=a7V d
  refine⟨⟨by decide,jE (by lia) (by lia)⟩,?_⟩
  by_cases z:lN bs
  ·have e:decide (((bs.length:Nat):Int)=12+8*((szB bs:Nat):Int)+15)=true:=Yq (by have:=z.2;lia)
   show Q (.bl (decide (((bs.length:Nat):Int)=12+8*((szB bs:Nat):Int)+15))) g
   rw[e];exact m z _ i
  ·have e:decide (((bs.length:Nat):Int)=12+8*((szB bs:Nat):Int)+15)=false:=Yu (λy=>z ⟨by lia,by lia⟩)
   show Q (.bl (decide (((bs.length:Nat):Int)=12+8*((szB bs:Nat):Int)+15))) g
   rw[e];exact f z _ i
 ·have n:¬ (12:Int)<=((bs.length:Nat):Int):=dec_false c
  exact f (λz=>by have:=z.1;lia) _ (Vd _)
variable (Zbr:FB P w K mg base (CX0) 4 "read_frame" ZeJ ZgJ ["bits"] (b7Q K Zc5))
include ZI Zs ZaO Zc6 Zbv ZJ Zu Z4 Zal Z2 in
theorem ZjL (F0:GFm K mg "read_frame" ZgZ ZeJ ZgJ):type_of% Zbr:=by
 refine fbK ["bits","starts"] F0 λH Q nd o h=>?_
 obtain⟨a,bs,rfl,m,n,A,q1,B⟩:=h
 refine⟨_,(aD (bK (gO (cT (aN Z2.1 o.mo rfl Z2.2.2.2 Z2.2.2.1 Z2.2.1 .nil aJ (aA (dv 0) aC)))) (aF fZ) aU) (aD (bK (aY a1B (bL dX (dv 0) aG (λ_ _=>rfl)) aG (aV _)) (aF fZ) aU) (aD (bK (aY a1B (aN Z4.1 o.mo rfl Z4.2.2.2 Z4.2.2.1 Z4.2.1 .nil aJ (aA (dv 0) aC)) aG (aV _)) (aF fZ) aU) (aD (gP (j:=1) nd rfl rfl rfl (ix:=[]) (dH rfl ZJ (aA (aN Zal.1 o.mo rfl Zal.2.2.2 Zal.2.2.1 Zal.2.1 .nil aJ (aA (dv 0) aC)) aC)) (λC D E F at0=>eG) (λC D E F at0=>(aR cC (bD (v:= .int 12) rfl Zbv ⟨_,rfl⟩) (aR jQ (bD (v:= .int 8) rfl ZaO ⟨_,rfl⟩) (dv 0)))) rfl rfl (by rfl) (show ([".0","number"]:List Str).Nodup by decide +kernel)) (aF (aM (cH (aA (aN Zu.1 o.mo rfl Zu.2.2.2 Zu.2.2.1 Zu.2.1 .nil aJ (aA (jU uG (dv 0) (iZ aG) (iZ (bD (v:= .int 9) rfl Zc6 ⟨_,rfl⟩))) aC)) (aA (gA rfl (ix:=[0]) (dN (dv 1)) (λC D E F at0=>eG) (λC D E F at0=>(aN Zu.1 o.mo rfl Zu.2.2.2 Zu.2.2.1 Zu.2.1 .nil aJ (aA (jU (a7G (K:=K)) (dv 1) (iZ (dv 0)) (iZ (aR cC (dv 0) (bD (v:= .int 8) rfl ZaO ⟨_,rfl⟩)))) aC))) rfl rfl (by rfl) (show ([".0","start","bits"]:List Str).Nodup by decide +kernel)) aC))))))))),?_⟩
 refine⟨a,bs,rfl,m,n,A,λp H1 e=>?_,λp H1 e=>(B (λz=>p z.1) _ e)⟩
 have G:=p.1
 have e0:atI (bs.map V.int) (0:Int)=some (.int (bs.getD 0 0)):=by rw[<-c4Q (by lia)];exact xV (i:=0) (by lia)
 refine⟨_,_,e.seq m,e0,?_⟩
 conv=>whnf
 refine bQ (λc=>?_) (λc=>?_)
 ·refine(B (λz=>?_) _ e)
  have:(!decide (bs.getD 0 0=0))=true:=c
  rw[Yq z.2.1]at this;cases this
 have c1:bs.getD 0 0=0:=YN λy=>c (by
  show (!decide (bs.getD 0 0=0))=true
  rw[Yu y];rfl)
 refine⟨a,bs,rfl,e.seq m,n,A,λH2 P=>?_⟩
 conv=>whnf
 refine bQ (λz=>?_) (λz=>?_)
 ·refine(B (λy=>?_) _ (e.trans P))
  have:(!decide (((rst bs:Nat):Int)=0))=true:=z
  rw[Yq (by have:=y.2.2;lia)]at this;cases this
 have z1:rst bs=0:=YN λy=>z (by
  show (!decide (((rst bs:Nat):Int)=0))=true
  rw[Yu (by lia)];rfl)
 have ok:a2Z bs:=⟨p,c1,z1⟩
 have q:=e.trans P
 have s8:=a7V n
 refine⟨a,bs,rfl,q.seq m,n,G,A,λH3 g3=>?_⟩
 have I:=q.trans g3
 have R:((szB bs:Nat):Int).toNat=szB bs:=YR _
 refine⟨⟨by lia,by lia⟩,fM (λi b d=>b=((List.range i).map λk=>V.int (12+8*((k:Nat):Int)))/\d=H3) ?_ ⟨rfl,rfl⟩ ?_ ?_⟩
 ·rintro i b d f ⟨rfl,_⟩
  refine bT ?_
  rw[Ya,YZ];lia
 ·rintro i b d f ⟨rfl,rfl⟩
  rw[R]at f
  refine⟨⟨by decide,jE (by lia) (by lia)⟩,?_,rfl⟩
  rw[XT,Yn]
  show _++[V.int (12+8*(0+(i:Int)))]=_++[V.int (12+8*((i:Nat):Int))]
  rw[XE]
 rintro b H4 ⟨rfl,rfl⟩ ps J
 rw[R]
 generalize eU:upd H4 ps _=H5
 have g4:=nS J eU
 have e4:=nE eU
 clear eU
 have r:=I.trans g4
 refine⟨_,r.seq m,λS L=>?_⟩
 have ec:kZ (bs.map V.int) (some (1:Int)) (some (9:Int))=((bs.drop 1).take 8).map V.int:=a2T rfl rfl (by lia)
 rw[ec]
 generalize eU:upd H5 S _=H6
 have T:=nS L eU
 have e6:=nE eU
 clear eU
 refine⟨S,_,rfl,Vb e6,mO n 1 8,(by rw[Yj];lia),?_⟩
 have l:=r.trans T
 have s:=T _ _ e4
 refine⟨⟨_,Vb s⟩,eE (xs:=(List.range (szB bs)).map λk=>V.int (12+8*((k:Nat):Int))) (λi b d=>b=((daB bs).take i).map V.int/\Same H6 d) ?_ ⟨rfl,Vd _⟩ (λi b d _ z=>Vb (z.2 _ _ s)) ?_ ?_⟩
 ·rintro i b d f ⟨rfl,_⟩
  refine bT ?_
  rw[Ya,Yj]
  rw[Ya,YZ]at f
  lia
 ·rintro i x b d M ⟨rfl,g⟩
  have f:i<szB bs:=by
   have:=(Ye.mp M).1
   rwa [Ya,YZ]at this
  have ex:x=V.int (12+8*((i:Nat):Int)):=by
   rw[Yl,X5 f]at M
   exact(Yp M).symm
  subst ex
  have a0:=p.2
  refine⟨_,(l.trans g).seq m,λp7 N=>?_⟩
  have O:kZ (bs.map V.int) (some ((12:Int)+8*((i:Nat):Int))) (some ((12:Int)+8*((i:Nat):Int)+8))=((bs.drop (12+8*i)).take 8).map V.int:=a2T (by lia) (by lia) (by lia)
  rw[O]
  refine⟨p7,_,rfl,Vb aB,mO n _ 8,(by rw[Yj];lia),?_,g.trans (aK N _)⟩
  rw[b1M f,Yn]
  rfl
 rintro b U ⟨rfl,W⟩ u w
 have X:upd U u (.lst (((daB bs).take ((List.range (szB bs)).map λk=>V.int (12+8*((k:Nat):Int))).length).map V.int)) u=some (.lst ((daB bs).map V.int)):=by
  rw[aB,Ya,YZ,Yi (by rw[a4W];exact Yd _)]
 have Y:=aK w (.lst (((daB bs).take ((List.range (szB bs)).map λk=>V.int (12+8*((k:Nat):Int))).length).map V.int))
 generalize upd U u _=H8 at X Y
 refine⟨aO rfl,λt ht=>?_⟩
 have Z:=aK ht (.tup [.int ((nm ((bs.drop 1).take 8):Nat):Int),.ref u])
 exact q1 ok t u _ ((l.trans W).none w) (l.trans (W.trans (Y.trans Z))) (Z _ _ X) aB
variable (Zcf:MB P w K mg base (CX0) 3 Zdy ZfX ["self"] (a8M CA.reader CA.streak))
include ZdJ Zbj Ze Zw Zm ZD ZaB in
theorem ZiU (A:Fun K "__init__" "Reader.__init__" Zgf Zdy ZfX):type_of% Zcf:=by
 refine mbK ["self"] A λH Q D B h=>?_
 obtain⟨a,l,rfl,n,q⟩:=h
 refine⟨_,(aD (bU Ze Zw (dv 0) (oJ Zbj ZaB.1 B.mo rfl ZdJ ZaB.2 .nil aJ)) (aD (bU Ze Zm (dv 0) (fW aC)) (aF (bU Ze ZD (dv 0) bR)))),?_⟩
 refine λj w g p C=>⟨j,w,rfl,aB,λr s=>⟨rfl,?_⟩⟩
 have m:Same H r:=by rw[s];exact bN g p
 have y:lL CA.streak r j (sk []):=⟨w,by rw[s];exact aB⟩
 clear s
 refine⟨l, [],m _ _ n,by decide,?_⟩
 have i:a≠j:=λz=>by rw[z,g]at n;cases n
 refine⟨aO rfl,λk b=>?_⟩
 have f:a≠k:=λz=>by rw[z]at b;rw[aB]at b;cases b
 have c:r k=none:=by rw[aH (Va f)]at b;exact b
 have t:j≠k:=λz=>by
  obtain⟨d,e⟩:=y
  rw[z,c]at e;cases e
 refine⟨l, [("streak",.ref j)],(by rw[aH f,aB];rfl),(show 1<1000 by decide),?_⟩
 refine⟨l,_,aB,(show 2<1000 by decide),?_⟩
 refine q _ j k ⟨⟨l,aB⟩,?_,?_⟩ g (m.none c) ?_
 ·refine y.at_ ?_
  rw[aH (Va i),aH (Va i),aH t,aH (Va i)]
 ·rw[aH (Va f),aH (Va f),aB]
  rfl
 ·intro x o u e
  have v:x≠k:=λz=>by rw[z,m.none c]at e;cases e
  rw[aH u,aH u,aH v,aH u]
  exact m _ _ e
variable (ZbB:MB P w K mg base (CX0) 4 Zc3 Ze2 ["self"] (a1R CA.reader CA.streak))
include ZI Zh Ze Zz ZaI Zw Zm ZH ZaF Z4 Z2 in
theorem Zh1 (v:Fun K "judged" "Reader.judged" Ze9 Zc3 Ze2):type_of% ZbB:=by
 refine mbK ["self"] v λH Q E e h=>?_
 obtain⟨r,f,g,w,t,rfl,i,A,F,q⟩:=h
 refine⟨_,(aD (bK (cT (cL Zh ZaI ZaF.1 e.mo ZaF.2 .nil aJ (aP Ze Zw (dv 0)))) (aF (aM bR)) aU) (aD (bK (PW.pt (uU (cT (cL Zh Zz ZH.1 e.mo ZH.2 .nil aJ (aP Ze Zw (dv 0)))) (wM (gO (cT (aN Z2.1 e.mo rfl Z2.2.2.2 Z2.2.2.1 Z2.2.1 .nil aJ (aA (aP Ze Zm (dv 0)) aC))))))) (aF (aM bR)) aU) (aF (aM (cR (fJ (aY fG (aN Z4.1 e.mo rfl Z4.2.2.2 Z4.2.2.1 Z4.2.1 .nil aJ (aA (aP Ze Zm (dv 0)) aC)) aG (aV _)) bR bR)))))),?_⟩
 obtain⟨j,er⟩:=i.rd
 have l:=i.sk
 obtain⟨o,p⟩:=id l
 refine⟨j,_,.ref f,er,rfl,⟨o,_,p,rfl⟩,f,sk w,rfl,l,?_⟩
 conv=>whnf
 refine bQ (λc=>?_) (λc=>?_)
 ·have a:5<run w:=dec_true c
  have:=q H (Vd _)
  rw[jC a]at this
  exact this
 have a:¬ 5<run w:=dec_false c
 refine⟨j,_,.ref f,er,rfl,⟨o,_,p,rfl⟩,f,sk w,rfl,l,?_⟩
 conv=>whnf
 refine bQ (λz=>?_) (λz=>?_)
 ·have m:run w=5:=dec_true z
  have:=q H (Vd _)
  rw[mQ a (.inl m)]at this
  exact this
 have m:¬ run w=5:=dec_false z
 have s:=xG A
 have G:=kp_len w
 refine⟨j,_,.ref g,er,rfl,g,kp w,rfl,Vb i.kp,s,by lia,λn u b=>?_,λn u b=>?_⟩
 ·have d:¬ (run w=5\/¬ lN (kp w)):=λy=>y.elim m λx=>x n
  refine⟨λx B=>x= .str (ans w)/\Same H B,?_,?_⟩
  ·refine⟨j,_,.ref g,b _ _ er,rfl,g,kp w,rfl,Vb (b _ _ i.kp),s,by lia,λC k=>?_⟩
   conv=>whnf
   refine bQ (λy=>?_) (λy=>?_)
   ·have D:((rst (kp w):Nat):Int)=0:=dec_true y
    rw[pX a d (by lia)]
    exact⟨rfl,b.trans k⟩
   ·have D:¬ ((rst (kp w):Nat):Int)=0:=dec_false y
    rw[xX a d (by lia)]
    exact⟨rfl,b.trans k⟩
  ·rintro x C ⟨rfl,k⟩
   exact q _ k
 ·have:=q u b
  rw[mQ a (.inr n)]at this
  exact this
variable (Z1:MB P w K mg base (CX0) 5 Zdx ZfW ["self","bit"] (a8N CA.reader CA.streak))
include ZI Zh Ze ZO Zz Zbc Zw Zm ZD ZQ ZH ZbB in
theorem ZiT (P:Fun K "hear" "Reader.hear" Zge Zdx ZfW):type_of% Z1:=by
 refine mbK ["self","bit","is_put_in"] P λH Q R B h=>?_
 obtain⟨r,a,f,w,t,b,rfl,l,S,W,q⟩:=h
 refine⟨_,(aD (bA (i:=2) R rfl (Or.inl rfl) (cL Zh Zz ZH.1 B.mo ZH.2 .nil aJ (aP Ze Zw (dv 0)))) (aD (bC (cD Zh ZO ZQ.1 B.mo ZQ.2 .nil aJ (aP Ze Zw (dv 0)) (aA (dv 1) aC))) (aD (jT (bK (gO (cT (dv 2))) (aF (bC (dO (aP Ze Zm (dv 0)) (aA (dv 1) aC)))) aU)) (aD (bU Ze ZD (dv 0) (cL Ze Zbc ZbB.1 B.mo ZbB.2 .nil aJ (dv 0))) (aF (aM (aP Ze ZD (dv 0)))))))),?_⟩
 obtain⟨m,er⟩:=l.rd
 have C:=l.sk
 obtain⟨J,L⟩:=id C
 refine⟨m,_,.ref a,er,rfl,⟨J,_,L,rfl⟩,a,sk w,rfl,C,?_⟩
 refine⟨m,_,.ref a,er,rfl,⟨J,_,L,rfl⟩,a,sk w,b,rfl,C,λX D v=>?_⟩
 rw[<-iY]at D
 have j:=(v r l.ne1).trans er
 have g:=(v f l.ne3).trans l.kp
 have Y:=kp_len w
 refine⟨λn M=>n= [some (.ref r),some (.int b),some (.bl (decide (run w=5)))]/\jN CA.reader CA.streak M r a f (w++[b]) t/\b5T H M r a f,?_,?_⟩
 ·conv =>whnf
  refine bQ (λc=>?_) (λc=>?_)
  ·have E:¬ run w=5:=λy=>by
    have:(!decide (run w=5))=true:=c
    rw[Yq y]at this;cases this
   refine⟨m,_,.ref f,j,rfl,⟨_,Vb g⟩,_,g,bT (by rw[Ya];lia),rfl,⟨⟨m,(by rw[aH l.ne2];exact j)⟩,D.set g,?_⟩,?_⟩
   ·rw[aB,kp_snoc,if_neg E,Yn];rfl
   ·intro x o z p A e
    rw[aH A,v x p]
    exact e
  ·have E:run w=5:=YN λy=>c (by
    show (!decide (run w=5))=true
    rw[Yu y];rfl)
   refine⟨rfl,⟨⟨m,j⟩,D,?_⟩,?_⟩
   ·rw[kp_snoc,if_pos E];exact g
   ·intro x o z p A e
    rw[v x p]
    exact e
 rintro n Z ⟨rfl,k,T⟩
 have s:(w++[b]).length<=450:=by rw[Yc,Yw];lia
 obtain⟨U,F⟩:=k.rd
 refine⟨⟨U,_,F,rfl⟩,r,a,f,w++[b],t,rfl,k,S,s,λN O=>?_⟩
 have d:=k.same O
 obtain⟨u,G⟩:=d.rd
 refine⟨u,_,G,(show 3<1000 by decide),?_⟩
 have I:jN CA.reader CA.streak (upd N r (.ins CA.reader u (rdF a f (ans (w++[b]))))) r a f (w++[b]) (ans (w++[b])):=⟨⟨u,aB⟩,d.sk.at_ (aH (Va d.ne1)),by rw[aH (Va d.ne2)];exact d.kp⟩
 have V:b5T H (upd N r (.ins CA.reader u (rdF a f (ans (w++[b]))))) r a f:=λx o z p A e=>by
  rw[aH z]
  exact O _ _ (T x o z p A e)
 exact⟨u,_,.str (ans (w++[b])),aB,rfl,q _ I V⟩
variable (Zb0:MB P w K mg base (CX0) 1 Zdg Zfn ["self"] (a5R CA.reader CA.streak))
include ZaP Ze Zm in
theorem Zio (c:Fun K "plain" "Reader.plain" ZfA Zdg Zfn):type_of% Zb0:=by
 refine mbK ["self"] c λH Q f g h=>?_
 obtain⟨r,i,d,w,t,rfl,a,q⟩:=h
 refine⟨_,(aF (aM (jP lC rfl ZaP kO (aA (aP Ze Zm (dv 0)) aC)))),?_⟩
 obtain⟨e,er⟩:=a.rd
 exact⟨e,_,.ref d,er,rfl,_,.inl (Vb a.kp),λp b=>q p _ b (aK b _) aB⟩
variable (ZbZ:MB P w K mg base (CX0) 5 Zdf Zfm ["self"] (a5S CA.reader CA.streak))
include ZI Zs Ze Zm ZD Zbr in
theorem Zin (j:Fun K "frame" "Reader.frame" Zfz Zdf Zfm):type_of% ZbZ:=by
 refine mbK ["self"] j λH Q A k h=>?_
 obtain⟨r,B,d,w,rfl,e,l,C,m,n,o⟩:=h
 refine⟨_,(aF (aM (cR (fJ (aY fG (aP Ze ZD (dv 0)) bR (aV _)) (aN Zbr.1 k.mo rfl Zbr.2.2.2 Zbr.2.2.1 Zbr.2.1 .nil aJ (aA (aP Ze Zm (dv 0)) aC)) wQ)))),?_⟩
 obtain⟨f,er⟩:=e.rd
 have q:=xG l
 have D:=kp_len w
 refine⟨λx a=>Q x a,?_,λx a z=>z⟩
 refine⟨f,_,.str (ans w),er,rfl,?_⟩
 conv=>whnf
 refine bQ (λc=>?_) (λc=>?_)
 ·have b:ans w="whole":=Y2 c
  have i:=jM b
  have ok:a2Z (kp w):=⟨i.1,m b,i.2⟩
  refine⟨f,_,.ref d,er,rfl,d,kp w,rfl,Vb e.kp,q,by lia,λ_ t p a s g u v=>n b ok t p a s g u v,λy=>absurd ok y⟩
 ·exact o λz=>c (Yq z)
variable (Za0:MB P w K mg base (CX0) 1 Zej Zhl ["self","votes","spoke"] (a8B K CA.rtail CA.stail))
include Zg Zf in
theorem Zkn (f:Fun K "__init__" "Tail.__init__" ZhF Zej Zhl):type_of% Za0:=by
 refine mbK ["self","votes","spoke"] f λH Q i j h=>?_
 obtain⟨t,C,c,v,s,rfl,g,e,q⟩:=h
 refine⟨_,(aD (mZ (dv 0) (dv 1)) (aD (mZ (dv 0) (dv 2)) (aD (mZ (dv 0) aG) (aF (mZ (dv 0) aG))))),?_⟩
 have b:=lZ Zg Zf g
 refine⟨C,c,_,e,b.cls,b.n1,by decide,?_⟩
 refine⟨C,c,_,aB,b.cls,b.n2,(show 1<1000 by decide),?_⟩
 refine⟨C,c,_,aB,b.cls,b.n3,(show 2<1000 by decide),?_⟩
 refine⟨C,c,_,aB,b.cls,b.n4,(show 3<1000 by decide),?_⟩
 have d:∀(H:Hp)(a:Addr)(x y:HO),upd (upd H a x) a y=upd H a y:=λH a x y=>by
  funext z
  by_cases h:z=a
  ·rw[h,aB,aB]
  ·rw[aH h,aH h,aH h]
 rw[d,d,d]
 exact q
variable (ZcV:MB P w K mg base (CX0) 1 Zdp Zhm ["self"] (a8A CA.rtail CA.stail))
include Zcp Zg Zf in
theorem Zko (g:Fun K "says" "Tail.says" ZhG Zdp Zhm):type_of% ZcV:=by
 refine mbK ["self"] g λH Q j k h=>?_
 obtain⟨t,v,s,o,n,rfl,⟨C,b,i,e⟩,q⟩:=h
 refine⟨_,(aF (aM (cR (fJ (PW.pt (mK (aY fG (gJ (dv 0)) (bD (v:= .int 1) rfl Zcp ⟨_,rfl⟩) (aV _)) (lQ (gO (cT (gJ (dv 0))))))) aG aG)))),?_⟩
 have a:=lZ Zg Zf i
 refine⟨λx d=>x= .int (fH s o)/\d=H,?_,?_⟩
 ·refine⟨C,b,_,_,e,a.cls,a.n3,rfl,?_⟩
  conv=>whnf
  refine bQ (λc=>?_) (λc=>a0E ?_)
  ·have f:((o:Nat):Int)=1:=dec_true c
   refine⟨C,b,_,_,e,a.cls,a.n2,rfl,?_⟩
   cases s
   ·refine⟨?_,rfl⟩
    unfold fH
    rw[if_pos ⟨by lia,rfl⟩]
   ·refine⟨?_,rfl⟩
    unfold fH
    rw[if_neg λz=>nomatch z.2]
  ·have f:¬ ((o:Nat):Int)=1:=dec_false c
   refine⟨?_,rfl⟩
   unfold fH
   rw[if_neg λz=>f (by lia)]
 rintro x d ⟨rfl,rfl⟩
 exact q
variable (ZbC:MB P w K mg base (CX0) 1 Zck Ze3 ["self","at","bit"] (a5O CA.rtail CA.stail))
include Zcp Zg Zf in
theorem Zh2 (g:Fun K "is_fault" "Tail.is_fault" Zfa Zck Ze3):type_of% ZbC:=by
 refine mbK ["self","at","bit"] g λH Q l m h=>?_
 obtain⟨t,v,s,o,n,a,b,rfl,⟨C,i,j,e⟩,q⟩:=h
 refine⟨_,(aD (bK (aY fG (dv 1) (bD (v:= .int 1) rfl Zcp ⟨_,rfl⟩) (aV _)) (aF (aM (b0G (gJ (dv 0)) (a9I (gB fG (dv 2) aG (aV _)))))) aU) (aF (aM (gB fG (dv 2) aG (aV _))))),?_⟩
 have f:=lZ Zg Zf j
 conv=>whnf
 refine bQ (λc=>?_) (λc=>?_)
 ·have k:((a:Nat):Int)=1:=dec_true c
  have d:dF s a b=(s && decide (b=1)):=if_pos (by lia)
  rw[d]at q
  refine⟨C,i,_,_,e,f.cls,f.n2,rfl,?_⟩
  cases s
  ·exact q
  ·exact q
 ·have k:¬ ((a:Nat):Int)=1:=dec_false c
  have d:dF s a b=decide (b=0):=if_neg (by lia)
  rw[d]at q
  exact q
variable (ZaS:MB P w K mg base (CX0) 1 Zbt Zeq ["self","bit"] (a5N CA.rtail CA.stail))
include ZcM Zg Zf in
theorem Zgq (y:Fun K "judged_vote" "Tail.judged_vote" Zer Zbt Zeq):type_of% ZaS:=by
 refine mbK ["self","bit"] y λH Q D E h=>?_
 obtain⟨t,v,s,o,n,b,rfl,⟨C,d,p,e⟩,q⟩:=h
 refine⟨_,(aD (jT (bK (aY fG (dv 1) aG (aV _)) (aF (mZ (dv 0) (aR cC (gJ (dv 0)) aG))) aU)) (aD (bK (aY yE (gJ (dv 0)) (aR cC (bD (v:= .int 9) rfl ZcM ⟨_,rfl⟩) (gJ (dv 0))) (aV _)) (aF (aM bR)) aU) (aF (aM (cR (fJ (aY tX (gJ (dv 0)) (aR b6Z (gJ (dv 0)) aG) (aV _)) bR bR)))))),?_⟩
 have a:=lZ Zg Zf p
 refine⟨λg i=>g= [some (.ref t),some (.int b)]/\i t=some (.ins C d (tlF v s o (if b=0 then n+1 else n)))/\b2F H i t,?_,?_⟩
 ·conv=>whnf
  refine bQ (λc=>?_) (λc=>?_)
  ·have j:b=0:=dec_true c
   refine⟨C,d,_,_,e,a.cls,a.n4,rfl,C,d,_,e,a.cls,a.n4,(show 4<1000 by decide),rfl,?_,λx u r ex=>by rw[aH r];exact ex⟩
   rw[aB,if_pos j]
   rfl
  ·have j:¬ b=0:=dec_false c
   refine⟨rfl,?_,λx u r ex=>ex⟩
   rw[if_neg j]
   exact e
 rintro g i ⟨rfl,f,A⟩
 have k:=q i ⟨C,d,p,f⟩ A
 generalize (if b=0 then n+1 else n)=m at f k
 refine⟨C,d,_,_,f,a.cls,a.n3,rfl,C,d,_,_,f,a.cls,a.n1,rfl,?_⟩
 conv=>whnf
 refine bQ (λc=>?_) (λc=>?_)
 ·have j:((o:Nat):Int)<9+((v:Nat):Int):=dec_true c
  have l:nO v o m="more":=if_pos (by lia)
  rw[l]at k
  exact k
 have j:¬ ((o:Nat):Int)<9+((v:Nat):Int):=dec_false c
 have l:nO v o m=(if v / 2<m then ("refused":Str) else ("taken":Str)):=if_neg (by lia)
 rw[l]at k
 refine⟨λx w=>x= .str (if v / 2<m then ("refused":Str) else ("taken":Str))/\w=i,?_,?_⟩
 ·refine⟨C,d,_,_,f,a.cls,a.n4,rfl,C,d,_,_,f,a.cls,a.n1,rfl,?_⟩
  refine⟨⟨by decide,by decide⟩,?_⟩
  conv=>whnf
  refine bQ (λz=>?_) (λz=>?_)
  ·have B:((v:Nat):Int) / 2<((m:Nat):Int):=dec_true z
   rw[if_pos (by lia)]
   exact⟨rfl,rfl⟩
  ·have B:¬ ((v:Nat):Int) / 2<((m:Nat):Int):=dec_false z
   rw[if_neg (by lia)]
   exact⟨rfl,rfl⟩
 rintro x w ⟨rfl,rfl⟩
 exact k
variable (ZcU:MB P w K mg base (CX0) 2 Zdo Zhk ["self","bit"] (a8C CA.rtail CA.stail))
include ZcM Zg Zf ZaY ZaQ ZaJ Zav ZbC ZaS in
theorem Zkm (F:Fun K "hear" "Tail.hear" ZhE Zdo Zhk):type_of% ZcU:=by
 refine mbK ["self","bit","at"] F λH Q G D h=>?_
 obtain⟨t,v,s,o,n,b,rfl,⟨C,a,d,e⟩,q⟩:=h
 refine⟨_,(aD (bA (i:=2) G rfl (Or.inl rfl) (gJ (dv 0))) (aD (mZ (dv 0) (aR cC (dv 2) aG)) (aD (bK (aY a7J (dv 2) (bD (v:= .int 9) rfl ZcM ⟨_,rfl⟩) (aV _)) (aF (aM (sW ZaS.1 D.mo ZaS.2 .nil aJ (dv 0) (aA (dv 1) aC)))) aU) (aF (aM (cR (fJ (cT (sW ZbC.1 D.mo ZbC.2 .nil aJ (dv 0) (aA (dv 2) (aA (dv 1) aC)))) bR bR))))))),?_⟩
 have g:=lZ Zg Zf d
 have p:=uL ZaJ Zav d
 have r:=uL ZaY ZaQ d
 refine⟨C,a,_,_,e,g.cls,g.n3,rfl,C,a,_,e,g.cls,g.n3,(show 4<1000 by decide),?_⟩
 have j:upd H t (.ins C a (gD "over" (.int (((o:Nat):Int)+1)) (tlF v s o n))) t=some (.ins C a (tlF v s (o+1) n)):=aB
 have w:b2F H (upd H t (.ins C a (gD "over" (.int (((o:Nat):Int)+1)) (tlF v s o n)))) t:=λx u l ex=>by rw[aH l];exact ex
 generalize upd H t (.ins C a (gD "over" (.int (((o:Nat):Int)+1)) (tlF v s o n)))=H1 at j w
 conv=>whnf
 refine bQ (λc=>?_) (λc=>?_)
 ·have I:(9:Int)<=((o:Nat):Int):=dec_true c
  have k:9<=o:=by lia
  refine⟨⟨C,a,_,j,g.cls,p,rfl⟩,t,v,s,o+1,n,b,rfl,⟨C,a,d,j⟩,λm E J=>?_⟩
  have A:tlN o b n=(if b=0 then n+1 else n):=by
   unfold tlN
   by_cases z:b=0
   ·rw[if_pos ⟨k,z⟩,if_pos z]
   ·rw[if_neg λy=>z y.2,if_neg z]
  have B:bJ v s o n b=nO v (o+1) (tlN o b n):=if_pos k
  rw[<-A]at E ⊢
  have:=q m E λx u l ex=>J x u l (w x u l ex)
  rw[B]at this
  exact this
 have I:¬ (9:Int)<=((o:Nat):Int):=dec_false c
 have k:¬ 9<=o:=by lia
 have A:tlN o b n=n:=if_neg λz=>k z.1
 have B:bJ v s o n b=(if dF s o b=true then ("fault":Str) else ("more":Str)):=if_neg k
 rw[B,A]at q
 have L:=q H1 ⟨C,a,d,j⟩ w
 refine⟨λx m=>x= .str (if dF s o b=true then ("fault":Str) else ("more":Str))/\m=H1,?_,?_⟩
 ·refine⟨⟨C,a,_,j,g.cls,r,rfl⟩,t,v,s,o+1,n,o,b,rfl,⟨C,a,d,j⟩,?_⟩
  generalize dF s o b=f
  cases f
  ·exact⟨rfl,rfl⟩
  ·exact⟨rfl,rfl⟩
 rintro x m ⟨rfl,rfl⟩
 exact L
variable (ZbA:MB P w K mg base (CX0) 2 Zc2 Ze1 ["self","votes"] (yW CA.rtail false))
include Zc7 Zg Zf Zae Za0 in
theorem Zh0 (a:Fun K "__init__" "ReadTail.__init__" Ze8 Zc2 Ze1):type_of% ZbA:=by
 refine mbK ["self","votes"] a λH Q d b h=>?_
 obtain⟨t,c,v,rfl,e,q⟩:=h
 refine⟨_,(aF (bC (a0A Zae Za0.1 b.mo Za0.2 .nil aJ (bD (v:= .ref ZdV) rfl Zc7 rfl) (aA (dv 0) (aA (dv 1) (aA jV aC)))))),?_⟩
 exact⟨rfl,t,CA.rtail,c,v,false,rfl,.inl rfl,e,q _ rfl⟩
variable (Zbg:MB P w K mg base (CX0) 2 ZcI ZeP ["self","votes"] (yW CA.stail true))
include Zc7 Zg Zf Zae Za0 in
theorem Zg9 (a:Fun K "__init__" "SpeakTail.__init__" ZeV ZcI ZeP):type_of% Zbg:=by
 refine mbK ["self","votes"] a λH Q d b h=>?_
 obtain⟨t,c,v,rfl,e,q⟩:=h
 refine⟨_,(aF (bC (a0A Zae Za0.1 b.mo Za0.2 .nil aJ (bD (v:= .ref ZdV) rfl Zc7 rfl) (aA (dv 0) (aA (dv 1) (aA jV aC)))))),?_⟩
 exact⟨rfl,t,CA.stail,c,v,true,rfl,.inr rfl,e,q _ rfl⟩
variable (Zcu:MB P w K mg base (CX0) 1 ZdL Zgy ["self"] (a8S CA.count))
include Zd Zt in
theorem ZjA (b:Fun K "__init__" "Count.__init__" ZgO ZdL Zgy):type_of% Zcu:=by
 refine mbK ["self"] b λH Q e f h=>?_
 obtain⟨a,c,rfl,d,q⟩:=h
 refine⟨_,(aF (bU Zd Zt (dv 0) aG)),?_⟩
 exact⟨c, [],d,by decide,q⟩
variable (Zbd:MB P w K mg base (CX0) 1 ZcE ZeM ["self"] (b6D CA.count 12))
include Zd4 Zd Zt in
theorem Zg6 (b:Fun K "is_quiet" "Count.is_quiet" ZeS ZcE ZeM):type_of% Zbd:=by
 refine mbK ["self"] b λH Q e f h=>?_
 obtain⟨a,n,rfl,⟨c,d⟩,q⟩:=h
 refine⟨_,(aF (aM (gB a7J (aP Zd Zt (dv 0)) (bD (v:= .int 12) rfl Zd4 ⟨_,rfl⟩) (aV _)))),?_⟩
 exact⟨c,_,.int n,d,rfl,q⟩
variable (Zas:MB P w K mg base (CX0) 1 Zdc Zfj ["self"] (b6D CA.count 18))
include ZeF Zd Zt in
theorem Zik (b:Fun K "is_off" "Count.is_off" Zfw Zdc Zfj):type_of% Zas:=by
 refine mbK ["self"] b λH Q e f h=>?_
 obtain⟨a,n,rfl,⟨c,d⟩,q⟩:=h
 refine⟨_,(aF (aM (gB a7J (aP Zd Zt (dv 0)) (bD (v:= .int 18) rfl ZeF ⟨_,rfl⟩) (aV _)))),?_⟩
 exact⟨c,_,.int n,d,rfl,q⟩
variable (Z7:MB P w K mg base (CX0) 2 ZdM Zgz ["self","step"] (a8R CA.count))
include ZfN Zd Zaa Zt Zas in
theorem ZjB (i:Fun K "move" "Count.move" ZgP ZdM Zgz):type_of% Z7:=by
 refine mbK ["self","step"] i λH Q k j h=>?_
 obtain⟨a,n,l,rfl,⟨d,e⟩,q⟩:=h
 refine⟨_,(aF (bK (gO (cT (cL Zd Zaa Zas.1 j.mo Zas.2 .nil aJ (dv 0)))) (aF (bU Zd Zt (dv 0) (aX (b6X rfl) rfl ZfN b1X (aA aG (aA (aR cC (aP Zd Zt (dv 0)) (dv 1)) aC))))) aU)),?_⟩
 refine⟨⟨d,_,e,rfl⟩,a,n,rfl,⟨d,e⟩,?_⟩
 conv=>whnf
 refine bQ (λc=>?_) (λc=>?_)
 ·have f:¬ (18:Int)<=n:=λz=>by
   have:(!decide ((18:Int)<=n))=true:=c
   rw[Yq z]at this
   cases this
  refine⟨d,_,.int n,e,rfl,d,_,e,(show 1<1000 by decide),q _ ?_ λb g=>aH g⟩
  refine⟨d,?_⟩
  unfold mvd
  rw[if_neg f]
  exact aB
 ·have f:(18:Int)<=n:=YN λz=>c (by
   show (!decide ((18:Int)<=n))=true
   rw[Yu z];rfl)
  refine q _ ?_ λb g=>rfl
  unfold mvd
  rw[if_pos f]
  exact⟨d,e⟩
variable (Zay:MB P w K mg base (CX0) 3 Zds ZfR ["self","spoke"] (a5U CA.count))
include ZbJ ZdF Zd ZR Z7 in
theorem ZiO (F0:Fun K "fault" "Count.fault" Zf9 Zds ZfR):type_of% Zay:=by
 refine mbK ["self","spoke"] F0 λH Q g f h=>?_
 obtain⟨a,n,b,rfl,⟨c,d⟩,q⟩:=h
 refine⟨_,(aF (bC (cD Zd ZR Z7.1 f.mo Z7.2 .nil aJ (dv 0) (aA (cR (fJ (cT (dv 1)) (bD (v:= .int 8) rfl ZbJ ⟨_,rfl⟩) (bD (v:= .int 1) rfl ZdF ⟨_,rfl⟩))) aC)))),?_⟩
 refine⟨⟨c,_,d,rfl⟩,λx e=>x= .int (if b=true then 8 else 1)/\e=H,?_,?_⟩
 ·cases b with
  |true=>exact⟨rfl,rfl⟩
  |false=>exact⟨rfl,rfl⟩
 rintro x e ⟨rfl,rfl⟩
 exact⟨a,n,_,rfl,⟨c,d⟩,q⟩
variable (Zcb:MB P w K mg base (CX0) 3 Zdr ZfQ ["self"] (yX CA.count 8))
include ZbJ Zd ZR Z7 in
theorem ZiN (d:Fun K "blame" "Count.blame" Zf8 Zdr ZfQ):type_of% Zcb:=by
 refine mbK ["self"] d λH Q f e h=>?_
 obtain⟨a,n,rfl,⟨b,c⟩,q⟩:=h
 refine⟨_,(aF (bC (cD Zd ZR Z7.1 e.mo Z7.2 .nil aJ (dv 0) (aA (bD (v:= .int 8) rfl ZbJ ⟨_,rfl⟩) aC)))),?_⟩
 exact⟨⟨b,_,c,rfl⟩,a,n,8,rfl,⟨b,c⟩,q⟩
variable (Zct:MB P w K mg base (CX0) 3 ZdK Zgx ["self"] (yX CA.count (-1)))
include Zd ZR Z7 in
theorem Zjz (d:Fun K "good" "Count.good" ZgN ZdK Zgx):type_of% Zct:=by
 refine mbK ["self"] d λH Q f e h=>?_
 obtain⟨a,n,rfl,⟨b,c⟩,q⟩:=h
 refine⟨_,(aF (bC (cD Zd ZR Z7.1 e.mo Z7.2 .nil aJ (dv 0) (aA (a3W a3D aG) aC)))),?_⟩
 exact⟨⟨b,_,c,rfl⟩,a,n, -1,rfl,⟨b,c⟩,q⟩
variable (Z6:FB P w K mg base (CX0) 7 "begun_reader" Zd8 Zfr [] (b3H CA))
include ZI Zs ZfM Ze Zdk ZM Zcf Z1 in
theorem Zis (t:GFm K mg "begun_reader" ZfE Zd8 Zfr):type_of% Z6:=by
 refine fbK ["reader"] t λH Q u p h=>?_
 obtain⟨rfl,q⟩:=h
 refine⟨_,(aD (bA (i:=0) u rfl (Or.inl rfl) (oJ Zdk Zcf.1 p.mo rfl ZfM Zcf.2 .nil aJ)) (aD (bC (cD Ze ZM Z1.1 p.mo Z1.2 .nil aJ (dv 0) (aA aG aC))) (aF (aM (dv 0))))),?_⟩
 refine λr dr a b v=>⟨r,dr,rfl,aB,λw f g s j k y=>⟨rfl,?_⟩⟩
 have l:Same H w:=λx o e=>y x o (aL e a) (by rw[aH (aL e a),aH (aL e b)];exact e)
 have c:H f=none:=Same.none (λx o e=>(by rw[aH (aL e a),aH (aL e b)];exact e):Same H _) j
 have d:H g=none:=Same.none (λx o e=>(by rw[aH (aL e a),aH (aL e b)];exact e):Same H _) k
 obtain⟨A,m⟩:=s.rd
 refine⟨⟨A,_,m,rfl⟩,r,f,g, [],_,0,rfl,s,(λz B=> .inl (Ym.mp B)),by decide,λC n D=>?_⟩
 exact q r f g C _ n (λx o e=>D x o (aL e a) (aL e c) (aL e d) (l x o e)) a c d
variable (Zaj:MB P w K mg base (CX0) 1 Zea Zhb ["self","since"] (a1V CA.free "since"))
include ZK ZZ in
theorem Zkd (b:Fun K "__init__" "Free.__init__" Zhv Zea Zhb):type_of% Zaj:=by
 refine mbK ["self","since"] b λH Q d f h=>?_
 obtain⟨a,c,v,rfl,e,q⟩:=h
 refine⟨_,(aF (bU ZK ZZ (dv 0) (dv 1))),?_⟩
 exact⟨c, [],e,by decide,q _ rfl⟩
variable (ZaA:MB P w K mg base (CX0) 1 Zdz ZfY ["self","wire","reader","many"] (b7R CA.speaks "wire" "reader" "many"))
include Zi ZE ZN Zy in
theorem ZiV (c:Fun K "__init__" "Speaks.__init__" Zgg Zdz ZfY):type_of% ZaA:=by
 refine mbK ["self","wire","reader","many"] c λH Q d f h=>?_
 obtain⟨a,b,v,w,z,rfl,e,q⟩:=h
 refine⟨_,(aD (bU Zi ZE (dv 0) (dv 1)) (aD (bU Zi ZN (dv 0) (dv 2)) (aF (bU Zi Zy (dv 0) (dv 3))))),?_⟩
 refine⟨b, [],e,by decide,b,_,aB,(show 1<1000 by decide),b,_,aB,(show 2<1000 by decide),?_⟩
 refine q _ ?_
 rw[lO,lO]
 rfl
variable (Z8:MB P w K mg base (CX0) 1 ZdP ZgC ["self","reader","many"] (a1U CA.reads "reader" "many"))
include ZB ZX Zaw in
theorem ZjE (c:Fun K "__init__" "Reads.__init__" ZgS ZdP ZgC):type_of% Z8:=by
 refine mbK ["self","reader","many"] c λH Q d f h=>?_
 obtain⟨a,b,v,w,rfl,e,q⟩:=h
 refine⟨_,(aD (bU ZB ZX (dv 0) (dv 1)) (aF (bU ZB Zaw (dv 0) (dv 2)))),?_⟩
 refine⟨b, [],e,by decide,b,_,aB,(show 1<1000 by decide),?_⟩
 refine q _ ?_
 rw[lO]
 rfl
variable (Zaz:MB P w K mg base (CX0) 1 Zdt ZfS ["self","tail","found"] (a1U CA.intail "tail" "found"))
include Zn Zx Zap in
theorem ZiP (c:Fun K "__init__" "InTail.__init__" Zga Zdt ZfS):type_of% Zaz:=by
 refine mbK ["self","tail","found"] c λH Q d f h=>?_
 obtain⟨a,b,v,w,rfl,e,q⟩:=h
 refine⟨_,(aD (bU Zn Zx (dv 0) (dv 1)) (aF (bU Zn Zap (dv 0) (dv 2)))),?_⟩
 refine⟨b, [],e,by decide,b,_,aB,(show 1<1000 by decide),?_⟩
 refine q _ ?_
 rw[lO]
 rfl
variable (Zai:MB P w K mg base (CX0) 1 ZcY ZeX ["self","left","may_blame"] (a1U CA.flag "left" "may_blame"))
include Zq Z5 ZL in
theorem ZhW (c:Fun K "__init__" "Flagging.__init__" Ze4 ZcY ZeX):type_of% Zai:=by
 refine mbK ["self","left","may_blame"] c λH Q d f h=>?_
 obtain⟨a,b,v,w,rfl,e,q⟩:=h
 refine⟨_,(aD (bU Zq Z5 (dv 0) (dv 1)) (aF (bU Zq ZL (dv 0) (dv 2)))),?_⟩
 refine⟨b, [],e,by decide,b,_,aB,(show 1<1000 by decide),?_⟩
 refine q _ ?_
 rw[lO]
 rfl
variable (ZT:MB P w K mg base (CX0) 1 Zdh Zfo ["self","may_blame"] (a1V CA.settles "may_blame"))
include ZP ZY in
theorem Zip (b:Fun K "__init__" "Settles.__init__" ZfB Zdh Zfo):type_of% ZT:=by
 refine mbK ["self","may_blame"] b λH Q d f h=>?_
 obtain⟨a,c,v,rfl,e,q⟩:=h
 refine⟨_,(aF (bU ZP ZY (dv 0) (dv 1))),?_⟩
 exact⟨c, [],e,by decide,q _ rfl⟩
variable (ZW:MB P w K mg base (CX0) 1 ZdS ZgF ["self","left"] (a1V CA.rests "left"))
include ZU Zan in
theorem ZjH (b:Fun K "__init__" "Rests.__init__" ZgV ZdS ZgF):type_of% ZW:=by
 refine mbK ["self","left"] b λH Q d f h=>?_
 obtain⟨a,c,v,rfl,e,q⟩:=h
 refine⟨_,(aF (bU ZU Zan (dv 0) (dv 1))),?_⟩
 exact⟨c, [],e,by decide,q _ rfl⟩
variable (Zbz:MB P w K mg base (CX0) 2 Zc1 Ze0 ["self"] (b6E CA 12))
include Zd Zb Za2 Zk Zbd in
theorem ZhZ (f:Fun K "is_quiet" "Post.is_quiet" Ze7 Zc1 Ze0):type_of% Zbz:=by
 refine mbK ["self"] f λH Q k g h=>?_
 obtain⟨p,i,S,o,rfl,⟨j,l,m,n,a,r,s,b⟩,q⟩:=h
 refine⟨_,(aF (aM (cL Zd Za2 Zbd.1 g.mo Zbd.2 .nil aJ (aP Zb Zk (dv 0))))),?_⟩
 obtain⟨c,d⟩:=b.et
 exact⟨j,_,.ref a,b.e,rfl,⟨c,_,d,rfl⟩,a,S.tot,rfl,⟨c,d⟩,q⟩
variable (Zce:MB P w K mg base (CX0) 2 Zdw ZfV ["self"] (b6E CA 18))
include Zd Zb Zaa Zk Zas in
theorem ZiS (f:Fun K "is_off" "Post.is_off" Zgd Zdw ZfV):type_of% Zce:=by
 refine mbK ["self"] f λH Q k g h=>?_
 obtain⟨p,i,S,o,rfl,⟨j,l,m,n,a,r,s,b⟩,q⟩:=h
 refine⟨_,(aF (aM (cL Zd Zaa Zas.1 g.mo Zas.2 .nil aJ (aP Zb Zk (dv 0))))),?_⟩
 obtain⟨c,d⟩:=b.et
 exact⟨j,_,.ref a,b.e,rfl,⟨c,_,d,rfl⟩,a,S.tot,rfl,⟨c,d⟩,q⟩
variable (Zbe:MB P w K mg base (CX0) 1 ZcG ZeN ["self"] (c1H CA))
include Zo Zb Zj in
theorem Zg7 (a:Fun K "has_frame" "Post.has_frame" ZeT ZcG ZeN):type_of% Zbe:=by
 refine mbK ["self"] a λH Q g i h=>?_
 obtain⟨p,c,S,o,rfl,⟨d,j,f,k,l,m,n,b⟩,q⟩:=h
 refine⟨_,(aF (aM (gB tX (aX dW rfl Zo cG (aA (aP Zb Zj (dv 0)) aC)) aG (aV _)))),?_⟩
 refine⟨d,_,.ref f,b.e,rfl,_,.inl (Vb b.ew),?_⟩
 rw[b.fw.len]
 exact q
variable (ZaE:MB P w K mg base (CX0) 7 ZbL ZdX ["self"] (a1W CA))
include Zax ZI Zs Zb Zj ZcD in
theorem Zfu (F0:Fun K "foremost_wire" "Post.foremost_wire" Zd6 ZbL ZdX):type_of% ZaE:=by
 refine mbK ["self"] F0 λH Q B u h=>?_
 obtain⟨p,v,S,o,f,r,rfl,⟨l,C,m,D,E,w,F,b⟩,c,n,q⟩:=h
 refine⟨_,(aF (aM (aN ZcD.1 u.mo rfl ZcD.2.2.2 ZcD.2.2.1 ZcD.2.1 .nil aJ (aA (bL iI (bL dX (aP Zb Zj (dv 0)) aG (λ_ _=>rfl)) aG (λ_ _=>rfl)) (aA (bL iI (bL dX (aP Zb Zj (dv 0)) aG (λ_ _=>rfl)) aG (λ_ _=>rfl)) aC))))),?_⟩
 have i:=b.fw
 rw[c]at i
 generalize hws:w=ws' at i
 cases i with
 | cons a rr=>
  rename_i t ts
  obtain⟨d,s,x,G⟩:=a
  have j:=b.ew
  rw[hws]at j
  refine⟨l,_,.ref m,b.e,rfl,_,.ref t,Vb j,at0,_,_,Vc s,rfl,l,_,.ref m,b.e,rfl,_,.ref t,Vb j,at0,_,_,Vc s,rfl,?_⟩
  have I:=n.2.1
  refine⟨(f.1:Int),d,f.2,rfl,Vb x,by lia,λ_ y z k g e=>q y z k g e,λA=>absurd n.ok A⟩
variable (ZaD:MB P w K mg base (CX0) 1 ZbK ZdW ["self"] (b7T CA))
include Zb Zj in
theorem Zft (F0:Fun K "drop_foremost" "Post.drop_foremost" Zd5 ZbK ZdW):type_of% ZaD:=by
 refine mbK ["self"] F0 λH Q I J h=>?_
 obtain⟨p,w,S,o,rfl,⟨r,y,c,k,A,B,C,b⟩,D,q⟩:=h
 refine⟨_,(aF (bC (b0F (aP Zb Zj (dv 0)) (aA aG aC)))),?_⟩
 have m:=b.fw
 generalize hws:B=ws' at m
 generalize hwt:S.wt=wt at m
 cases m with
 |nil=>exact absurd hwt D
 | cons a rr=>
  rename_i t f ts fs
  have j:=b.ew
  rw[hws]at j
  refine⟨r,_,.ref c,b.e,rfl,⟨_,j⟩,_,0,.ref t,j,⟨by decide,by decide⟩,sq0,rfl,?_⟩
  have n:cV o H (upd H c (.lst ts)):=λx v e z=>by
   rw[aH]
   ·exact e
   ·rintro rfl
    rcases z with z | ⟨L,rfl⟩
    ·exact z b.ow
    ·rw[j]at e;cases e
  have s:∀{x:Addr}{v:HO},H x=some v->(∀l,v≠ .lst l)->upd H c (.lst ts) x=some v:=λ{x v} e h=>by
   rw[aH]
   ·exact e
   ·rintro rfl
    rw[j]at e
    exact h _ (Yp e).symm
  have fk:∀{g:List V}{i:List Fr},dC H (Dl o c k) g i->dC (upd H c (.lst ts)) (Dl o c k) g i:=λ{g i} h=>by
   induction h with
   |nil=>exact .nil
   | cons a _ ih=>
    obtain⟨d,E,F,u⟩:=a
    exact .cons ⟨d,n.tup E,by rw[aH u.2.1];exact F,u⟩ ih
  refine q _ ⟨r,y,c,k,A,ts,C,s b.e (λl z=>nomatch z),n.tup b.ec,aB,?_,by rw[aH (Va b.ne)];exact b.eu,fk b.fu,(let ⟨d,e⟩:=b.et;⟨d,s e λl z=>nomatch z⟩),b.op,b.ow,b.ou,b.ot,b.ne,λx G=>?_⟩ n
  ·show dC _ _ ts S.wt.tail
   rw[hwt]
   exact fk rr
  ·by_cases h:x=c
   ·rw[h,aB];simp
   ·rw[aH h];exact b.al x G
variable (ZbW:FB P w K mg base (CX0) 1 "is_wanted" Zfg Zhs ["choice","name"] (a7X K))
def Zku (a:GFm K mg "is_wanted" ZhM Zfg Zhs):type_of% ZbW:=by
 refine fbK ["choice","name"] a λH Q b d h=>?_
 obtain⟨c,m,t,n,rfl,e,q⟩:=h
 refine⟨_,(aF (aM (gB fG (aR uH (dv 1) (bL iI (dv 0) aG (λ_ _=>rfl))) (bL iI (dv 0) aG (λ_ _=>rfl)) (aV _)))),?_⟩
 exact⟨_,_,Vc e,rfl,_,_,Vc e,rfl,q⟩
variable (ZbY:MB P w K mg base (CX0) 2 Zdd Zfk ["self","frame"] (a8Q CA))
include Zb Zau ZG ZbW in
theorem Zil (D:Fun K "hand_up" "Post.hand_up" Zfx Zdd Zfk):type_of% ZbY:=by
 refine mbK ["self","frame"] D λH Q O E h=>?_
 obtain⟨p,F,S,o,t,d,n,G,rfl,⟨i,j,k,g,w,y,l,b⟩,A,m,f,P,q⟩:=h
 refine⟨_,(aF (bK (cT (aN ZbW.1 E.mo rfl ZbW.2.2.2 ZbW.2.2.1 ZbW.2.1 .nil aJ (aA (aP Zb Zau (dv 0)) (aA (bL iI (dv 1) aG (λ_ _=>rfl)) aC)))) (aF (bC (dO (aP Zb ZG (dv 0)) (aA (dv 1) aC)))) aU)),?_⟩
 refine⟨i,_,.ref j,b.e,rfl,_,_,Vc A,rfl,j,_,_,_,rfl,b.ec,?_⟩
 conv=>whnf
 refine bQ (λc=>?_) (λc=>?_)
 ·have r:gC S n=true:=c
  have I:=b.fu.len
  refine⟨i,_,.ref g,b.e,rfl,⟨_,Vb b.eu⟩,_,b.eu,bT (by lia),?_⟩
  obtain⟨B,J,L,M,C,N⟩:=a0D (ys:=l++[.ref t]) b (.inr rfl)
  refine q _ ⟨i,j,k,g,w,y,l++[.ref t],J.trans b.e,L.trans b.ec,by rw[aH b.ne];exact b.ew,(C b.fw).imp (λx v e _=>e) (λx z=>⟨.inl z.1,z.2⟩),aB,?_,(let ⟨d,e⟩:=b.et;⟨d,M.trans e⟩),.inl b.op,.inl b.ow,.inl b.ou,.inl b.ot,b.ne,λx hx=>?_⟩ B
  ·show dC _ _ _ (if gC S n=true then S.up++[(n,G)] else S.up)
   rw[if_pos r]
   have s:d≠k:=λz=>f (z▸b.ow)
   have a:d≠g:=λz=>f (z▸b.ou)
   exact((C b.fu).imp (λx v e _=>e) (λx z=>⟨.inl z.1,z.2⟩)).snoc ⟨d,B.tup A,by rw[aH a];exact m,.inr rfl,s,a⟩
  ·rcases hx with hx | hx
   ·exact N x hx
   ·have u:x=d:=hx
    have a:d≠g:=λz=>f (z▸b.ou)
    rw[u,aH a,m];simp
 ·have r:¬ gC S n=true:=c
  refine q _ ?_ cV.refl
  rw[if_neg r]
  exact Bd.grow ⟨i,j,k,g,w,y,l,b⟩ m
variable (ZcO:MB P w K mg base (CX0) 3 Zed Zhe ["self","name","data"] (b7S K CA Zc5))
include Zs ZaP Zb Zj Zv in
theorem Zkg (G:Fun K "hand" "Post.hand" Zhy Zed Zhe):type_of% ZcO:=by
 refine mbK ["self","name","data"] G λH Q nd I h=>?_
 obtain⟨p,J,S,o,n,a,l,rfl,bd,w,L,hw,M,N⟩:=h
 refine⟨_,(aD (bC (aN Zv.1 I.mo rfl Zv.2.2.2 Zv.2.2.1 Zv.2.1 .nil aJ (aA (dv 1) (aA (dv 2) aC)))) (aF (bC (dO (aP Zb Zj (dv 0)) (aA (cH (aA (dv 1) (aA (jP lC rfl ZaP kO (aA (dv 2) aC)) aC))) aC))))),?_⟩
 refine⟨n,a,l,rfl,w,L,λok i g=>?_,λO i g=>N O i g⟩
 obtain⟨y,P,q,A,R,B,T,b⟩:=bd.move (H':=i) λx v e _=>g x v e
 refine⟨y,_,.ref q,b.e,rfl,⟨_,Vb b.ew⟩,_,.inl (g.seq w),λd hd=>?_⟩
 have C:=aK hd (.lst (l.map V.int))
 have r:=aB (H:=i) (a:=d) (o:= .lst (l.map V.int))
 generalize upd i d (.lst (l.map V.int))=H2 at C r
 refine⟨aO rfl,λt U=>?_⟩
 have m:=aK U (.tup [.int n,.ref d])
 have D:=aB (H:=H2) (a:=t) (o:= .tup [.int n,.ref d])
 generalize upd H2 t (.tup [.int n,.ref d])=H3 at m D
 have j:=C.trans m
 have k:¬ o d:=λz=>b.al d z hd
 have c:=b.move (H':=H3) λx v e _=>j x v e
 have W:=b.fw.len
 refine⟨_,c.ew,bT (by lia),?_⟩
 obtain⟨E,X,Y,Z,F,k6⟩:=a0D (ys:=B++[.ref t]) c (.inl rfl)
 have f:d≠q:=λz=>k (z▸b.ow)
 have s:d≠A:=λz=>k (z▸b.ou)
 have en:((n.toNat:Nat):Int)=n:=by
  have:=gK.mp ok.1
  lia
 refine M ok _ d (g.none hd) ⟨y,P,q,A,R,B++[.ref t],T,X.trans c.e,Y.trans c.ec,aB,?_,by rw[aH (Va b.ne)];exact c.eu,(F c.fu).imp (λx v e _=>e) (λx z=>⟨.inl z.1,z.2⟩),(let ⟨d,e⟩:=c.et;⟨d,Z.trans e⟩),.inl b.op,.inl b.ow,.inl b.ou,.inl b.ot,b.ne,λx hx=>?_⟩ (λx v e z=>E x v (j x v (g x v e)) z)
 ·refine((F c.fw).imp (λx v e _=>e) (λx z=>⟨.inl z.1,z.2⟩)).snoc ⟨d,?_,by rw[aH f];exact m _ _ r,.inr rfl,f,s⟩
  show _=some (HO.tup [.int ((n.toNat:Nat):Int),.ref d])
  rw[en]
  exact E.tup D
 ·rcases hx with hx | hx
  ·exact k6 x hx
  ·have u:x=d:=hx
   rw[u,aH f,m _ _ r];simp
variable (Za1:FB P w K mg base (CX0) 1 "copies" ZhU Zkb ["frames"] (a8T K))
include ZaP in
theorem ZlA (B:GFm K mg "copies" Zkx ZhU Zkb):type_of% Za1:=by
 refine fbK ["frames"] B λH Q N O h=>?_
 obtain⟨a,D,fs,o,rfl,e,u,P,q⟩:=h
 refine⟨_,(aF (aM (gA rfl (ix:=[]) (dN (dv 0)) (λC E F G at0=>eG) (λC E F G at0=>(cH (aA (bL (jG (K:=K)) (dv 0) aG (λ_ _=>rfl)) (aA (jP (a5G (K:=K)) rfl ZaP kO (aA (bL (jG (K:=K)) (dv 0) aG (λ_ _=>rfl)) aC)) aC)))) rfl rfl (by rfl) (show ([".0","frame"]:List Str).Nodup by decide +kernel)))),?_⟩
 have I:=u.len
 refine⟨⟨_,Vb e⟩,eE (xs:=D) (λi c b=>Same H b/\fK H b c (fs.take i)) ?_ ⟨Vd _,.nil⟩ (λi c b _ z=>Vb (z.1 _ _ e)) ?_ ?_⟩
 ·rintro i c b v ⟨_,n⟩
  refine bT ?_
  rw[n.len,Yj]
  lia
 ·rintro i x c b J ⟨g,n⟩
  obtain⟨t,f,rfl,w,d,y,L,R⟩:=u.get J
  refine⟨_,_,Vc (g _ _ y),rfl,_,_,Vc (g _ _ y),rfl,_,.inl (Vb (g _ _ L)),λr k=>?_⟩
  have j:=aK k (.lst (f.2.map V.int))
  have A:=aB (H:=b) (a:=r) (o:= .lst (f.2.map V.int))
  generalize upd b r (.lst (f.2.map V.int))=H2 at j A
  refine⟨aO rfl,λS m=>?_⟩
  have s:=aK m (.tup [.int ((f.1:Nat):Int),.ref r])
  refine⟨g.trans (j.trans s),?_⟩
  have v:i<fs.length:=(Ye.mp w).1
  have M:fs[i]=f:=(Ye.mp w).2
  rw[Yg v,M]
  exact fK.snoc ((g.trans j).none m) (g.none k) aB (s _ _ A) (n.same (j.trans s))
 rintro c b ⟨g,n⟩ l p
 have j:=aK p (.lst c)
 rw[I,Yi (Yd _)]at n
 exact q l c _ (g.none p) (g.trans j) aB (n.same j)
variable (Zcv:MB P w K mg base (CX0) 2 ZdN ZgA ["self"] (b2U CA))
include Zb Zj Za1 in
theorem ZjC (c:Fun K "waits" "Post.waits" ZgQ ZdN ZgA):type_of% Zcv:=by
 refine mbK ["self"] c λH Q k d h=>?_
 obtain⟨p,f,S,o,rfl,⟨g,l,a,m,n,i,r,b⟩,j,q⟩:=h
 refine⟨_,(aF (aM (aN Za1.1 d.mo rfl Za1.2.2.2 Za1.2.2.1 Za1.2.1 .nil aJ (aA (aP Zb Zj (dv 0)) aC)))),?_⟩
 exact⟨g,_,.ref a,b.e,rfl,a,i,S.wt,_,rfl,b.ew,b.fw,j,q⟩
variable (Zda:MB P w K mg base (CX0) 2 ZeC Zic ["self"] (c1I CA))
include Zb ZG Za1 in
theorem Zk1 (c:Fun K "got" "Post.got" Ziw ZeC Zic):type_of% Zda:=by
 refine mbK ["self"] c λH Q k d h=>?_
 obtain⟨p,f,S,o,rfl,⟨g,l,m,a,n,r,i,b⟩,j,q⟩:=h
 refine⟨_,(aF (aM (aN Za1.1 d.mo rfl Za1.2.2.2 Za1.2.2.1 Za1.2.1 .nil aJ (aA (aP Zb ZG (dv 0)) aC)))),?_⟩
 exact⟨g,_,.ref a,b.e,rfl,a,i,S.up,_,rfl,b.eu,b.fu,j,q⟩
variable (ZA:FB P w K mg base (CX0) 3 "unless_off" ZeL ZgL ["post","word","stance"] (a7Y CA))
include ZjT Zb ZbG Zd1 Zce in
theorem ZjN (m:GFm K mg "unless_off" Zg1 ZeL ZgL):type_of% ZA:=by
 refine fbK ["post","word","stance"] m λH Q B n h=>?_
 obtain⟨p,d,S,o,w,nx,rfl,bd,r,s⟩:=h
 refine⟨_,(aF (aM (cR (fJ (cT (cL Zb ZbG Zce.1 n.mo Zce.2 .nil aJ (dv 0))) (cH (aA bR (aA (a9K Zd1 rfl ZjT) aC))) (cH (aA (dv 1) (aA (dv 2) aC))))))),?_⟩
 refine⟨λx j=>Q x j,?_,λx j z=>z⟩
 obtain⟨v,C,D,E,F,G,I,b⟩:=id bd
 refine⟨⟨v,_,b.e,rfl⟩,p,d,S,o,rfl,bd,?_⟩
 conv=>whnf
 refine bQ (λc=>?_) (λc=>?_)
 ·have f:18<=S.tot:=dec_true c
  refine λx a k g y=>⟨aO rfl,λt i=>?_⟩
  have A:Same H (upd (upd H a (.own x)) x (.ins CA.off a [])):=λb u q=>by rw[aH (aL q k),aH (aL q g)];exact q
  have l:=aK i (.tup [.str "off",.ref x])
  exact s f t x a _ (A.trans l) k (l _ _ aB) aB
 ·have f:¬ 18<=S.tot:=dec_false c
  refine⟨aO rfl,λt i=>?_⟩
  exact r f t _ (aK i _) aB
variable (Zl:FB P w K mg base (CX0) 4 "fault_of" ZfL Zih ["post","spoke"] (b3B CA))
include ZcL Zel Zd Zb ZaR Zaf Zk Zay Zai ZA in
theorem Zk6 (J:GFm K mg "fault_of" ZiB ZfL Zih):type_of% Zl:=by
 refine fbK ["post","spoke"] J λH Q V l h=>?_
 obtain⟨p,m,S,o,r,rfl,bd,q⟩:=h
 refine⟨_,(aD (bC (cD Zd Zaf Zay.1 l.mo Zay.2 .nil aJ (aP Zb Zk (dv 0)) (aA (dv 1) aC))) (aF (aM (aN ZA.1 l.mo rfl ZA.2.2.2 ZA.2.2.1 ZA.2.1 .nil aJ (aA (dv 0) (aA bR (aA (cN ZaR Zai.1 l.mo rfl ZcL Zai.2 .nil aJ (aA (bD (v:= .int 6) rfl Zel ⟨_,rfl⟩) (aA (b9H (dv 1)) aC))) aC))))))),?_⟩
 obtain⟨L,W,X,Y,D,Z,us,b⟩:=id bd
 obtain⟨M,N⟩:=id b.et
 refine⟨L,_,.ref D,b.e,rfl,⟨M,_,N,rfl⟩,D,S.tot,r,rfl,b.et,λO d P=>?_⟩
 obtain⟨k,f⟩:=Bd.count b d P
 generalize ht:mvd S.tot (if r=true then 8 else 1)=n at k d
 refine λx g E s R=>⟨x,g,_,_,rfl,aB,λF u=>⟨rfl,?_⟩⟩
 have a:Same O F:=by rw[u];exact bN E s
 have G:F x=some (.ins CA.flag g [("left",.int ((6:Nat):Int)),("may_blame",.bl (!r))]):=by rw[u];exact aB
 clear u
 refine⟨p,m,{ S with tot:=n },o,"fault",x,rfl,k.move λy v e _=>a y v e,λc t w i A=>?_,λc t B T w i U I A=>?_⟩
 ·have d:¬ 18<=n:=c
  refine q t w ⟨x,λy=>y=x,?_,?_,?_,?_,?_⟩
  ·unfold bW dY;rw[ht,if_neg d];exact A
  ·unfold bW dY;rw[ht,if_neg d];exact(k.move λy v e _=>i y v (a y v e)).now rfl rfl rfl rfl rfl rfl
  ·unfold bW dY;rw[ht,if_neg d];exact iW (i _ _ G) ⟨g,i _ _ G⟩
  ·intro y C
   have j:y=x:=C
   rw[j]
   exact pR k f E
  ·exact λy v e z=>i y v (a y v (f y v e z))
 ·have d:18<=n:=c
  refine q t w ⟨B,λy=>y=B,?_,?_,?_,?_,?_⟩
  ·unfold bW dY;rw[ht,if_pos d];exact A
  ·unfold bW dY;rw[ht,if_pos d];exact(k.move λy v e _=>i y v (a y v e)).now rfl rfl rfl rfl rfl rfl
  ·unfold bW dY;rw[ht,if_pos d];exact iW I ⟨T,I⟩
  ·intro y C
   have j:y=B:=C
   rw[j]
   exact pR k f (a.none U)
  ·exact λy v e z=>i y v (a y v (f y v e z))
variable (Zbs:FB P w K mg base (CX0) 4 "refusal_of" ZeK ZgK ["post","spoke"] (a5Q CA))
include ZbX Zd Zb Zam Zaf Zk Zay ZT ZA in
theorem ZjM (J:GFm K mg "refusal_of" Zg0 ZeK ZgK):type_of% Zbs:=by
 refine fbK ["post","spoke"] J λH Q V l h=>?_
 obtain⟨p,m,S,o,C,rfl,bd,q⟩:=h
 refine⟨_,(aD (bC (cD Zd Zaf Zay.1 l.mo Zay.2 .nil aJ (aP Zb Zk (dv 0)) (aA (dv 1) aC))) (aF (aM (aN ZA.1 l.mo rfl ZA.2.2.2 ZA.2.2.1 ZA.2.1 .nil aJ (aA (dv 0) (aA bR (aA (cN Zam ZT.1 l.mo rfl ZbX ZT.2 .nil aJ (aA jV aC)) aC))))))),?_⟩
 obtain⟨L,W,X,Y,D,Z,us,b⟩:=id bd
 obtain⟨M,N⟩:=id b.et
 refine⟨L,_,.ref D,b.e,rfl,⟨M,_,N,rfl⟩,D,S.tot,C,rfl,b.et,λO d P=>?_⟩
 obtain⟨k,f⟩:=Bd.count b d P
 generalize ht:mvd S.tot (if C=true then 8 else 1)=n at k d
 refine λx g E r R=>⟨x,g,_,rfl,aB,λF s=>⟨rfl,?_⟩⟩
 have a:Same O F:=by rw[s];exact bN E r
 have G:F x=some (.ins CA.settles g [("may_blame",.bl false)]):=by rw[s];exact aB
 clear s
 refine⟨p,m,{ S with tot:=n },o,"refuses",x,rfl,k.move λy v e _=>a y v e,λc t u i w=>?_,λc t A T u i U I w=>?_⟩
 ·have d:¬ 18<=n:=c
  refine q t u ⟨x,λy=>y=x,?_,?_,?_,?_,?_⟩
  ·unfold dM dY;rw[ht,if_neg d];exact w
  ·unfold dM dY;rw[ht,if_neg d];exact(k.move λy v e _=>i y v (a y v e)).now rfl rfl rfl rfl rfl rfl
  ·unfold dM dY;rw[ht,if_neg d];exact iW (i _ _ G) ⟨g,i _ _ G⟩
  ·intro y B
   have j:y=x:=B
   rw[j]
   exact pR k f E
  ·exact λy v e z=>i y v (a y v (f y v e z))
 ·have d:18<=n:=c
  refine q t u ⟨A,λy=>y=A,?_,?_,?_,?_,?_⟩
  ·unfold dM dY;rw[ht,if_pos d];exact w
  ·unfold dM dY;rw[ht,if_pos d];exact(k.move λy v e _=>i y v (a y v e)).now rfl rfl rfl rfl rfl rfl
  ·unfold dM dY;rw[ht,if_pos d];exact iW I ⟨T,I⟩
  ·intro y B
   have j:y=A:=B
   rw[j]
   exact pR k f (a.none U)
  ·exact λy v e z=>i y v (a y v (f y v e z))
variable (Zci:FB P w K mg base (CX0) 4 "blame_of" ZfJ Zif ["post"] (b3G CA))
include ZbX Zd Zb Zam ZbD Zk Zcb ZT ZA in
theorem Zk4 (I:GFm K mg "blame_of" Ziz ZfJ Zif):type_of% Zci:=by
 refine fbK ["post"] I λH Q U l h=>?_
 obtain⟨p,m,S,o,rfl,bd,q⟩:=h
 refine⟨_,(aD (bC (cL Zd ZbD Zcb.1 l.mo Zcb.2 .nil aJ (aP Zb Zk (dv 0)))) (aF (aM (aN ZA.1 l.mo rfl ZA.2.2.2 ZA.2.2.1 ZA.2.1 .nil aJ (aA (dv 0) (aA bR (aA (cN Zam ZT.1 l.mo rfl ZbX ZT.2 .nil aJ (aA jV aC)) aC))))))),?_⟩
 obtain⟨J,V,W,X,C,Y,Z,b⟩:=id bd
 obtain⟨L,M⟩:=id b.et
 refine⟨J,_,.ref C,b.e,rfl,⟨L,_,M,rfl⟩,C,S.tot,rfl,b.et,λN d O=>?_⟩
 obtain⟨k,f⟩:=Bd.count b d O
 generalize ht:mvd S.tot 8=n at k d
 refine λx g D r P=>⟨x,g,_,rfl,aB,λE s=>⟨rfl,?_⟩⟩
 have a:Same N E:=by rw[s];exact bN D r
 have F:E x=some (.ins CA.settles g [("may_blame",.bl false)]):=by rw[s];exact aB
 clear s
 refine⟨p,m,{ S with tot:=n },o,"",x,rfl,k.move λy v e _=>a y v e,λc t u i w=>?_,λc t A R u i T G w=>?_⟩
 ·have d:¬ 18<=n:=c
  refine q t u ⟨x,λy=>y=x,?_,?_,?_,?_,?_⟩
  ·unfold gU dY;rw[ht,if_neg d];exact w
  ·unfold gU dY;rw[ht,if_neg d];exact(k.move λy v e _=>i y v (a y v e)).now rfl rfl rfl rfl rfl rfl
  ·unfold gU dY;rw[ht,if_neg d];exact iW (i _ _ F) ⟨g,i _ _ F⟩
  ·intro y B
   have j:y=x:=B
   rw[j]
   exact pR k f D
  ·exact λy v e z=>i y v (a y v (f y v e z))
 ·have d:18<=n:=c
  refine q t u ⟨A,λy=>y=A,?_,?_,?_,?_,?_⟩
  ·unfold gU dY;rw[ht,if_pos d];exact w
  ·unfold gU dY;rw[ht,if_pos d];exact(k.move λy v e _=>i y v (a y v e)).now rfl rfl rfl rfl rfl rfl
  ·unfold gU dY;rw[ht,if_pos d];exact iW G ⟨R,G⟩
  ·intro y B
   have j:y=A:=B
   rw[j]
   exact pR k f (a.none T)
  ·exact λy v e z=>i y v (a y v (f y v e z))
variable (Za8:FB P w K mg base (CX0) 1 "check_votes" Zew Zf6 ["votes"] (b2V ZcF))
include ZcX Zab Zdl in
theorem Zi3 (F0:GFm K mg "check_votes" Zgo Zew Zf6):type_of% Za8:=by
 refine fbK ["votes"] F0 λH Q f g h=>?_
 obtain⟨v,rfl,b,d⟩:=h
 refine⟨_,(aF (bK (aY a7H (dv 0) (bD (v:= .ref ZiM) rfl ZcX rfl) rfl) (aF fZ) aU)),?_⟩
 refine⟨[1,3,5],.inr (Zdl.sq H),?_⟩
 conv=>whnf
 refine bQ (λc=>?_) (λc=>?_)
 ·refine(d λz=>?_)
  have a:(!decide (v∈ [(1:Int),3,5]))=true:=c
  rw[(uZ v).mpr z]at a
  cases a
 ·refine b ((uZ v).mp ?_)
  cases e:decide (v∈ [(1:Int),3,5]) with
  |true=>rfl
  |false=>exact absurd (show (!decide (v∈ [(1:Int),3,5]))=true by rw[e];rfl) c
variable (ZaT:FB P w K mg base (CX0) 2 "check_choice" Zd9 Zfs ["choice"] (a8U K ZcF))
include Zab Zak in
theorem Zit (F0:GFm K mg "check_choice" ZfF Zd9 Zfs):type_of% ZaT:=by
 refine fbK ["choice"] F0 λH Q m g h=>?_
 obtain⟨a,b,rfl,i,j,k,l⟩:=h
 refine⟨_,(aF (bK (gO (cT (aN Zak.1 g.mo rfl Zak.2.2.2 Zak.2.2.1 Zak.2.1 .nil aJ (aA (dv 0) aC)))) (aF fZ) aU)),?_⟩
 refine⟨a,b,rfl,.inr i,j,λn f=>?_⟩
 conv=>whnf
 refine bQ (λc=>?_) (λc=>?_)
 ·have d:¬ b.all byt=true:=λz=>by
   have:(!b.all byt)=true:=c
   rw[z]at this;cases this
  exact(l d _ f)
 ·have d:b.all byt=true:=by
   cases e:b.all byt with
   |true=>rfl
   |false=>exact absurd (show (!b.all byt)=true by rw[e];rfl) c
  exact k d _ f
variable (ZcQ:MB P w K mg base (CX0) 4 Zef Zhg ["self","choice","votes"] (a1S K CA ZcF))
include ZcX Zab Zg2 Zdq Zb ZdD ZaL Zk Zj Zau ZG Z0 Z3 Zcu Zaj Za8 ZaT in
theorem Zki (F0:Fun K "__init__" "Post.__init__" ZhA Zef Zhg):type_of% ZcQ:=by
 refine mbK ["self","choice","votes"] F0 λH Q nd O h=>?_
 obtain⟨a,c,d,P,R,v,rfl,e,S,q1,q2⟩:=h
 refine⟨_,(aD (bC (aN ZaT.1 O.mo rfl ZaT.2.2.2 ZaT.2.2.1 ZaT.2.1 .nil aJ (aA (dv 1) aC))) (aD (bC (aN Za8.1 O.mo rfl Za8.2.2.2 Za8.2.2.1 Za8.2.1 .nil aJ (aA (dv 2) aC))) (aD (bU Zb Zau (dv 0) (dv 1)) (aD (bU Zb Z0 (dv 0) (dv 2)) (aD (bU Zb Zj (dv 0) (fW aC)) (aD (bU Zb ZG (dv 0) (fW aC)) (aD (bU Zb Zk (dv 0) (oJ ZdD Zcu.1 O.mo rfl Zg2 Zcu.2 .nil aJ)) (aF (bU Zb Z3 (dv 0) (cN ZaL Zaj.1 O.mo rfl Zdq Zaj.2 .nil aJ (aA aG aC))))))))))),?_⟩
 refine⟨d, [P,R],rfl,Vc S,(show 2<=500 by decide),λt w y=>?_,λT w y=>?_⟩
 rotate_left
 ·refine q2 (λok=>T ?_) w λx u _ h=>y x u h
  rw[X7,X7,List.all_nil,ok.1,ok.2.1];rfl
 rw[X7,X7,List.all_nil,Bool.and_true,XF]at t
 refine⟨v,rfl,λhv=>?_,λT=>q2 (λok=>T ok.2.2) w λx u _ h=>y x u h⟩
 have ea:=y _ _ e
 refine⟨c, [],ea,by decide,?_⟩
 refine⟨c,_,aB,(show 1<1000 by decide),?_⟩
 rw[lO]
 have A:Mid H a (.ins CA.post c [("choice",.ref d),("votes",.int v)]) [] (upd w a (.ins CA.post c (gD "votes" (.int v) (gD "choice" (.ref d) [])))):=⟨aB,λx u B h=>by rw[aH B];exact y x u h,(λ_ z=>nomatch z),XG⟩
 generalize upd w a _=Ha at A
 refine⟨aO rfl,λi D=>?_⟩
 have q:=A.add D (aK D (.lst [])) aB
 generalize upd Ha i (.lst [])=Hb at q
 refine⟨c,_,q.ea,(show 2<1000 by decide),?_⟩
 have E:Mid H a (.ins CA.post c [("choice",.ref d),("votes",.int v),("waiting",.ref i)]) _ (upd Hb a (.ins CA.post c (gD "waiting" (.ref i) [("choice",.ref d),("votes",.int v)]))):=q.set _
 generalize upd Hb a _=Hb2 at E
 refine⟨aO rfl,λj F=>?_⟩
 have r:=E.add F (aK F (.lst [])) aB
 generalize upd Hb2 j (.lst [])=Hc at r
 refine⟨c,_,r.ea,(show 3<1000 by decide),?_⟩
 have G:Mid H a (.ins CA.post c [("choice",.ref d),("votes",.int v),("waiting",.ref i),("handed_up",.ref j)]) _ (upd Hc a (.ins CA.post c (gD "handed_up" (.ref j) [("choice",.ref d),("votes",.int v),("waiting",.ref i)]))):=r.set _
 generalize upd Hc a _=Hc2 at G
 refine λk I J U a2=>⟨k,I,rfl,aB,rfl,?_⟩
 have s:=G.add J (bN (C:=CA.count) (fs:=ctF 0) J U) aB
 generalize upd (upd (upd Hc2 I (.own k)) k (.ins CA.count I [])) k (.ins CA.count I (ctF 0))=Hd at s
 refine⟨c,_,s.ea,(show 4<1000 by decide),?_⟩
 have L:Mid H a (.ins CA.post c [("choice",.ref d),("votes",.int v),("waiting",.ref i),("handed_up",.ref j),("tally",.ref k)]) _ (upd Hd a (.ins CA.post c (gD "tally" (.ref k) [("choice",.ref d),("votes",.int v),("waiting",.ref i),("handed_up",.ref j)]))):=s.set _
 generalize upd Hd a _=Hd2 at L
 refine λo dn M V a1=>⟨o,dn,_,rfl,aB,λH2 W=>⟨rfl,?_⟩⟩
 have N:=L.add (Hy:=H2) M (by rw[W];exact bN M V) (by rw[W];exact aB)
 clear W
 refine⟨c,_,N.ea,(show 5<1000 by decide),?_⟩
 have b:=N.set (.ins CA.post c (pF d v.toNat i j k o))
 have ev:v=((v.toNat:Nat):Int):=by lia
 have eF:(HO.ins CA.post c (gD "now" (.ref o) [("choice",.ref d),("votes",.int v),("waiting",.ref i),("handed_up",.ref j),("tally",.ref k)]))= .ins CA.post c (pF d v.toNat i j k o):=by
  show HO.ins CA.post c [("choice",.ref d),("votes",.int v),("waiting",.ref i),("handed_up",.ref j),("tally",.ref k),("now",.ref o)]=_
  rw[ev,YR]
 rw[eF]
 generalize upd H2 a _=Hz at b
 have f:=b.nw (o,_) (.head _)
 have l:=b.nw (k,_) (.tail _ (.head _))
 have m:=b.nw (j,_) (.tail _ (.tail _ (.head _)))
 have n:=b.nw (i,_) (.tail _ (.tail _ (.tail _ (.head _))))
 have g:=b.nd
 have X:i≠j:=λz=>by
  rw[z]at g
  exact absurd g (by simp)
 have Y:d≠a:=λz=>by rw[z,e]at S;cases S
 have a3:=gK.mp t.1
 have a4:=gK.mp t.2
 have Z:((P.toNat:Nat):Int)=P:=by lia
 have a0:((R.toNat:Nat):Int)=R:=by lia
 refine q1 ⟨t.1,t.2,hv⟩ Hz (λx=>(x=a\/x=i\/x=j\/x=k)\/x=o) ⟨o,λx=>x=a\/x=i\/x=j\/x=k,λx=>x=o,⟨c,d,i,j,k, [], [],b.ea,?_,n.2.2,.nil,m.2.2,.nil,⟨I,l.2.2⟩,.inl rfl,.inr (.inl rfl),.inr (.inr (.inl rfl)),.inr (.inr (.inr rfl)),X,?_⟩,iW f.2.2 ⟨dn,f.2.2⟩,?_,⟨?_,(λ_ z=>nomatch z),trivial⟩,λx B=>B,?_⟩ ?_ ?_
 ·show Hz d=some (.tup [.int ((P.toNat:Nat):Int),.int ((R.toNat:Nat):Int)])
  rw[Z,a0]
  exact b.kp d _ Y S
 ·rintro x (rfl | rfl | rfl | rfl)
  ·rw[b.ea];simp
  ·rw[n.2.2];simp
  ·rw[m.2.2];simp
  ·rw[l.2.2];simp
 ·rintro x B hy
  have p:x=o:=hy
  rcases B with rfl | rfl | rfl | rfl
  ·exact f.2.1 p.symm
  ·rw[p]at g;exact absurd g (by simp)
  ·rw[p]at g;exact absurd g (by simp)
  ·rw[p]at g;exact absurd g (by simp)
 ·show v.toNat<=5
  lia
 ·rintro x ((rfl | rfl | rfl | rfl) | rfl)
  ·rw[b.ea];simp
  ·rw[n.2.2];simp
  ·rw[m.2.2];simp
  ·rw[l.2.2];simp
  ·rw[f.2.2];simp
 ·rintro x ((rfl | rfl | rfl | rfl) | rfl)
  ·exact .inl rfl
  ·exact .inr n.1
  ·exact .inr m.1
  ·exact .inr l.1
  ·exact .inr f.1
 ·exact b.kp
variable (ZaZ:MB P w K mg base (CX0) 3 Zeb Zhc ["self","post"] (cZ CA 0))
include ZdE ZK Zb Za3 Zbb ZZ Zbz Zbe in
theorem Zke (F0:Fun K "says" "Free.says" Zhw Zeb Zhc):type_of% ZaZ:=by
 refine mbK ["self","post"] F0 λH Q D j h=>?_
 obtain⟨E,p,d,S,o,F,rfl,tg,bd,B,wf,q⟩:=h
 refine⟨_,(aD (bK (gO (cT (cL Zb Za3 Zbe.1 j.mo Zbe.2 .nil aJ (dv 1)))) (aF (aM aG)) aU) (aF (aM (cR (fJ (PW.pt (mK (cT (cL Zb Zbb Zbz.1 j.mo Zbz.2 .nil aJ (dv 1))) (lQ (aY yE (aP ZK ZZ (dv 0)) (bD (v:= .int 8) rfl ZdE ⟨_,rfl⟩) (aV _))))) aG aG))))),?_⟩
 obtain⟨s,G,al⟩:=id B
 cases en:S.now with
 | free k =>
  rw[en]at s
  obtain⟨C,e⟩:=s
  obtain⟨t,I,J,L,M,N,O,b⟩:=id bd
  have a:=zA en
  refine⟨⟨t,_,b.e,rfl⟩,p,d,S,o,rfl,bd,?_⟩
  conv=>whnf
  refine bQ (λc=>?_) (λc=>?_)
  ·have g:S.wt= []:=by
    have:(!decide (0<(S.wt.length:Int)))=true:=c
    cases ew:S.wt with
    |nil=>rfl
    | cons f r=>
     rw[ew,Yq (by rw[Yo];lia)]at this
     cases this
   rw[if_pos g]at a
   rw[a]at q
   exact q
  have g:¬ S.wt= []:=λz=>c (by
   show (!decide (0<(S.wt.length:Int)))=true
   rw[z];rfl)
  rw[if_neg g]at a
  refine⟨λx u=>x= .int (bI S)/\u=H,?_,λx u z=>by rw[z.1,z.2];exact q⟩
  refine⟨⟨t,_,b.e,rfl⟩,p,d,S,o,rfl,bd,?_⟩
  conv=>whnf
  refine bQ (λy=>?_) (λy=>?_)
  ·have i:12<=S.tot:=dec_true y
   refine⟨C,_,_,e,rfl,?_⟩
   conv=>whnf
   refine bQ (λz=>?_) (λz=>?_)
   ·have A:((k:Nat):Int)<8:=dec_true z
    rw[a,if_pos ⟨i,by lia⟩]
    exact⟨rfl,rfl⟩
   ·have A:¬ ((k:Nat):Int)<8:=dec_false z
    rw[a,if_neg λw=>A (by lia)]
    exact⟨rfl,rfl⟩
  ·have i:¬ 12<=S.tot:=dec_false y
   refine a0E ⟨?_,rfl⟩
   rw[a,if_neg λw=>i w.1]
 |speaks n ds k=>rw[en]at tg;cases tg
 |reads h=>rw[en]at tg;cases tg
 |tlS v c=>rw[en]at tg;cases tg
 |tlR n ds v c=>rw[en]at tg;cases tg
 |flag l m=>rw[en]at tg;cases tg
 |settles m=>rw[en]at tg;cases tg
 |rests l=>rw[en]at tg;cases tg
 |off  =>rw[en]at tg;cases tg
variable (Zcg:MB P w K mg base (CX0) 1 ZdA ZfZ ["self","post"] (cZ CA 1))
include Zi ZE Zy in
theorem ZiW (F0:Fun K "says" "Speaks.says" Zgh ZdA ZfZ):type_of% Zcg:=by
 refine mbK ["self","post"] F0 λH Q o s h=>?_
 obtain⟨t,p,i,S,u,w,rfl,tg,bd,a,wf,q⟩:=h
 refine⟨_,(aF (aM (bL dX (aP Zi ZE (dv 0)) (aP Zi Zy (dv 0)) (λ_ _=>rfl)))),?_⟩
 obtain⟨b,x,al⟩:=id a
 cases en:S.now with
 |free k=>rw[en]at tg;cases tg
 | speaks n ds k=>
  rw[en]at b
  obtain⟨d,y,r,a,z,A,e,j,_⟩:=b
  have f:=wf.now
  rw[en]at f
  obtain⟨_,_,g,_⟩:=f
  refine⟨d,_,_,e,rfl,d,_,_,e,rfl,_,_,Vb j,xV g,?_⟩
  have:bI S=(wr n ds)[k]:=by
   unfold bI
   rw[en]
   show (wr n ds).getD k 0=_
   rw[Yf,Yb g]
   rfl
  rw[this]at q
  exact q
 |reads h=>rw[en]at tg;cases tg
 |tlS v c=>rw[en]at tg;cases tg
 |tlR n ds v c=>rw[en]at tg;cases tg
 |flag l m=>rw[en]at tg;cases tg
 |settles m=>rw[en]at tg;cases tg
 |rests l=>rw[en]at tg;cases tg
 |off  =>rw[en]at tg;cases tg
variable (Zcw:MB P w K mg base (CX0) 1 ZdQ ZgD ["self","post"] (cZ CA 2))
def ZjF (F0:Fun K "says" "Reads.says" ZgT ZdQ ZgD):type_of% Zcw:=by
 refine mbK ["self","post"] F0 λH Q e f h=>?_
 obtain⟨g,p,a,S,i,j,rfl,tg,bd,b,wf,q⟩:=h
 refine⟨_,(aF (aM aG)),?_⟩
 obtain⟨d,o,al⟩:=id b
 cases en:S.now with
 |free k=>rw[en]at tg;cases tg
 |speaks n ds k=>rw[en]at tg;cases tg
 | reads h=>
  rw[en]at d
  have:bI S=1:=by unfold bI;rw[en]
  rw[this]at q
  exact q
 |tlS v c=>rw[en]at tg;cases tg
 |tlR n ds v c=>rw[en]at tg;cases tg
 |flag l m=>rw[en]at tg;cases tg
 |settles m=>rw[en]at tg;cases tg
 |rests l=>rw[en]at tg;cases tg
 |off  =>rw[en]at tg;cases tg
variable (Zcc:MB P w K mg base (CX0) 2 Zdu ZfT ["self","post"] (cZ CA 3))
include Zg Zf Zn ZaW ZaN Zx ZcV in
theorem ZiQ (F0:Fun K "says" "InTail.says" Zgb Zdu ZfT):type_of% Zcc:=by
 refine mbK ["self","post"] F0 λH Q w s h=>?_
 obtain⟨x,p,t,S,y,z,rfl,tg,bd,u,wf,q⟩:=h
 refine⟨_,(aF (aM (a6G ZcV.1 s.mo ZcV.2 .nil aJ (aP Zn Zx (dv 0))))),?_⟩
 obtain⟨g,A,al⟩:=id u
 cases en:S.now with
 |free k=>rw[en]at tg;cases tg
 |speaks n ds k=>rw[en]at tg;cases tg
 |reads h=>rw[en]at tg;cases tg
 | tlS v c=>
  rw[en]at g
  obtain⟨i,a,e,b,_⟩:=g
  obtain⟨C,d,f,j⟩:=id b
  have o:=lZ Zg Zf f
  have r:=uL ZaW ZaN f
  refine⟨i,_,.ref a,e,rfl,⟨C,d,_,j,o.cls,r,rfl⟩,a,S.vt,true,v,c,rfl,b,?_⟩
  have:bI S=fH true v:=by unfold bI;rw[en]
  rw[this]at q
  exact q
 | tlR n ds v c=>
  rw[en]at g
  obtain⟨i,a,B,D,e,b,_⟩:=g
  obtain⟨C,d,f,j⟩:=id b
  have o:=lZ Zg Zf f
  have r:=uL ZaW ZaN f
  refine⟨i,_,.ref a,e,rfl,⟨C,d,_,j,o.cls,r,rfl⟩,a,S.vt,false,v,c,rfl,b,?_⟩
  have:bI S=fH false v:=by unfold bI;rw[en]
  rw[this]at q
  exact q
 |flag l m=>rw[en]at tg;cases tg
 |settles m=>rw[en]at tg;cases tg
 |rests l=>rw[en]at tg;cases tg
 |off  =>rw[en]at tg;cases tg
variable (Zbx:MB P w K mg base (CX0) 1 ZcZ ZeY ["self","post"] (cZ CA 4))
def ZhX (F0:Fun K "says" "Flagging.says" Ze5 ZcZ ZeY):type_of% Zbx:=by
 refine mbK ["self","post"] F0 λH Q e f h=>?_
 obtain⟨g,p,a,S,i,j,rfl,tg,bd,b,wf,q⟩:=h
 refine⟨_,(aF (aM aG)),?_⟩
 obtain⟨d,o,al⟩:=id b
 cases en:S.now with
 |free k=>rw[en]at tg;cases tg
 |speaks n ds k=>rw[en]at tg;cases tg
 |reads h=>rw[en]at tg;cases tg
 |tlS v c=>rw[en]at tg;cases tg
 |tlR n ds v c=>rw[en]at tg;cases tg
 | flag l m=>
  rw[en]at d
  have:bI S=0:=by unfold bI;rw[en]
  rw[this]at q
  exact q
 |settles m=>rw[en]at tg;cases tg
 |rests l=>rw[en]at tg;cases tg
 |off  =>rw[en]at tg;cases tg
variable (Zb1:MB P w K mg base (CX0) 1 Zdi Zfp ["self","post"] (cZ CA 5))
def Ziq (F0:Fun K "says" "Settles.says" ZfC Zdi Zfp):type_of% Zb1:=by
 refine mbK ["self","post"] F0 λH Q e f h=>?_
 obtain⟨g,p,a,S,i,j,rfl,tg,bd,b,wf,q⟩:=h
 refine⟨_,(aF (aM aG)),?_⟩
 obtain⟨d,o,al⟩:=id b
 cases en:S.now with
 |free k=>rw[en]at tg;cases tg
 |speaks n ds k=>rw[en]at tg;cases tg
 |reads h=>rw[en]at tg;cases tg
 |tlS v c=>rw[en]at tg;cases tg
 |tlR n ds v c=>rw[en]at tg;cases tg
 |flag l m=>rw[en]at tg;cases tg
 | settles m=>
  rw[en]at d
  have:bI S=1:=by unfold bI;rw[en]
  rw[this]at q
  exact q
 |rests l=>rw[en]at tg;cases tg
 |off  =>rw[en]at tg;cases tg
variable (Zcy:MB P w K mg base (CX0) 1 ZdT ZgG ["self","post"] (cZ CA 6))
def ZjI (F0:Fun K "says" "Rests.says" ZgW ZdT ZgG):type_of% Zcy:=by
 refine mbK ["self","post"] F0 λH Q e f h=>?_
 obtain⟨g,p,a,S,i,j,rfl,tg,bd,b,wf,q⟩:=h
 refine⟨_,(aF (aM aG)),?_⟩
 obtain⟨d,o,al⟩:=id b
 cases en:S.now with
 |free k=>rw[en]at tg;cases tg
 |speaks n ds k=>rw[en]at tg;cases tg
 |reads h=>rw[en]at tg;cases tg
 |tlS v c=>rw[en]at tg;cases tg
 |tlR n ds v c=>rw[en]at tg;cases tg
 |flag l m=>rw[en]at tg;cases tg
 |settles m=>rw[en]at tg;cases tg
 | rests l=>
  rw[en]at d
  have:bI S=1:=by unfold bI;rw[en]
  rw[this]at q
  exact q
 |off  =>rw[en]at tg;cases tg
variable (Zc8:MB P w K mg base (CX0) 1 ZeA Zia ["self","post"] (cZ CA 7))
def ZkZ (F0:Fun K "says" "Off.says" Ziu ZeA Zia):type_of% Zc8:=by
 refine mbK ["self","post"] F0 λH Q e f h=>?_
 obtain⟨g,p,a,S,i,j,rfl,tg,bd,b,wf,q⟩:=h
 refine⟨_,(aF (aM aG)),?_⟩
 obtain⟨d,o,al⟩:=id b
 cases en:S.now with
 |free k=>rw[en]at tg;cases tg
 |speaks n ds k=>rw[en]at tg;cases tg
 |reads h=>rw[en]at tg;cases tg
 |tlS v c=>rw[en]at tg;cases tg
 |tlR n ds v c=>rw[en]at tg;cases tg
 |flag l m=>rw[en]at tg;cases tg
 |settles m=>rw[en]at tg;cases tg
 |rests l=>rw[en]at tg;cases tg
 | off  =>
  rw[en]at d
  have:bI S=1:=by unfold bI;rw[en]
  rw[this]at q
  exact q
variable (Zc9:MB P w K mg base (CX0) 1 ZeB Zib ["self","bit","post"] (cY CA 7))
def Zk0 (F0:Fun K "step" "Off.step" Ziv ZeB Zib):type_of% Zc9:=by
 refine mbK ["self","bit","post"] F0 λH Q r s h=>?_
 obtain⟨d,p,f,S,u,w,y,rfl,tg,bd,a,g,wf,z,A,q⟩:=h
 refine⟨_,(aF (aM (cH (aA bR (aA (dv 0) aC))))),?_⟩
 obtain⟨i,B,al⟩:=id a
 cases en:S.now with
 |free k=>rw[en]at tg;cases tg
 |speaks n ds k=>rw[en]at tg;cases tg
 |reads h=>rw[en]at tg;cases tg
 |tlS v c=>rw[en]at tg;cases tg
 |tlR n ds v c=>rw[en]at tg;cases tg
 |flag l m=>rw[en]at tg;cases tg
 |settles m=>rw[en]at tg;cases tg
 |rests l=>rw[en]at tg;cases tg
 | off  =>
  rw[en]at i
  rw[a0G en]at q
  refine⟨aO rfl,λt j=>?_⟩
  have b:=aK j (.tup [.str "",.ref d])
  exact q t _ (Stp.go bd g cV.refl b aB ⟨rfl,rfl,rfl,rfl,rfl,rfl⟩ (a.move λx v e _=>b x v e) λx o=> .inl o)
variable (Zby:MB P w K mg base (CX0) 3 Zc0 ZeZ ["self","bit","post"] (cY CA 4))
include ZcL ZbX Zq ZaR Zam Z5 ZL Zai ZT in
theorem ZhY (F0:Fun K "step" "Flagging.step" Ze6 Zc0 ZeZ):type_of% Zby:=by
 refine mbK ["self","bit","post"] F0 λH Q G w h=>?_
 obtain⟨I,p,B,S,J,L,M,rfl,tg,bd,C,y,wf,N,O,q⟩:=h
 refine⟨_,(aD (bK (aY fG (aP Zq Z5 (dv 0)) aG (aV _)) (aF (aM (cH (aA bR (aA (cN Zam ZT.1 w.mo rfl ZbX ZT.2 .nil aJ (aA (aP Zq ZL (dv 0)) aC)) aC))))) aU) (aF (aM (cH (aA bR (aA (cN ZaR Zai.1 w.mo rfl ZcL Zai.2 .nil aJ (aA (aR lB (aP Zq Z5 (dv 0)) aG) (aA (aP Zq ZL (dv 0)) aC))) aC)))))),?_⟩
 obtain⟨z,P,al⟩:=id C
 cases en:S.now with
 |free k=>rw[en]at tg;cases tg
 |speaks n ds k=>rw[en]at tg;cases tg
 |reads h=>rw[en]at tg;cases tg
 |tlS v c=>rw[en]at tg;cases tg
 |tlR n ds v c=>rw[en]at tg;cases tg
 | flag l m=>
  rw[en]at z
  obtain⟨o,e⟩:=z
  have A:=wf.now
  rw[en]at A
  have D:1<=l:=A
  rw[nC en]at q
  refine⟨o,_,_,e,rfl,?_⟩
  conv=>whnf
  refine bQ (λc=>?_) (λc=>?_)
  ·have E:((l:Nat):Int)=1:=dec_true c
   rw[if_pos (by lia)]at q
   refine⟨o,_,_,e,rfl,?_⟩
   refine λx a f b r=>⟨x,a,_,rfl,aB,λg i=>⟨rfl,aO rfl,λt s=>?_⟩⟩
   have u:Same H g:=by rw[i];exact bN f b
   have j:g x=some (.ins CA.settles a [("may_blame",.bl m)]):=by rw[i];exact aB
   have d:=aK s (.tup [.str "",.ref x])
   exact q t _ (mW bd y cV.refl (u.trans d) aB ⟨rfl,rfl,rfl,rfl,rfl,rfl⟩ f (d _ _ j) ⟨a,d _ _ j⟩)
  ·have E:¬ ((l:Nat):Int)=1:=dec_false c
   rw[if_neg (by lia)]at q
   refine⟨o,_,_,e,rfl,o,_,_,e,rfl,?_⟩
   refine λx a f b r=>⟨x,a,_,_,rfl,aB,λg i=>⟨rfl,aO rfl,λt s=>?_⟩⟩
   have u:Same H g:=by rw[i];exact bN f b
   have F:((l:Nat):Int)-1=((l-1:Nat):Int):=by lia
   have j:g x=some (.ins CA.flag a [("left",.int ((l-1:Nat):Int)),("may_blame",.bl m)]):=by rw[i,<-F];exact aB
   have d:=aK s (.tup [.str "",.ref x])
   exact q t _ (mW bd y cV.refl (u.trans d) aB ⟨rfl,rfl,rfl,rfl,rfl,rfl⟩ f (d _ _ j) ⟨a,d _ _ j⟩)
 |settles m=>rw[en]at tg;cases tg
 |rests l=>rw[en]at tg;cases tg
 |off  =>rw[en]at tg;cases tg
variable (Zb2:MB P w K mg base (CX0) 5 Zdj Zfq ["self","bit","post"] (cY CA 5))
include ZcA Zbw ZP Zar ZY ZW Zci in
theorem Zir (F0:Fun K "step" "Settles.step" ZfD Zdj Zfq):type_of% Zb2:=by
 refine mbK ["self","bit","post"] F0 λH Q J o h=>?_
 obtain⟨C,p,d,S,D,L,r,rfl,tg,bd,s,u,wf,M,N,q⟩:=h
 refine⟨_,(aD (bK (aY fG (dv 1) aG (aV _)) (aF (aM (cH (aA bR (aA (cN Zar ZW.1 o.mo rfl ZcA ZW.2 .nil aJ (aA (bD (v:= .int 3) rfl Zbw ⟨_,rfl⟩) aC)) aC))))) aU) (aD (bK (cT (aP ZP ZY (dv 0))) (aF (aM (aN Zci.1 o.mo rfl Zci.2.2.2 Zci.2.2.1 Zci.2.1 .nil aJ (aA (dv 2) aC)))) aU) (aF (aM (cH (aA bR (aA (dv 0) aC))))))),?_⟩
 obtain⟨w,O,al⟩:=id s
 cases en:S.now with
 |free k=>rw[en]at tg;cases tg
 |speaks n ds k=>rw[en]at tg;cases tg
 |reads h=>rw[en]at tg;cases tg
 |tlS v c=>rw[en]at tg;cases tg
 |tlR n ds v c=>rw[en]at tg;cases tg
 |flag l m=>rw[en]at tg;cases tg
 | settles m=>
  rw[en]at w
  obtain⟨E,e⟩:=w
  rw[jK en]at q
  conv=>whnf
  refine bQ (λc=>?_) (λc=>?_)
  ·have f:r=1:=dec_true c
   rw[if_pos f]at q
   refine λx a b g F=>⟨x,a,_,rfl,aB,λy z=>⟨rfl,aO rfl,λt i=>?_⟩⟩
   have G:Same H y:=by rw[z];exact bN b g
   have A:y x=some (.ins CA.rests a [("left",.int ((3:Nat):Int))]):=by rw[z];exact aB
   have j:=aK i (.tup [.str "",.ref x])
   exact q t _ (mW bd u cV.refl (G.trans j) aB ⟨rfl,rfl,rfl,rfl,rfl,rfl⟩ b (j _ _ A) ⟨a,j _ _ A⟩)
  have f:¬ r=1:=dec_false c
  rw[if_neg f]at q
  refine⟨E,_,_,e,rfl,?_⟩
  cases m with
  | true=>
   rw[if_pos rfl]at q
   exact⟨p,d,S,D,rfl,bd,λt I h=>q t I (h.stp cV.refl bd)⟩
  | false=>
   rw[if_neg (by decide)]at q
   refine⟨aO rfl,λt i=>?_⟩
   have B:=aK i (.tup [.str "",.ref C])
   exact q t _ (Stp.go bd u cV.refl B aB ⟨rfl,rfl,rfl,rfl,rfl,rfl⟩ (s.move λx v e _=>B x v e) λx b=> .inl b)
 |rests l=>rw[en]at tg;cases tg
 |off  =>rw[en]at tg;cases tg
variable (Zcz:MB P w K mg base (CX0) 5 ZdU ZgH ["self","bit","post"] (cY CA 6))
include Zdq ZcA ZU ZaL Zar Zan Zaj ZW Zl in
theorem ZjJ (F0:Fun K "step" "Rests.step" ZgX ZdU ZgH):type_of% Zcz:=by
 refine mbK ["self","bit","post"] F0 λH Q N o h=>?_
 obtain⟨O,p,r,S,E,P,w,rfl,tg,bd,F,y,wf,R,T,q⟩:=h
 refine⟨_,(aD (bK (aY fG (dv 1) aG (aV _)) (aF (aM (aN Zl.1 o.mo rfl Zl.2.2.2 Zl.2.2.1 Zl.2.1 .nil aJ (aA (dv 2) (aA jV aC))))) aU) (aF (aM (cH (aA bR (aA (cR (fJ (aY fG (aP ZU Zan (dv 0)) aG (aV _)) (cN ZaL Zaj.1 o.mo rfl Zdq Zaj.2 .nil aJ (aA aG aC)) (cN Zar ZW.1 o.mo rfl ZcA ZW.2 .nil aJ (aA (aR lB (aP ZU Zan (dv 0)) aG) aC)))) aC)))))),?_⟩
 obtain⟨A,U,al⟩:=id F
 cases en:S.now with
 |free k=>rw[en]at tg;cases tg
 |speaks n ds k=>rw[en]at tg;cases tg
 |reads h=>rw[en]at tg;cases tg
 |tlS v c=>rw[en]at tg;cases tg
 |tlR n ds v c=>rw[en]at tg;cases tg
 |flag l m=>rw[en]at tg;cases tg
 |settles m=>rw[en]at tg;cases tg
 | rests l=>
  rw[en]at A
  obtain⟨B,e⟩:=A
  have C:=wf.now
  rw[en]at C
  have G:1<=l:=C
  rw[gR en]at q
  conv=>whnf
  refine bQ (λc=>?_) (λc=>?_)
  ·have s:w=0:=dec_true c
   rw[if_pos s]at q
   exact⟨p,r,S,E,false,rfl,bd,λt I h=>q t I (h.stp cV.refl bd)⟩
  have s:¬ w=0:=dec_false c
  rw[if_neg s]at q
  refine⟨λv f=>∃x a,v= .ref x/\H x=none/\Same H f/\(if l=1 then f x=some (.ins CA.free a [("since",.int ((0:Nat):Int))]) else f x=some (.ins CA.rests a [("left",.int ((l-1:Nat):Int))])),?_,?_⟩
  ·refine⟨B,_,_,e,rfl,?_⟩
   conv=>whnf
   refine bQ (λz=>?_) (λz=>?_)
   ·have J:((l:Nat):Int)=1:=dec_true z
    refine λx a b d u=>⟨x,a,_,rfl,aB,λf j=>⟨rfl,x,a,rfl,b,by rw[j];exact bN b d,?_⟩⟩
    rw[if_pos (by lia),j]
    exact aB
   ·have J:¬ ((l:Nat):Int)=1:=dec_false z
    have L:((l:Nat):Int)-1=((l-1:Nat):Int):=by lia
    refine⟨B,_,_,e,rfl,?_⟩
    refine λx a b d u=>⟨x,a,_,rfl,aB,λf j=>⟨rfl,x,a,rfl,b,by rw[j];exact bN b d,?_⟩⟩
    rw[if_neg (by lia),j,<-L]
    exact aB
  rintro v f ⟨x,a,rfl,b,D,g⟩
  refine⟨aO rfl,λt M=>?_⟩
  have i:=aK M (.tup [.str "",.ref x])
  by_cases z:l=1
  ·rw[if_pos z]at g q
   exact q t _ (mW bd y cV.refl (D.trans i) aB ⟨rfl,rfl,rfl,rfl,rfl,rfl⟩ b (i _ _ g) ⟨a,i _ _ g⟩)
  ·rw[if_neg z]at g q
   exact q t _ (mW bd y cV.refl (D.trans i) aB ⟨rfl,rfl,rfl,rfl,rfl,rfl⟩ b (i _ _ g) ⟨a,i _ _ g⟩)
 |off  =>rw[en]at tg;cases tg
variable (ZcN:MB P w K mg base (CX0) 8 Zec Zhd ["self","bit","post"] (cY CA 0))
include Zax ZI Zs Zdq ZdI ZcW ZK Zb ZaL Zbi ZaC Zat ZaH ZZ Z6 Zaj ZaA Z8 ZaE Zl ZaZ in
theorem Zkf (F0:Fun K "step" "Free.step" Zhx Zec Zhd):type_of% ZcN:=by
 refine mbK ["self","bit","post","begins"] F0 λH Q nd A h=>?_
 obtain⟨nw,p,D,S,Y,os,T,rfl,tg,bd,st,Z,wf,hb,hu,q⟩:=h
 refine⟨_,(aD (bA (i:=3) nd rfl (Or.inl rfl) (gB fG (cD ZK Zat ZaZ.1 A.mo ZaZ.2 .nil aJ (dv 0) (aA (dv 2) aC)) aG (aV _))) (aD (bK (PW.pt (mK (cT (dv 3)) (lQ (aY fG (dv 1) aG (aV _))))) (aF (aM (cH (aA bR (aA (cN Zbi ZaA.1 A.mo rfl ZdI ZaA.2 .nil aJ (aA (cL Zb ZaH ZaE.1 A.mo ZaE.2 .nil aJ (dv 2)) (aA (zM Z6.1 A.mo rfl Z6.2.2.2 Z6.2.2.1 Z6.2.1 .nil aJ) (aA aG aC)))) aC))))) aU) (aD (bK (cT (dv 3)) (aF (aM (aN Zl.1 A.mo rfl Zl.2.2.2 Zl.2.2.1 Zl.2.1 .nil aJ (aA (dv 2) (aA jV aC))))) aU) (aD (bK (aY fG (dv 1) aG (aV _)) (aF (aM (cH (aA bR (aA (cN ZaC Z8.1 A.mo rfl ZcW Z8.2 .nil aJ (aA (zM Z6.1 A.mo rfl Z6.2.2.2 Z6.2.2.1 Z6.2.1 .nil aJ) (aA aG aC))) aC))))) aU) (aF (aM (cH (aA bR (aA (cN ZaL Zaj.1 A.mo rfl Zdq Zaj.2 .nil aJ (aA (aR cC (aP ZK ZZ (dv 0)) aG) aC)) aC))))))))),?_⟩
 obtain⟨sa,on,al⟩:=id st
 cases en:S.now with
 | free k =>
  rw[en]at sa
  obtain⟨dx,e⟩:=sa
  obtain⟨dp,ch,wl,ul,ct,ws,us,b⟩:=id bd
  rw[dJ en]at q
  refine⟨⟨dx,_,e,rfl⟩,nw,p,D,S,Y,os,rfl,tg,bd,st,wf,?_⟩
  conv=>whnf
  refine bQ (λc=>?_) (λc=>?_)
  ·have L:bI S=0:=dec_true c
   rw[if_pos L]at q
   conv=>whnf
   refine bQ (λz=>?_) (λz=>?_)
   ·have E:T=0:=dec_true z
    rw[if_pos E]at q
    cases ewt:S.wt with
    | nil=>
     rw[zA en,if_pos ewt]at L
     cases L
    | cons f rr=>
     rw[ewt]at q
     have hf:=wf.wt f (by rw[ewt];exact YC)
     refine⟨⟨dp,_,b.e,rfl⟩,p,D,S,Y,f,rr,rfl,bd,ewt,hf,λU H1 a0 M V=>?_⟩
     refine⟨rfl,λr j F J W s u n1 n2 X=>?_⟩
     refine λx g B o N=>⟨x,g,_,_,_,rfl,aB,λO C=>⟨rfl,aO rfl,λt P=>?_⟩⟩
     have G:Same J O:=by rw[C];exact bN B o
     have R:O x=some (.ins CA.speaks g [("wire",.ref U),("reader",.ref r),("many",.int ((1:Nat):Int))]):=by rw[C];exact aB
     have I:=aK P (.tup [.str "begins",.ref x])
     have a1:U≠F:=λy=>by rw[y,X]at V;cases V
     have a:=G.trans I
     have gs:=M.trans (u.trans a)
     refine q t _ (Stp.go (os':=λy=>y=x\/y=U\/y=r\/y=j\/y=F) bd Z cV.refl gs aB ⟨rfl,rfl,rfl,ewt.symm,rfl,rfl⟩ ⟨⟨g,U,r,j,F,W,I _ _ R,a _ _ (u _ _ V),?_,a1,.inr (.inl rfl),.inr (.inr (.inl rfl)),.inr (.inr (.inr (.inl rfl))),.inr (.inr (.inr (.inr rfl)))⟩,.inl rfl,?_⟩ ?_)
     ·show jN _ _ _ r j F ((wr f.1 f.2).take 1) W
      rw[pJ]
      exact s.same a
     ·rintro y (rfl | rfl | rfl | rfl | rfl)
      ·rw[I _ _ R];simp
      ·rw[a _ _ (u _ _ V)];simp
      ·obtain⟨d,w⟩:=s.rd;rw[a _ _ w];simp
      ·obtain⟨d,w⟩:=s.sk;rw[a _ _ w];simp
      ·rw[a _ _ s.kp];simp
     ·rintro y (rfl | rfl | rfl | rfl | rfl)
      ·exact .inr (M.none (u.none B))
      ·exact .inr a0
      ·exact .inr (M.none n1)
      ·exact .inr (M.none n2)
      ·exact .inr (M.none X)
   ·have E:¬ T=0:=dec_false z
    rw[if_neg E]at q
    conv=>whnf
    refine bQ (λ_=>?_) (λc'=>absurd c c')
    exact⟨p,D,S,Y,true,rfl,bd,λt H' h=>q t H' (h.stp cV.refl bd)⟩
  have L:¬ bI S=0:=dec_false c
  rw[if_neg L]at q
  refine a0E ?_
  conv=>whnf
  refine bQ (λc'=>absurd c' c) (λ_=>?_)
  conv=>whnf
  refine bQ (λz=>?_) (λz=>?_)
  ·have E:T=0:=dec_true z
   rw[if_pos E]at q
   refine⟨rfl,λr j F J W s u n1 n2 X=>?_⟩
   refine λx g B o N=>⟨x,g,_,_,rfl,aB,λO C=>⟨rfl,aO rfl,λt P=>?_⟩⟩
   have G:Same J O:=by rw[C];exact bN B o
   have R:O x=some (.ins CA.reads g [("reader",.ref r),("many",.int ((1:Nat):Int))]):=by rw[C];exact aB
   have I:=aK P (.tup [.str "",.ref x])
   have a:=G.trans I
   refine q t _ (Stp.go (os':=λy=>y=x\/y=r\/y=j\/y=F) bd Z cV.refl (u.trans a) aB ⟨rfl,rfl,rfl,rfl,rfl,rfl⟩ ⟨⟨g,r,j,F,W,I _ _ R,s.same a,.inr (.inl rfl),.inr (.inr (.inl rfl)),.inr (.inr (.inr rfl))⟩,.inl rfl,?_⟩ ?_)
   ·rintro y (rfl | rfl | rfl | rfl)
    ·rw[I _ _ R];simp
    ·obtain⟨d,w⟩:=s.rd;rw[a _ _ w];simp
    ·obtain⟨d,w⟩:=s.sk;rw[a _ _ w];simp
    ·rw[a _ _ s.kp];simp
   ·rintro y (rfl | rfl | rfl | rfl)
    ·exact .inr (u.none B)
    ·exact .inr n1
    ·exact .inr n2
    ·exact .inr X
  ·have E:¬ T=0:=dec_false z
   rw[if_neg E]at q
   refine⟨dx,_,_,e,rfl,?_⟩
   refine λx g B o N=>⟨x,g,_,rfl,aB,λJ C=>⟨rfl,aO rfl,λt P=>?_⟩⟩
   have u:Same H J:=by rw[C];exact bN B o
   have e2:J x=some (.ins CA.free g [("since",.int ((k+1:Nat):Int))]):=by rw[C];exact aB
   have G:=aK P (.tup [.str "",.ref x])
   exact q t _ (mW bd Z cV.refl (u.trans G) aB ⟨rfl,rfl,rfl,rfl,rfl,rfl⟩ B (G _ _ e2) ⟨g,G _ _ e2⟩)
 |speaks n ds k=>rw[en]at tg;cases tg
 |reads h=>rw[en]at tg;cases tg
 |tlS v c=>rw[en]at tg;cases tg
 |tlR n ds v c=>rw[en]at tg;cases tg
 |flag l m=>rw[en]at tg;cases tg
 |settles m=>rw[en]at tg;cases tg
 |rests l=>rw[en]at tg;cases tg
 |off  =>rw[en]at tg;cases tg
variable (Zcx:MB P w K mg base (CX0) 7 ZdR ZgE ["self","bit","post"] (cY CA 2))
include ZI Zs Zc7 ZcW ZdH ZeG Ze ZB Zb ZaC Zbh ZcK ZM Zbm ZX Zaw Z0 Z1 ZbZ ZbA Z8 Zaz Zl in
theorem ZjG (F0:Fun K "step" "Reads.step" ZgU ZdR ZgE):type_of% Zcx:=by
 refine mbK ["self","bit","post","answer"] F0 λH Q nd F h=>?_
 obtain⟨X,p,Y,S,ob,os,G,rfl,tg,bd,st,Z,wf,hb,hu,q⟩:=h
 refine⟨_,(aD (bA (i:=3) nd rfl (Or.inl rfl) (cD Ze ZM Z1.1 F.mo Z1.2 .nil aJ (aP ZB ZX (dv 0)) (aA (dv 1) aC))) (aD (bK (aY fG (dv 3) bR (aV _)) (aF (aM (cH (aA bR (aA (cN ZaC Z8.1 F.mo rfl ZcW Z8.2 .nil aJ (aA (aP ZB ZX (dv 0)) (aA (aR cC (aP ZB Zaw (dv 0)) aG) aC))) aC))))) aU) (aD (bK (aY fG (dv 3) bR (aV _)) (aF (aM (cH (aA bR (aA (cN Zbh Zaz.1 F.mo rfl ZdH Zaz.2 .nil aJ (aA (cN ZcK ZbA.1 F.mo rfl ZeG ZbA.2 .nil aJ (aA (aP Zb Z0 (dv 2)) aC)) (aA (cL Ze Zbm ZbZ.1 F.mo ZbZ.2 .nil aJ (aP ZB ZX (dv 0))) aC))) aC))))) aU) (aF (aM (aN Zl.1 F.mo rfl Zl.2.2.2 Zl.2.2.1 Zl.2.1 .nil aJ (aA (dv 2) (aA jV aC)))))))),?_⟩
 obtain⟨sa,on,al⟩:=id st
 cases en:S.now with
 |free k=>rw[en]at tg;cases tg
 |speaks n ds k=>rw[en]at tg;cases tg
 | reads h=>
  rw[en]at sa
  obtain⟨U,r,j,I,t0,e,J,o1,o2,o3⟩:=sa
  have hn:=wf.now
  rw[en]at hn
  obtain⟨f1,f2,f3⟩:=hn
  have a5:=b9A f1 f2
  rw[cI en]at q
  obtain⟨dr,er⟩:=J.rd
  obtain⟨dk,ek⟩:=J.sk
  have o:bF (h++[G]):=pH f1 (λz hz=>by rw[Ym.mp hz];exact hb)
  refine⟨U,_,.ref r,e,rfl,⟨dr,_,er,rfl⟩,r,j,I,h,t0,G,rfl,J,o,by lia,λH1 f b1=>?_⟩
  have n1:X≠r:=sU "many" e er rfl rfl
  have n2:X≠j:=sU "many" e ek rfl rfl
  have n3:X≠I:=a4B e J.kp
  have e1:=b1 _ _ n1 n2 n3 e
  have V:=a4I J b1 o1 o2 o3
  have B:=qX bd Z V
  have a0:cV (Or2 ob os) H H1:=V.le λx C=> .inr C
  obtain⟨a6,L⟩:=f.rd
  generalize hans:ans (h++[G])=an at f q L ⊢
  conv=>whnf
  refine bQ (λc=>?_) (λc=>?_)
  ·have c1:an="more":=Y2 c
   rw[if_pos c1]at q
   refine⟨U,_,.ref r,e1,rfl,U,_,_,e1,rfl,?_⟩
   refine λx a C D M=>⟨x,a,_,_,rfl,aB,λN u=>⟨rfl,aO rfl,λt ht=>?_⟩⟩
   have E:Same H1 N:=by rw[u];exact bN C D
   have el:((h.length:Nat):Int)+1=(((h++[G]).length:Nat):Int):=by rw[Yc,Yw];rfl
   have O:N x=some (.ins CA.reads a [("reader",.ref r),("many",.int (((h++[G]).length:Nat):Int))]):=by rw[u,<-el];exact aB
   have A:=aK ht (.tup [.str "",.ref x])
   have s:=E.trans A
   refine q t _ (Stp.go (os':=λy=>y=x\/y=r\/y=j\/y=I) bd Z V s aB ⟨rfl,rfl,rfl,rfl,rfl,rfl⟩ ⟨⟨a,r,j,I,an,A _ _ O,f.same s,.inr (.inl rfl),.inr (.inr (.inl rfl)),.inr (.inr (.inr rfl))⟩,.inl rfl,?_⟩ ?_)
   ·rintro y (rfl | rfl | rfl | rfl)
    ·rw[A _ _ O];simp
    ·rw[s _ _ L];simp
    ·obtain⟨d,w⟩:=f.sk;rw[s _ _ w];simp
    ·rw[s _ _ f.kp];simp
   ·rintro y (rfl | rfl | rfl | rfl)
    ·exact .inr C
    ·exact .inl o1
    ·exact .inl o2
    ·exact .inl o3
  have c1:¬ an="more":=λz=>c (Yq z)
  rw[if_neg c1]at q
  conv=>whnf
  refine bQ (λz=>?_) (λz=>?_)
  ·have W:an="whole":=Y2 z
   rw[if_pos W]at q
   obtain⟨dp,ch,wl,ul,ct,ws,us,b⟩:=id B
   refine⟨dp,_,_,b.e,rfl,?_⟩
   refine λP dt R a1 M=>⟨P,dt,S.vt,rfl,aB,λN u=>⟨rfl,?_⟩⟩
   have E:Same H1 N:=by rw[u];exact bN R a1
   have O:N P=some (.ins CA.rtail dt (tlF S.vt false 0 0)):=by rw[u];exact aB
   clear u
   have T:=f.same E
   obtain⟨a2,a3⟩:=T.rd
   refine⟨U,_,.ref r,E _ _ e1,rfl,⟨a2,_,a3,rfl⟩,r,j,I,h++[G],rfl,(by rw[hans];exact T),o,(by rw[Yc,Yw];lia),(λ_=>a6U (by rw[b4U,Xh,f3];rfl)),λ_ ok t d H3 hd A ed et=>?_,λno=>absurd (hans.trans W) no⟩
   refine λx a C D M=>⟨x,a,_,_,rfl,aB,λH4 u=>⟨rfl,aO rfl,λt' a4=>?_⟩⟩
   have g4:Same H3 H4:=by rw[u];exact bN C D
   have e4:H4 x=some (.ins CA.intail a [("tail",.ref P),("found",.ref t)]):=by rw[u];exact aB
   clear u
   have g5:=aK a4 (.tup [.str "",.ref x])
   have g:=g4.trans g5
   refine q t' _ (Stp.go (os':=λy=>y=x\/y=P\/y=d) bd Z V (E.trans (A.trans g)) aB ⟨rfl,rfl,rfl,rfl,rfl,rfl⟩ ⟨⟨a,P,t,d,g5 _ _ e4,⟨CA.rtail,dt,.inl rfl,g _ _ (A _ _ O)⟩,g _ _ et,g _ _ ed,.inr (.inl rfl),.inr (.inr rfl)⟩,.inl rfl,?_⟩ ?_)
   ·rintro y (rfl | rfl | rfl)
    ·rw[g5 _ _ e4];simp
    ·rw[g _ _ (A _ _ O)];simp
    ·rw[g _ _ ed];simp
   ·rintro y (rfl | rfl | rfl)
    ·exact .inr (E.none (A.none C))
    ·exact .inr R
    ·exact .inr (E.none hd)
  ·have W:¬ an="whole":=λy=>z (Yq y)
   rw[if_neg W]at q
   exact⟨p,Y,S,ob,false,rfl,B,λt H' h=>q t H' (h.stp a0 B)⟩
 |tlS v c=>rw[en]at tg;cases tg
 |tlR n ds v c=>rw[en]at tg;cases tg
 |flag l m=>rw[en]at tg;cases tg
 |settles m=>rw[en]at tg;cases tg
 |rests l=>rw[en]at tg;cases tg
 |off  =>rw[en]at tg;cases tg
variable (Zch:MB P w K mg base (CX0) 7 ZdB Zf0 ["self","bit","post"] (cY CA 1))
include ZI Zs Zc7 ZdI ZcW ZdH Zek Zeo Zo Ze Zi Zb Zbi ZaC Zbh Zcs ZM Zbn ZE ZN Zy Z0 Z1 Zb0 Zbg ZaA Z8 Zaz Zl in
theorem ZiX (F0:Fun K "step" "Speaks.step" Zgi ZdB Zf0):type_of% Zch:=by
 refine mbK ["self","bit","post","own","is_duel"] F0 λH Q nd E h=>?_
 obtain⟨nw,p,X,S,ob,os,o,rfl,tg,bd,st,dj,wf,hb,hu,q⟩:=h
 refine⟨_,(aD (bA (i:=3) nd rfl (Or.inl rfl) (bL dX (aP Zi ZE (dv 0)) (aP Zi Zy (dv 0)) (λ_ _=>rfl))) (aD (bA (i:=4) nd rfl (Or.inl rfl) (gB yE (aX dW rfl Zo cG (aA (cL Ze Zbn Zb0.1 E.mo Zb0.2 .nil aJ (aP Zi ZN (dv 0))) aC)) (bD (v:= .int 9) rfl Zek ⟨_,rfl⟩) (aV _))) (aD (bK (aY fG (cD Ze ZM Z1.1 E.mo Z1.2 .nil aJ (aP Zi ZN (dv 0)) (aA (dv 1) aC)) bR (aV _)) (aF (aM (aN Zl.1 E.mo rfl Zl.2.2.2 Zl.2.2.1 Zl.2.1 .nil aJ (aA (dv 2) (aA jV aC))))) aU) (aD (jT (bK (PW.pt (mK (aY fG (dv 3) aG (aV _)) (mK (aY fG (dv 1) aG (aV _)) (lQ (cT (dv 4)))))) (aF (aM (cH (aA bR (aA (cN ZaC Z8.1 E.mo rfl ZcW Z8.2 .nil aJ (aA (aP Zi ZN (dv 0)) (aA (aR cC (aP Zi Zy (dv 0)) aG) aC))) aC))))) aU)) (aD (bK (aY a1B (dv 1) (dv 3) (aV _)) (aF (aM (aN Zl.1 E.mo rfl Zl.2.2.2 Zl.2.2.1 Zl.2.1 .nil aJ (aA (dv 2) (aA jV aC))))) aU) (aD (bK (aY fG (aR cC (aP Zi Zy (dv 0)) aG) (aX dW rfl Zo cG (aA (aP Zi ZE (dv 0)) aC)) (aV _)) (aF (aM (cH (aA bR (aA (cN Zbh Zaz.1 E.mo rfl ZdH Zaz.2 .nil aJ (aA (cN Zcs Zbg.1 E.mo rfl Zeo Zbg.2 .nil aJ (aA (aP Zb Z0 (dv 2)) aC)) (aA wQ aC))) aC))))) aU) (aF (aM (cH (aA bR (aA (cN Zbi ZaA.1 E.mo rfl ZdI ZaA.2 .nil aJ (aA (aP Zi ZE (dv 0)) (aA (aP Zi ZN (dv 0)) (aA (aR cC (aP Zi Zy (dv 0)) aG) aC)))) aC))))))))))),?_⟩
 obtain⟨sa,on,al⟩:=id st
 cases en:S.now with
 |free k=>rw[en]at tg;cases tg
 | speaks n ds k=>
  rw[en]at sa
  obtain⟨u,V,r,j,J,t0,e,ew,Y,Z,o0,o1,o2,o3⟩:=sa
  have hn:=wf.now
  rw[en]at hn
  obtain⟨f1,f2,hk,f4⟩:=hn
  have a9:=jH f1
  have wbits:=(lD f1).wbits
  rw[bG en]at q
  have eg:=getD_get hk
  rw[eg]at q
  obtain⟨dr,er⟩:=Y.rd
  obtain⟨dk,ek⟩:=Y.sk
  have L:bF ((wr n ds).take k++[o]):=pH (wF wbits) (λz hz=>by rw[Ym.mp hz];exact hb)
  refine⟨u,_,.ref V,e,rfl,u,_,_,e,rfl,_,_,Vb ew,xV hk,?_⟩
  refine⟨u,_,.ref r,e,rfl,⟨dr,_,er,rfl⟩,r,j,J,_,t0,rfl,Y,λpp H0 b0 g0 e0=>?_⟩
  refine⟨_,.inl (Vb e0),?_⟩
  rw[Ya]
  have M:=Y.same g0
  obtain⟨a4,a5⟩:=M.rd
  have a0:=g0 _ _ e
  refine⟨u,_,.ref r,a0,rfl,⟨a4,_,a5,rfl⟩,r,j,J,(wr n ds).take k,t0,o,rfl,M,L,(by rw[Yj];lia),λH1 g b1=>?_⟩
  have n1:nw≠r:=sU "wire" e er rfl rfl
  have n2:nw≠j:=sU "wire" e ek rfl rfl
  have n3:nw≠J:=a4B e Y.kp
  have N:=b1 _ _ n1 n2 n3 a0
  have O:=b1 _ _ (Va (a4B er ew)) (Va (a4B ek ew)) Z (g0 _ _ ew)
  have a6:=a4I M b1 o1 o2 o3
  have k1:cV os H H1:=λx v ex z=>a6 x v (g0 x v ex) z
  have A:=qX bd dj k1
  have a1:cV (Or2 ob os) H H1:=k1.le λx C=> .inr C
  obtain⟨b2,P⟩:=g.rd
  conv=>whnf
  refine bQ (λc=>?_) (λc=>?_)
  ·have c1:ans ((wr n ds).take k++[o])="six":=Y2 c
   rw[if_pos c1]at q
   exact⟨p,X,S,ob,true,rfl,A,λt F h=>q t F (h.stp a1 A)⟩
  have c1:¬ ans ((wr n ds).take k++[o])="six":=λz=>c (Yq z)
  rw[if_neg c1]at q
  refine⟨λa2 F=>a2= [some (.ref nw),some (.int o),some (.ref p),some (.int (wr n ds)[k]),some (.bl (decide (((kp ((wr n ds).take k)).length:Int)<9)))]/\F=H1/\¬ ((wr n ds)[k]=1/\o=0/\(kp ((wr n ds).take k)).length<9),?_,?_⟩
  ·conv=>whnf
   refine bQ (λG=>?_) (λG=>a0E ⟨rfl,rfl,λz=>dec_false G z.1⟩)
   conv=>whnf
   refine bQ (λy2=>?_) (λy2=>a0E ⟨rfl,rfl,λz=>dec_false y2 z.2.1⟩)
   conv=>whnf
   refine bQ (λy3=>?_) (λy3=>⟨rfl,rfl,λz=>dec_false y3 (by have:=z.2.2;lia)⟩)
   have hl:(wr n ds)[k]=1/\o=0/\(kp ((wr n ds).take k)).length<9:=⟨dec_true G,dec_true y2,by have:=dec_true y3;lia⟩
   rw[if_pos hl]at q
   refine⟨u,_,.ref r,N,rfl,u,_,_,N,rfl,?_⟩
   refine λx f C B R=>⟨x,f,_,_,rfl,aB,λD s=>⟨rfl,aO rfl,λt ht=>?_⟩⟩
   have W:Same H1 D:=by rw[s];exact bN C B
   have el:((k:Nat):Int)+1=((((wr n ds).take k++[o]).length:Nat):Int):=by rw[Yc,Yw,Yj];lia
   have I:D x=some (.ins CA.reads f [("reader",.ref r),("many",.int ((((wr n ds).take k++[o]).length:Nat):Int))]):=by rw[s,<-el];exact aB
   have T:=aK ht (.tup [.str "loses",.ref x])
   have a:=W.trans T
   refine q t _ (Stp.go (os':=λy=>y=x\/y=r\/y=j\/y=J) bd dj k1 a aB ⟨rfl,rfl,rfl,rfl,rfl,rfl⟩ ⟨⟨f,r,j,J,_,T _ _ I,g.same a,.inr (.inl rfl),.inr (.inr (.inl rfl)),.inr (.inr (.inr rfl))⟩,.inl rfl,?_⟩ ?_)
   ·rintro y (rfl | rfl | rfl | rfl)
    ·rw[T _ _ I];simp
    ·rw[a _ _ P];simp
    ·obtain⟨d,w⟩:=g.sk;rw[a _ _ w];simp
    ·rw[a _ _ g.kp];simp
   ·rintro y (rfl | rfl | rfl | rfl)
    ·exact .inr C
    ·exact .inl o1
    ·exact .inl o2
    ·exact .inl o3
  rintro a2 F ⟨rfl,rfl,nl⟩
  rw[if_neg nl]at q
  conv=>whnf
  refine bQ (λy=>?_) (λy=>?_)
  ·have G:¬ o=(wr n ds)[k]:=λz=>by
    have:(!decide (o=(wr n ds)[k]))=true:=y
    rw[Yq z]at this;cases this
   rw[if_neg G]at q
   exact⟨p,X,S,ob,true,rfl,A,λt F h=>q t F (h.stp a1 A)⟩
  have G:o=(wr n ds)[k]:=YN λz=>y (by
   show (!decide (o=(wr n ds)[k]))=true
   rw[Yu z];rfl)
  rw[if_pos G]at q
  have et:(wr n ds).take k++[o]=(wr n ds).take (k+1):=by rw[Yg hk,G]
  refine⟨u,_,_,N,rfl,u,_,.ref V,N,rfl,_,.inl (Vb O),?_⟩
  rw[Ya]
  conv=>whnf
  refine bQ (λz=>?_) (λz=>?_)
  ·have z1:((k:Nat):Int)+1=(((wr n ds).length:Nat):Int):=dec_true z
   rw[if_pos (by lia)]at q
   obtain⟨dp,ch,wl,ul,ct,ws,us,b⟩:=id A
   refine⟨dp,_,_,b.e,rfl,?_⟩
   refine λtl dt a3 a7 R=>⟨tl,dt,S.vt,rfl,aB,λD s=>⟨rfl,?_⟩⟩
   have W:Same F D:=by rw[s];exact bN a3 a7
   have I:D tl=some (.ins CA.stail dt (tlF S.vt true 0 0)):=by rw[s];exact aB
   clear s
   refine λx f C B R=>⟨x,f,_,_,rfl,aB,λH4 s=>⟨rfl,aO rfl,λt' a8=>?_⟩⟩
   have g4:Same D H4:=by rw[s];exact bN C B
   have e4:H4 x=some (.ins CA.intail f [("tail",.ref tl),("found",.non)]):=by rw[s];exact aB
   clear s
   have g5:=aK a8 (.tup [.str "",.ref x])
   have U:=g4.trans g5
   refine q t' _ (Stp.go (os':=λy=>y=x\/y=tl) bd dj k1 (W.trans U) aB ⟨rfl,rfl,rfl,rfl,rfl,rfl⟩ ⟨⟨f,tl,g5 _ _ e4,⟨CA.stail,dt,.inr rfl,U _ _ I⟩,.inr rfl⟩,.inl rfl,?_⟩ ?_)
   ·rintro y (rfl | rfl)
    ·rw[g5 _ _ e4];simp
    ·rw[U _ _ I];simp
   ·rintro y (rfl | rfl)
    ·exact .inr (W.none C)
    ·exact .inr a3
  ·have z1:¬ ((k:Nat):Int)+1=(((wr n ds).length:Nat):Int):=dec_false z
   rw[if_neg (by lia)]at q
   refine⟨u,_,.ref V,N,rfl,u,_,.ref r,N,rfl,u,_,_,N,rfl,?_⟩
   refine λx f C B R=>⟨x,f,_,_,_,rfl,aB,λD s=>⟨rfl,aO rfl,λt ht=>?_⟩⟩
   have W:Same F D:=by rw[s];exact bN C B
   have I:D x=some (.ins CA.speaks f [("wire",.ref V),("reader",.ref r),("many",.int ((k+1:Nat):Int))]):=by rw[s];exact aB
   clear s
   have T:=aK ht (.tup [.str "",.ref x])
   have a:=W.trans T
   rw[et]at g P
   refine q t _ (Stp.go (os':=λy=>y=x\/y=V\/y=r\/y=j\/y=J) bd dj k1 a aB ⟨rfl,rfl,rfl,rfl,rfl,rfl⟩ ⟨⟨f,V,r,j,J,_,T _ _ I,a _ _ O,g.same a,Z,.inr (.inl rfl),.inr (.inr (.inl rfl)),.inr (.inr (.inr (.inl rfl))),.inr (.inr (.inr (.inr rfl)))⟩,.inl rfl,?_⟩ ?_)
   ·rintro y (rfl | rfl | rfl | rfl | rfl)
    ·rw[T _ _ I];simp
    ·rw[a _ _ O];simp
    ·rw[a _ _ P];simp
    ·obtain⟨d,w⟩:=g.sk;rw[a _ _ w];simp
    ·rw[a _ _ g.kp];simp
   ·rintro y (rfl | rfl | rfl | rfl | rfl)
    ·exact .inr C
    ·exact .inl o0
    ·exact .inl o1
    ·exact .inl o2
    ·exact .inl o3
 |reads h=>rw[en]at tg;cases tg
 |tlS v c=>rw[en]at tg;cases tg
 |tlR n ds v c=>rw[en]at tg;cases tg
 |flag l m=>rw[en]at tg;cases tg
 |settles m=>rw[en]at tg;cases tg
 |rests l=>rw[en]at tg;cases tg
 |off  =>rw[en]at tg;cases tg
variable (Zcd:MB P w K mg base (CX0) 6 Zdv ZfU ["self","bit","post"] (cY CA 3))
include ZcA Zbw Zg Zf Zd Zn Zb Zar ZbN ZaG Zbl ZaV ZaM Zx Zap Zk ZcU Zct ZW ZaD ZbY Zl Zbs in
theorem ZiR (F0:Fun K "step" "InTail.step" Zgc Zdv ZfU):type_of% Zcd:=by
 refine mbK ["self","bit","post","answer"] F0 λH Q nd P h=>?_
 obtain⟨nw,p,D,S,J,L,bt,rfl,tg,bd,st,X,wf,hb,hu,q⟩:=h
 refine⟨_,(aD (bA (i:=3) nd rfl (Or.inl rfl) (sW ZcU.1 P.mo ZcU.2 .nil aJ (aP Zn Zx (dv 0)) (aA (dv 1) aC))) (aD (bK (aY fG (dv 3) bR (aV _)) (aF (aM (cH (aA bR (aA (dv 0) aC))))) aU) (aD (bK (aY fG (dv 3) bR (aV _)) (aF (aM (aN Zl.1 P.mo rfl Zl.2.2.2 Zl.2.2.1 Zl.2.1 .nil aJ (aA (dv 2) (aA (gJ (aP Zn Zx (dv 0))) aC))))) aU) (aD (bK (aY fG (dv 3) bR (aV _)) (aF (aM (aN Zbs.1 P.mo rfl Zbs.2.2.2 Zbs.2.2.1 Zbs.2.1 .nil aJ (aA (dv 2) (aA (gJ (aP Zn Zx (dv 0))) aC))))) aU) (aD (bC (cL Zd ZbN Zct.1 P.mo Zct.2 .nil aJ (aP Zb Zk (dv 2)))) (aD (bK (cT (gJ (aP Zn Zx (dv 0)))) (aD (bC (cL Zb ZaG ZaD.1 P.mo ZaD.2 .nil aJ (dv 2))) (aF (aM (cH (aA bR (aA (cN Zar ZW.1 P.mo rfl ZcA ZW.2 .nil aJ (aA (bD (v:= .int 3) rfl Zbw ⟨_,rfl⟩) aC)) aC)))))) aU) (aD (bC (cD Zb Zbl ZbY.1 P.mo ZbY.2 .nil aJ (dv 2) (aA (aP Zn Zap (dv 0)) aC))) (aF (aM (cH (aA bR (aA (cN Zar ZW.1 P.mo rfl ZcA ZW.2 .nil aJ (aA (bD (v:= .int 3) rfl Zbw ⟨_,rfl⟩) aC)) aC)))))))))))),?_⟩
 obtain⟨sa,on,al⟩:=id st
 cases en:S.now with
 |free k=>rw[en]at tg;cases tg
 |speaks n ds k=>rw[en]at tg;cases tg
 |reads h=>rw[en]at tg;cases tg
 | tlS v c=>
  rw[en]at sa
  obtain⟨B,g,  e,Y,Z⟩:=sa
  obtain⟨C,dt,hC,e0⟩:=id Y
  have hc:=lZ Zg Zf hC
  have hm:=uL ZaV ZaM hC
  rw[jW en]at q
  refine⟨B,_,.ref g,e,rfl,⟨C,dt,_,e0,hc.cls,hm,rfl⟩,g,S.vt,true,v,c,bt,rfl,Y,λH1 F R=>?_⟩
  have a0:nw≠g:=sU "found" e e0 rfl rfl
  have M:=R _ _ a0 e
  have T:=a4H Y R Z
  have f:=qX bd X T
  have o:cV (Or2 J L) H H1:=T.le λx d=> .inr d
  obtain⟨C1,r,a1,j⟩:=id F
  have a:=lZ Zg Zf a1
  have a2:∀x,L x->H1 x≠none:=λx d=>by
   by_cases z:x=g
   ·rw[z,j];simp
   ·cases ex:H x with
    |none=>exact absurd ex (al x d)
    |some u=>rw[R x u z ex];simp
  have hw:=wf.now
  rw[en]at hw
  have a9:S.wt≠ []:=hw
  generalize bJ S.vt true v c bt=an at q ⊢
  conv=>whnf
  refine bQ (λy=>?_) (λy=>?_)
  ·have y1:an="more":=Y2 y
   rw[if_pos y1]at q
   refine⟨aO rfl,λt s=>?_⟩
   have G:=aK s (.tup [.str "",.ref nw])
   refine q t _ (Stp.go (os':=L) bd X T G aB ⟨rfl,rfl,rfl,rfl,rfl,rfl⟩ ⟨⟨B,g,G _ _ M,F.same G,Z⟩,on,λx d=>?_⟩ λx d=> .inl d)
   cases ex:H1 x with
   |none=>exact absurd ex (a2 x d)
   |some u=>rw[G x u ex];simp
  have y1:¬ an="more":=λz=>y (Yq z)
  rw[if_neg y1]at q
  conv=>whnf
  refine bQ (λy=>?_) (λy=>?_)
  ·have y2:an="fault":=Y2 y
   rw[if_pos y2]at q
   exact⟨B,_,.ref g,M,rfl,C1,r,_,_,j,a.cls,a.n2,rfl,p,D,S,J,true,rfl,f,λt H' h=>q t H' (h.stp o f)⟩
  have y2:¬ an="fault":=λz=>y (Yq z)
  rw[if_neg y2]at q
  conv=>whnf
  refine bQ (λy=>?_) (λy=>?_)
  ·have y3:an="refused":=Y2 y
   rw[if_pos y3]at q
   exact⟨B,_,.ref g,M,rfl,C1,r,_,_,j,a.cls,a.n2,rfl,p,D,S,J,true,rfl,f,λt H' h=>q t H' (h.stp o f)⟩
  have y3:¬ an="refused":=λz=>y (Yq z)
  rw[if_neg y3]at q
  obtain⟨dp,ch,wl,ul,N,ws,us,b⟩:=id f
  obtain⟨dc,ec⟩:=id b.et
  refine⟨dp,_,.ref N,b.e,rfl,⟨dc,_,ec,rfl⟩,N,S.tot,rfl,b.et,λH2 c2 U=>?_⟩
  obtain⟨b2,O⟩:=Bd.count b c2 U
  have E:∀x,L x->x≠N:=λx d z=>X N b.ot (z▸d)
  have e2:H2 nw=some (.ins CA.intail B [("tail",.ref g),("found",.non)]):=(U _ (E _ on)).trans M
  have a3:=(U _ (E _ Z)).trans j
  generalize hn2:mvd S.tot (-1)=n2 at b2 q
  refine⟨B,_,.ref g,e2,rfl,C1,r,_,_,a3,a.cls,a.n2,rfl,?_⟩
  obtain⟨a4,b0,b4,b5,b6,b7,b9,a5⟩:=id b2
  refine⟨⟨a4,_,a5.e,rfl⟩,p,D,{ S with tot:=n2 },J,rfl,b2,a9,λH3 b3 k3=>?_⟩
  have a6:cV (Or2 J L) H H3:=λx u ex z=>k3 x u (O x u (o x u ex z) (z.imp_left λy w=>y (.inl w))) (z.imp_left λy w=>y (.inl w))
  refine λx A d a7 c0=>⟨x,A,_,rfl,aB,λH4 eH=>⟨rfl,aO rfl,λt' s=>?_⟩⟩
  have g4:Same H3 H4:=by rw[eH];exact bN d a7
  have e4:H4 x=some (.ins CA.rests A [("left",.int ((3:Nat):Int))]):=by rw[eH];exact aB
  clear eH
  have g5:=aK s (.tup [.str "done",.ref x])
  refine q t' _ (Stp.go2 (b3.now rfl rfl rfl rfl rfl rfl) a6 (g4.trans g5) aB (iW (g5 _ _ e4) ⟨A,g5 _ _ e4⟩) (λy hy=>?_) ?_)
  ·have I:y=x:=hy
   rw[I];exact d
  ·exact λy hy=> .inl (.inl hy)
 | tlR n ds v c=>
  rw[en]at sa
  obtain⟨B,g,tf,df,e,Y,c1,a8,Z,o2⟩:=sa
  obtain⟨C,dt,hC,e0⟩:=id Y
  have hc:=lZ Zg Zf hC
  have hm:=uL ZaV ZaM hC
  rw[lH en]at q
  refine⟨B,_,.ref g,e,rfl,⟨C,dt,_,e0,hc.cls,hm,rfl⟩,g,S.vt,false,v,c,bt,rfl,Y,λH1 F R=>?_⟩
  have a0:nw≠g:=sU "found" e e0 rfl rfl
  have M:=R _ _ a0 e
  have T:=a4H Y R Z
  have f:=qX bd X T
  have o:cV (Or2 J L) H H1:=T.le λx d=> .inr d
  obtain⟨C1,r,a1,j⟩:=id F
  have a:=lZ Zg Zf a1
  have V:=T.tup c1
  have c3:df≠g:=λz=>by rw[z,e0]at a8;cases a8
  have W:=R _ _ c3 a8
  have a2:∀x,L x->H1 x≠none:=λx d=>by
   by_cases z:x=g
   ·rw[z,j];simp
   ·cases ex:H x with
    |none=>exact absurd ex (al x d)
    |some u=>rw[R x u z ex];simp
  generalize bJ S.vt false v c bt=an at q ⊢
  conv=>whnf
  refine bQ (λy=>?_) (λy=>?_)
  ·have y1:an="more":=Y2 y
   rw[if_pos y1]at q
   refine⟨aO rfl,λt s=>?_⟩
   have G:=aK s (.tup [.str "",.ref nw])
   refine q t _ (Stp.go (os':=L) bd X T G aB ⟨rfl,rfl,rfl,rfl,rfl,rfl⟩ ⟨⟨B,g,tf,df,G _ _ M,F.same G,G _ _ V,G _ _ W,Z,o2⟩,on,λx d=>?_⟩ λx d=> .inl d)
   cases ex:H1 x with
   |none=>exact absurd ex (a2 x d)
   |some u=>rw[G x u ex];simp
  have y1:¬ an="more":=λz=>y (Yq z)
  rw[if_neg y1]at q
  conv=>whnf
  refine bQ (λy=>?_) (λy=>?_)
  ·have y2:an="fault":=Y2 y
   rw[if_pos y2]at q
   exact⟨B,_,.ref g,M,rfl,C1,r,_,_,j,a.cls,a.n2,rfl,p,D,S,J,false,rfl,f,λt H' h=>q t H' (h.stp o f)⟩
  have y2:¬ an="fault":=λz=>y (Yq z)
  rw[if_neg y2]at q
  conv=>whnf
  refine bQ (λy=>?_) (λy=>?_)
  ·have y3:an="refused":=Y2 y
   rw[if_pos y3]at q
   exact⟨B,_,.ref g,M,rfl,C1,r,_,_,j,a.cls,a.n2,rfl,p,D,S,J,false,rfl,f,λt H' h=>q t H' (h.stp o f)⟩
  have y3:¬ an="refused":=λz=>y (Yq z)
  rw[if_neg y3]at q
  obtain⟨dp,ch,wl,ul,N,ws,us,b⟩:=id f
  obtain⟨dc,ec⟩:=id b.et
  refine⟨dp,_,.ref N,b.e,rfl,⟨dc,_,ec,rfl⟩,N,S.tot,rfl,b.et,λH2 c2 U=>?_⟩
  obtain⟨b2,O⟩:=Bd.count b c2 U
  have E:∀x,L x->x≠N:=λx d z=>X N b.ot (z▸d)
  have e2:H2 nw=some (.ins CA.intail B [("tail",.ref g),("found",.ref tf)]):=(U _ (E _ on)).trans M
  have a3:=(U _ (E _ Z)).trans j
  generalize hn2:mvd S.tot (-1)=n2 at b2 q
  refine⟨B,_,.ref g,e2,rfl,C1,r,_,_,a3,a.cls,a.n2,rfl,?_⟩
  obtain⟨a4,b0,b4,b5,b6,b7,b9,a5⟩:=id b2
  refine⟨⟨a4,_,a5.e,rfl⟩,B,_,.ref tf,e2,rfl,p,D,{ S with tot:=n2 },J,tf,df,n,ds,rfl,b2,O.tup V,(U _ (E _ o2)).trans W,λz=>X df z o2,hu,λH3 b3 k3=>?_⟩
  have a6:cV (Or2 J L) H H3:=λx u ex z=>k3 x u (O x u (o x u ex z) (z.imp_left λy w=>y (.inl w))) (z.imp_left λy w=>y (.inl w))
  refine λx A d a7 c0=>⟨x,A,_,rfl,aB,λH4 eH=>⟨rfl,aO rfl,λt' s=>?_⟩⟩
  have g4:Same H3 H4:=by rw[eH];exact bN d a7
  have e4:H4 x=some (.ins CA.rests A [("left",.int ((3:Nat):Int))]):=by rw[eH];exact aB
  clear eH
  have g5:=aK s (.tup [.str "takes",.ref x])
  refine q t' _ (Stp.go2 (b3.now rfl rfl rfl rfl rfl rfl) a6 (g4.trans g5) aB (iW (g5 _ _ e4) ⟨A,g5 _ _ e4⟩) (λy hy=>?_) ?_)
  ·have I:y=x:=hy
   rw[I];exact d
  ·rintro y (hy | hy)
   ·exact .inl (.inl hy)
   ·have I:y=df:=hy
    rw[I];exact .inl (.inr o2)
 |flag l m=>rw[en]at tg;cases tg
 |settles m=>rw[en]at tg;cases tg
 |rests l=>rw[en]at tg;cases tg
 |off  =>rw[en]at tg;cases tg
variable (ZcR:MB P w K mg base (CX0) 4 Zeg Zhh ["self"] (a8O CA))
include ZK Zi ZB Zn Zq ZP ZU Zb Zb3 Zat ZbH ZbP ZbE Za9 Zbo ZbR Zcl Z3 ZaZ Zcg Zcw Zcc Zbx Zb1 Zcy Zc8 in
theorem Zkj (f:Fun K "says" "Post.says" ZhB Zeg Zhh):type_of% ZcR:=by
 refine mbK ["self"] f λH Q s g h=>?_
 obtain⟨p,S,o,rfl,⟨c,i,j,bd,d,t,wf,l,al⟩,q⟩:=h
 refine⟨_,(aF (aM (zW (R:=λC a=>(C=CA.free/\a=cZ CA 0)\/(C=CA.speaks/\a=cZ CA 1)\/(C=CA.reads/\a=cZ CA 2)\/(C=CA.intail/\a=cZ CA 3)\/(C=CA.flag/\a=cZ CA 4)\/(C=CA.settles/\a=cZ CA 5)\/(C=CA.rests/\a=cZ CA 6)\/(C=CA.off/\a=cZ CA 7)) (k:=3) (by
  rintro C a (⟨rfl,rfl⟩ | ⟨rfl,rfl⟩ | ⟨rfl,rfl⟩ | ⟨rfl,rfl⟩ | ⟨rfl,rfl⟩ | ⟨rfl,rfl⟩ | ⟨rfl,rfl⟩ | ⟨rfl,rfl⟩)
  ·exact⟨_,_,_,ZK,Zat,ZaZ.1.mono (by decide),ZaZ.2⟩
  ·exact⟨_,_,_,Zi,ZbH,Zcg.1.mono (by decide),Zcg.2⟩
  ·exact⟨_,_,_,ZB,ZbP,Zcw.1.mono (by decide),Zcw.2⟩
  ·exact⟨_,_,_,Zn,ZbE,Zcc.1.mono (by decide),Zcc.2⟩
  ·exact⟨_,_,_,Zq,Za9,Zbx.1.mono (by decide),Zbx.2⟩
  ·exact⟨_,_,_,ZP,Zbo,Zb1.1.mono (by decide),Zb1.2⟩
  ·exact⟨_,_,_,ZU,ZbR,Zcy.1.mono (by decide),Zcy.2⟩
  ·exact⟨_,_,_,Zb3,Zcl,Zc8.1.mono (by decide),Zc8.2⟩) g.mo aJ (aP Zb Z3 (dv 0)) (aA (dv 0) aC)))),?_⟩
 obtain⟨m,u,v,w,x,y,z,b⟩:=id bd
 obtain⟨C,n,fs,r,⟨l1,l2,l3⟩,hd⟩:=d.disp
 exact⟨m,_,.ref c,b.e,rfl,C,n,_,_,r,l1,hd (cZ CA),c,p,c,S,i,j,rfl,rfl,bd,d,wf,q⟩
variable (ZcP:MB P w K mg base (CX0) 9 Zee Zhf ["self","bit"] (a8P CA))
include Zax ZI Zs ZK Zi ZB Zn Zq ZP ZU Zb Zb3 Zb6 ZbI ZbQ ZbF Zba Zbp ZbS Zcm Z3 Zc9 Zby Zb2 Zcz ZcN Zcx Zch Zcd in
theorem Zkh (N:Fun K "hear" "Post.hear" Zhz Zee Zhf):type_of% ZcP:=by
 refine mbK ["self","bit","told"] N λH Q O P h=>?_
 obtain⟨p,S,o,j,rfl,⟨l,T,U,bd,J,V,wf,c,al⟩,L,W,q⟩:=h
 refine⟨_,(aD (bA (i:=2) O rfl (Or.inl rfl) (zW (R:=λC a=>(C=CA.free/\a=cY CA 0)\/(C=CA.speaks/\a=cY CA 1)\/(C=CA.reads/\a=cY CA 2)\/(C=CA.intail/\a=cY CA 3)\/(C=CA.flag/\a=cY CA 4)\/(C=CA.settles/\a=cY CA 5)\/(C=CA.rests/\a=cY CA 6)\/(C=CA.off/\a=cY CA 7)) (k:=8) (by
  rintro C a (⟨rfl,rfl⟩ | ⟨rfl,rfl⟩ | ⟨rfl,rfl⟩ | ⟨rfl,rfl⟩ | ⟨rfl,rfl⟩ | ⟨rfl,rfl⟩ | ⟨rfl,rfl⟩ | ⟨rfl,rfl⟩)
  ·exact⟨_,_,_,ZK,Zb6,ZcN.1.mono (by decide),ZcN.2⟩
  ·exact⟨_,_,_,Zi,ZbI,Zch.1.mono (by decide),Zch.2⟩
  ·exact⟨_,_,_,ZB,ZbQ,Zcx.1.mono (by decide),Zcx.2⟩
  ·exact⟨_,_,_,Zn,ZbF,Zcd.1.mono (by decide),Zcd.2⟩
  ·exact⟨_,_,_,Zq,Zba,Zby.1.mono (by decide),Zby.2⟩
  ·exact⟨_,_,_,ZP,Zbp,Zb2.1.mono (by decide),Zb2.2⟩
  ·exact⟨_,_,_,ZU,ZbS,Zcz.1.mono (by decide),Zcz.2⟩
  ·exact⟨_,_,_,Zb3,Zcm,Zc9.1.mono (by decide),Zc9.2⟩) P.mo aJ (aP Zb Z3 (dv 0)) (aA (dv 1) (aA (dv 0) aC)))) (aD (bU Zb Z3 (dv 0) (bL iI (dv 2) aG (λ_ _=>rfl))) (aF (aM (bL iI (dv 2) aG (λ_ _=>rfl)))))),?_⟩
 obtain⟨X,ch,wl,ul,ct,ws,us,b⟩:=id bd
 obtain⟨C,Y,fs,Z,⟨l1,l2,l3⟩,hd⟩:=J.disp
 refine⟨X,_,.ref l,b.e,rfl,C,Y,_,_,Z,l2,hd (cY CA),l,p,l,S,T,U,j,rfl,rfl,bd,J,V,wf,L,W,λt H' hs=>?_⟩
 obtain⟨d,m,n,g,M,s',r,mv⟩:=hs
 obtain⟨f,s,u,B,D,a0,a1,E⟩:=id M
 refine⟨_,_,Vc g,rfl,f,_,E.e,(show 6<1000 by decide),?_⟩
 obtain⟨F,G⟩:=a6T (A:=CA) wf L M s' r E
 have I:upd H' p (.ins CA.post f (pF s (aW S j).2.vt u B D d)) t=some (.tup [.str (aW S j).1,.ref d]):=by rw[aH (λz=>by rw[z,E.e]at g;cases g)];exact g
 exact⟨_,_,Vc I,rfl,q _ (Or2 m n) F ⟨λx v ex z=>G x v (mv.1 x v ex (z.imp_left λy w=>y (c x w))) (z.imp_left λy w=>y (by have w':x=p:=w;rw[w'];exact c p (.inl bd.op))),λx hx=>(mv.2 x hx).imp_left (c x)⟩⟩
variable (ZS:MB P w K mg base (CX0) 1 Zde Zfl ["self","post"] (a8I Zp CA ZcF))
include Zab ZaX Zo Zc ZC in
theorem Zim (m:Fun K "post_at" "Rail.post_at" Zfy Zde Zfl):type_of% ZS:=by
 refine mbK ["self","post"] m λH Q q s h=>?_
 obtain⟨r,R,o,w,k,rfl,a,n,e⟩:=h
 refine⟨_,(aD (bK (gO (zR a1D yE aG (dv 1) (aX dW rfl Zo cG (aA (aP Zc ZC (dv 0)) aC)))) (aF fZ) aU) (aF (aM (bL dX (aP Zc ZC (dv 0)) (dv 1) (λ_ _=>rfl))))),?_⟩
 conv=>whnf
 refine bQ (λc=>?_) (λc=>?_)
 ·have b:0<=k:=dec_true c
  refine⟨w.dx,_,.ref w.PL,a.er,rfl,_,.inl (Vb a.ePL),?_⟩
  rw[Ya,a.pl]
  conv=>whnf
  refine bQ (λd=>?_) (λd=>?_)
  ·have f:¬ k<((R.ps.length:Nat):Int):=λz=>by
    have g:(!decide (k<((R.ps.length:Nat):Int)))=true:=d
    rw[Yq z]at g
    cases g
   exact(e (λz=>f z.2) _ (Vd _))
  ·have f:k<((R.ps.length:Nat):Int):=YN λz=>d (by
    show (!decide (k<((R.ps.length:Nat):Int)))=true
    rw[Yu z];rfl)
   obtain⟨i,rfl⟩:=YJ b
   have p:i<w.ps.length:=by rw[a.pl];lia
   have l:w.ps[i]? =some w.ps[i]:=Yb p
   exact⟨w.dx,_,.ref w.PL,a.er,rfl,_,_,Vb a.ePL,eV (j:=i) (by rw[Yl,l];rfl),n i _ rfl l⟩
 ·have b:¬ 0<=k:=dec_false c
  exact(e (λz=>b z.1) _ (Vd _))
variable (ZcT:MB P w K mg base (CX0) 9 Zei Zhj ["self","choices","votes"] (a8K Zp CA ZcF))
include ZcX Zab ZaX Zd3 Zii Zo Zc ZdZ ZC Zac Z9 Zaq Zah Zag ZcQ in
theorem Zkl (F0:Fun K "__init__" "Rail.__init__" ZhD Zei Zhj):type_of% ZcT:=by
 refine mbK ["self","choices","votes"] F0 λH Q nd hr h=>?_
 obtain⟨a,l,cl,v,e,rfl,ea,hC,hl,q1,q2⟩:=h
 refine⟨_,(aD (bK (gO (zR a1D a1D aG (aX dW rfl Zo cG (aA (dv 1) aC)) (bD (v:= .int 5) rfl Zd3 ⟨_,rfl⟩))) (aF fZ) aU) (aD (bU Zc ZC (dv 0) (gA rfl (ix:=[2]) (dN (dv 1)) (λC fp s0 H0 at0=>eG) (λC fp s0 H0 at0=>(cN ZdZ ZcQ.1 hr.mo rfl Zii ZcQ.2 .nil aJ (aA (dv 0) (aA (dv 1) aC)))) rfl rfl (by rfl) (show ([".0","choice","votes"]:List Str).Nodup by decide +kernel))) (aD (bU Zc Zac (dv 0) a9N) (aD (bU Zc Z9 (dv 0) (fW aC)) (aD (bU Zc Zaq (dv 0) (gA rfl (ix:=[]) (dN (dv 1)) (λC fp s0 H0 at0=>eG) (λC fp s0 H0 at0=>(fW aC)) rfl rfl (by rfl) (show ([".0","choice"]:List Str).Nodup by decide +kernel))) (aD (bU Zc Zah (dv 0) (gA rfl (ix:=[]) (dN (dv 1)) (λC fp s0 H0 at0=>eG) (λC fp s0 H0 at0=>(fW aC)) rfl rfl (by rfl) (show ([".0","choice"]:List Str).Nodup by decide +kernel))) (aF (bU Zc Zag (dv 0) (fW aC))))))))),?_⟩
 obtain⟨ts,n,tl,tt⟩:=hC
 have r:cl≠a:=λz=>by rw[z,ea]at n;cases n
 have a7:∀(i:Nat)(t:Addr)(m:Int×Int),ts[i]? =some t->e[i]? =some m->t≠a:=λi t m h1 h2 z=>by have:=tt i t m h1 h2;rw[z,ea]at this;cases this
 refine⟨_,.inl (Vb n),?_⟩
 rw[Ya,tl]
 conv=>whnf
 refine bQ (λc=>?_) (λc=>?_)
 rotate_left
 ·have c1:¬ (1:Int)<=((e.length:Nat):Int):=dec_false c
  exact(q2 (λz=>c1 (by have:=z.1.1;lia)) _ λx u _ h=>h)
 have c1:(1:Int)<=((e.length:Nat):Int):=dec_true c
 conv=>whnf
 refine bQ (λd=>?_) (λd=>?_)
 ·have d1:¬ ((e.length:Nat):Int)<=5:=λz=>by
   have d2:(!decide (((e.length:Nat):Int)<=5))=true:=d
   rw[Yq z]at d2
   cases d2
  exact(q2 (λz=>d1 (by have:=z.1.2;lia)) _ λx u _ h=>h)
 have d1:((e.length:Nat):Int)<=5:=YN λz=>d (by
  show (!decide (((e.length:Nat):Int)<=5))=true
  rw[Yu z];rfl)
 have l5:e.length<=5:=by lia
 refine⟨⟨_,Vb n⟩,eE (xs:=ts.map V.ref) (λi s y=>∃(g:List Addr)(op:Own),s=g.map V.ref/\g.length=i/\Mk0 CA H a y [(a,.ins Zp l [])] g ((e.take i).map λm=>S0 m.1.toNat m.2.toNat v.toNat) op/\∀m∈e.take i,a7E m.1 m.2 v) ?_ ?_ ?_ ?_ ?_⟩
 ·rintro i s y E ⟨g,op,rfl,w,_⟩
  rw[Ya]at E ⊢
  exact bT (by lia)
 ·exact⟨[],_,rfl,rfl,Mk0.base ea,λm hm=>by simp at hm⟩
 ·rintro i s y E ⟨g,op,rfl,w,mk,_⟩
  exact Vb (mk.kp _ _ r n)
 ·rintro i x s y hx ⟨g,op,rfl,a2,mk,D⟩
  rw[Yl]at hx
  obtain⟨t,ht,rfl⟩:=YH.mp hx
  have O:i<e.length:=by rw[<-tl];exact(Ye.mp ht).1
  have hm:e[i]? =some e[i]:=Yb O
  have et:=mk.kp _ _ (a7 i t _ ht hm) (tt i t _ ht hm)
  have tk:e.take (i+1)=e.take i++[e[i]]:=Yg O
  conv=>whnf
  refine λp dp w P b6=>⟨p,dp,t,_,_,v,rfl,aB,(by rw[aH (aL et w),aH (aL et P)];exact et),λok H5 o hP a8 hk=>⟨rfl,g++[p],Or2 op o,by rw[Yn];rfl,by rw[Yc,a2];rfl,?_,?_⟩,λno H5 hk=>?_⟩
  ·rw[tk,Yn]
   exact mk.post w P hP a8 hk
  ·rw [tk]
   intro m a9
   rcases YO.mp a9 with z | z
   ·exact D m z
   ·rw[Ym]at z
    rw[z];exact ok
  ·refine q2 (λz=>no (z.2 _ (YE O))) H5 λx u hx h=>?_
   have h':=mk.kp x u hx h
   exact hk x u (aL h' w) (by rw[aH (aL h' w),aH (aL h' P)];exact h')
 rintro s H1 ⟨g,op,rfl,a2,mk,D⟩ j b0
 rw[Ya,tl,Yi (Yd _)]at mk D
 have R:=Mk0.ins (L1:=[(a,.ins Zp l [])]) (L2:=[]) (v:= .lst (g.map V.ref)) (by simpa using mk) b0
 refine⟨l,_,R.cs.at_ 0 _ rfl,by decide,?_⟩
 have nI:∀{C d:Addr}{fs:List (Str×V)},¬ isT (.ins C d fs):=λ⟨_,z⟩=>by cases z
 have S:=R.put (v':= .ins Zp l (gD "posts" (.ref j) [])) nI
 generalize upd (upd H1 j _) a _=H2 at S
 intro k b1
 have T:=Mk0.ins (L1:=(a,.ins Zp l [("posts",.ref j)])::(j,.lst (g.map V.ref))::[]) (L2:=[]) (v:= .dK []) S b1
 refine⟨l,_,T.cs.at_ 0 _ rfl,(show 1<1000 by decide),?_⟩
 have U:=T.put (v':= .ins Zp l (gD "owners" (.ref k) [("posts",.ref j)])) nI
 generalize upd (upd H2 k _) a _=H3 at U
 refine⟨aO rfl,λq b2=>?_⟩
 have W:=Mk0.ins (L1:=(a,.ins Zp l [("posts",.ref j),("owners",.ref k)])::(j,.lst (g.map V.ref))::(k,.dK [])::[]) (L2:=[]) (v:= .lst []) U b2
 refine⟨l,_,W.cs.at_ 0 _ rfl,(show 2<1000 by decide),?_⟩
 have X:=W.put (v':= .ins Zp l (gD "borne" (.ref q) [("posts",.ref j),("owners",.ref k)])) nI
 generalize upd (upd H3 q _) a _=H4 at X
 obtain⟨o3,a3⟩:∃o3:HO,o3= .ins Zp l [("posts",.ref j),("owners",.ref k),("borne",.ref q)]:=⟨_,rfl⟩
 have B:Mk0 CA H a H4 ((a,o3)::(j,.lst (g.map V.ref))::(k,.dK [])::(q,.lst [])::[]) g (e.map λm=>S0 m.1.toNat m.2.toNat v.toNat) op:=by rw[a3];exact X
 clear mk R S T U W X
 refine⟨⟨_,Vb (B.kp _ _ r n)⟩,eE (xs:=ts.map V.ref) (λi s y=>∃b:List Addr,s=b.map V.ref/\b.length=i/\Mk0 CA H a y ((a,o3)::(j,.lst (g.map V.ref))::(k,.dK [])::(q,.lst [])::lsC b (List.replicate i [])) g (e.map λm=>S0 m.1.toNat m.2.toNat v.toNat) op) ?_ ?_ ?_ ?_ ?_⟩
 ·rintro i s y E ⟨b,rfl,w,_⟩
  rw[Ya]at E ⊢
  exact bT (by lia)
 ·exact⟨[],rfl,rfl,B⟩
 ·rintro i s y E ⟨b,rfl,w,mk⟩
  exact Vb (mk.kp _ _ r n)
 ·rintro i x s y hx ⟨b,rfl,w,mk⟩
  conv=>whnf
  refine⟨aO rfl,λs1 Y=>⟨b++[s1],by rw[Yn];rfl,by rw[Yc,w];rfl,?_⟩⟩
  rw[a0C i w]
  exact Mk0.ins (L1:=(a,o3)::(j,.lst (g.map V.ref))::(k,.dK [])::(q,.lst [])::lsC b (List.replicate i [])) (L2:=[]) (by rw[YD];exact mk) Y
 rintro s H5 ⟨b,rfl,a4,Z⟩ A b3
 rw[Ya,tl]at a4 Z
 have a0:=Mk0.ins (L1:=(a,o3)::(j,.lst (g.map V.ref))::(k,.dK [])::(q,.lst [])::[]) (L2:=lsC b (List.replicate e.length [])) (v:= .lst (b.map V.ref)) Z b3
 subst a3
 refine⟨l,_,a0.cs.at_ 0 _ rfl,(show 3<1000 by decide),?_⟩
 have a1:=a0.put (v':= .ins Zp l (gD "sayings" (.ref A) [("posts",.ref j),("owners",.ref k),("borne",.ref q)])) nI
 generalize upd (upd H5 A _) a _=H6 at a1
 obtain⟨o4,a5⟩:∃o4:HO,o4= .ins Zp l [("posts",.ref j),("owners",.ref k),("borne",.ref q),("sayings",.ref A)]:=⟨_,rfl⟩
 have F:Mk0 CA H a H6 ((a,o4)::(j,.lst (g.map V.ref))::(k,.dK [])::(q,.lst [])::(A,.lst (b.map V.ref))::lsC b (List.replicate e.length [])) g (e.map λm=>S0 m.1.toNat m.2.toNat v.toNat) op:=by rw[a5];exact a1
 clear B Z a0 a1
 refine⟨⟨_,Vb (F.kp _ _ r n)⟩,eE (xs:=ts.map V.ref) (λi s y=>∃f:List Addr,s=f.map V.ref/\f.length=i/\Mk0 CA H a y ((a,o4)::(j,.lst (g.map V.ref))::(k,.dK [])::(q,.lst [])::(A,.lst (b.map V.ref))::(lsC b (List.replicate e.length [])++lsC f (List.replicate i []))) g (e.map λm=>S0 m.1.toNat m.2.toNat v.toNat) op) ?_ ?_ ?_ ?_ ?_⟩
 ·rintro i s y E ⟨f,rfl,w,_⟩
  rw[Ya]at E ⊢
  exact bT (by lia)
 ·exact⟨[],rfl,rfl,by rw[show lsC [] (List.replicate 0 [])= [] from rfl,YD];exact F⟩
 ·rintro i s y E ⟨f,rfl,w,mk⟩
  exact Vb (mk.kp _ _ r n)
 ·rintro i x s y hx ⟨f,rfl,w,mk⟩
  conv=>whnf
  refine⟨aO rfl,λs1 Y=>⟨f++[s1],by rw[Yn];rfl,by rw[Yc,w];rfl,?_⟩⟩
  rw[a0C i w,<-Ys]
  exact Mk0.ins (L1:=(a,o4)::(j,.lst (g.map V.ref))::(k,.dK [])::(q,.lst [])::(A,.lst (b.map V.ref))::(lsC b (List.replicate e.length [])++lsC f (List.replicate i []))) (L2:=[]) (by rw[YD];exact mk) Y
 rintro s H7 ⟨f,rfl,a6,G⟩ HE b4
 rw[Ya,tl]at a6 G
 have I:=Mk0.ins (L1:=(a,o4)::(j,.lst (g.map V.ref))::(k,.dK [])::(q,.lst [])::(A,.lst (b.map V.ref))::[]) (L2:=lsC b (List.replicate e.length [])++lsC f (List.replicate e.length [])) (v:= .lst (f.map V.ref)) G b4
 subst a5
 refine⟨l,_,I.cs.at_ 0 _ rfl,(show 4<1000 by decide),?_⟩
 have J:=I.put (v':= .ins Zp l (gD "hearings" (.ref HE) [("posts",.ref j),("owners",.ref k),("borne",.ref q),("sayings",.ref A)])) nI
 generalize upd (upd H7 HE _) a _=H8 at J
 refine⟨aO rfl,λEV b5=>?_⟩
 have L:=Mk0.ins (L1:=(a,.ins Zp l [("posts",.ref j),("owners",.ref k),("borne",.ref q),("sayings",.ref A),("hearings",.ref HE)])::(j,.lst (g.map V.ref))::(k,.dK [])::(q,.lst [])::(A,.lst (b.map V.ref))::(HE,.lst (f.map V.ref))::[]) (L2:=lsC b (List.replicate e.length [])++lsC f (List.replicate e.length [])) (v:= .lst []) J b5
 refine⟨l,_,L.cs.at_ 0 _ rfl,(show 5<1000 by decide),?_⟩
 have M:=L.put (v':= .ins Zp l (gD "happened" (.ref EV) [("posts",.ref j),("owners",.ref k),("borne",.ref q),("sayings",.ref A),("hearings",.ref HE)])) nI
 generalize upd (upd H8 EV _) a _=H9 at M
 have N:Mk0 CA H a H9 (lY Zp a ⟨l,j,k,q,A,HE,EV,g,b,f, [],op⟩ (R0 e v)) g (R0 e v).ps op:=M
 obtain⟨o,hR,hn⟩:=N.fin a4 a6 l5
 exact q1 ⟨⟨by lia,l5⟩,D⟩ H9 o hR hn N.kp
variable (ZcS:MB P w K mg base (CX0) 9 Zeh Zhi ["self","post","name","data"] (a8L K Zp CA ZcF Zc5 Zka))
include Zs Zab ZaX ZeR Zb Zc ZF Zb7 Zac Zv ZcO ZS in
theorem Zkk (Y:Fun K "hand" "Rail.hand" ZhC Zeh Zhi):type_of% ZcS:=by
 refine mbK ["self","post","name","data","taker"] Y λH Q Z m h=>?_
 obtain⟨r,R,o,w,k,n,a,N,rfl,A,O,P,a0,B,q1,q2,q3⟩:=h
 refine⟨_,(aD (bA (i:=4) Z rfl (Or.inl rfl) (cD Zc ZF ZS.1 m.mo ZS.2 .nil aJ (dv 0) (aA (dv 1) aC))) (aD (bC (aN Zv.1 m.mo rfl Zv.2.2.2 Zv.2.2.1 Zv.2.1 .nil aJ (aA (dv 2) (aA (dv 3) aC)))) (aD (bK (aY a1B (a9O (a4L m) (aP Zc Zac (dv 0)) (dv 2) (dv 1) ⟨rfl,rfl,rfl,rfl⟩) (dv 1) (aV _)) (aF fZ) aU) (aD (a3U (a4L m) (aP Zc Zac (dv 0)) (dv 2) (dv 1) rfl) (aF (bC (cD Zb Zb7 ZcO.1 m.mo ZcO.2 .nil aJ (dv 4) (aA (dv 2) (aA (dv 3) aC))))))))),?_⟩
 refine⟨⟨w.dx,_,A.er,rfl⟩,r,R,o,w,k,rfl,A,λi p e T=>?_,λq s g=>q1 q s g⟩
 subst e
 obtain⟨S,oi,eS,hP,le,U⟩:=A.step T
 have a1:i<R.ps.length:=(Ye.mp eS).1
 refine⟨n,a,N,rfl,O,P,λok s g=>?_,λq s g=>q2 ⟨by lia,by lia⟩ q s g⟩
 obtain⟨j,ej,q4,q5⟩:=q3 i S rfl eS ok
 have f:=A.same g
 refine⟨w.dx,_,.ref w.OW,f.er,rfl,w.OW,rfl,.inl ⟨_,.inl f.eOW⟩,_,.inl ⟨_,.inl n,.inl f.eOW,rfl,rfl⟩,?_⟩
 rw[ej]
 conv=>whnf
 refine bQ (λc=>?_) (λc=>?_)
 ·have C:¬ j=((i:Nat):Int):=λz=>by
   have V:(!decide (j=((i:Nat):Int)))=true:=c
   rw[Yq z]at V
   cases V
  exact(q4 C _ g)
 have C:j=((i:Nat):Int):=YN λz=>c (by
  show (!decide (j=((i:Nat):Int)))=true
  rw[Yu z];rfl)
 refine⟨w.dx,_,.ref w.OW,f.er,rfl,w.OW,_,rfl,.inl ⟨_,.inl n,f.eOW,rfl,bT (by lia),rfl⟩,?_⟩
 obtain⟨t,W⟩:=f.put (k:=2) (R':={ R with ow:=putK R.ow (.inl n) (.int ((i:Nat):Int)) }) (w':=w) rfl c1X rfl rfl rfl rfl rfl rfl rfl rfl f.ev
 have u:=b2T (v:= .dK (putK R.ow (.inl n) (.int ((i:Nat):Int)))) (g.seq O) f.eOW
 generalize upd s w.OW _=H2 at t W u
 obtain⟨X,a2,D,x,a3,l⟩:=t.step T
 have ee:X=S:=Yp (D.symm.trans eS)
 subst ee
 obtain⟨dq,ch,a4,a5,ul,cc,nw,ep⟩:=x.cell
 obtain⟨E,F,G,y⟩:=x.hand
 refine⟨⟨dq,_,ep,rfl⟩,p,E,X,F,n,a,N,rfl,G,u,P,B _ (Yx eS),λ_ I d hd b k=>?_,λq=>absurd ok q⟩
 obtain⟨o3,J,L⟩:=y ok I d hd b k
 obtain⟨o',a6,M,m3⟩:=l I o3 _ L J
 exact q5 C I o' ⟨_,M⟩ ((Mv.of g).trans (W.trans m3))
variable (Zbf:MB P w K mg base (CX0) 12 ZcH ZeO ["self","hearing"] (a8J K Zp CA c1G))
include Zax ZI Zs ZaX ZJ Zo ZfO Zep Zb Zc Zb9 Zb8 ZC Z9 Zaq Zah Zag ZcR ZcP in
theorem Zg8 (F0:Fun K "make_turn" "Rail.make_turn" ZeU ZcH ZeO):type_of% Zbf:=by
 refine mbK ["self","hearing","said","bit","heard","post","own","word"] F0 λH Q nd hr h=>?_
 obtain⟨r,R,o,w,f,B,rfl,v,ne,sz,q⟩:=h
 refine⟨_,(aD (gP (j:=2) nd rfl rfl rfl (ix:=[]) (dN (aP Zc ZC (dv 0))) (λC fp s0 H0 at0=>eG) (λC fp s0 H0 at0=>(cL Zb Zb9 ZcR.1 hr.mo ZcR.2 .nil aJ (dv 0))) rfl rfl (by rfl) (show ([".0","post"]:List Str).Nodup by decide +kernel)) (aD (bA (i:=3) nd rfl (Or.inr rfl) (aX (a7I rfl) rfl ZfO b1W (aA (dv 2) aC))) (aD (gP (j:=4) nd rfl rfl rfl (ix:=[1,0,3]) (dH rfl ZJ (aA (aX dW rfl Zo cG (aA (aP Zc ZC (dv 0)) aC)) aC)) (λC fp s0 H0 at0=>eG) (λC fp s0 H0 at0=>(a9Q (K:=K) a1Z hr.mo (pv 1) (aA (dv 0) (aA (aX (a1C (K:=K)) rfl Zo cG (aA (aP Zc Z9 (dv 2)) aC)) (aA (dv 3) aC))))) rfl rfl (by rfl) (show ([".0","post","hearing","self","bit"]:List Str).Nodup by decide +kernel)) (aD (gF YY rfl (b4P rfl Zep (aA (aP Zc ZC (dv 0)) aC)) (mg2 (b8I rfl (zL (eN (i:=5) nd rfl (Or.inl rfl)) (zL (eN (i:=6) nd rfl (Or.inl rfl)) b4B)))) (aD (bC (dO (bL dX (aP Zc Zaq (dv 0)) (dv 5) (λ_ _=>rfl)) (aA (bL dX (dv 2) (dv 5) (λ_ _=>rfl)) aC))) (aD (bC (dO (bL dX (aP Zc Zah (dv 0)) (dv 5) (λ_ _=>rfl)) (aA (bL dX (dv 4) (dv 5) (λ_ _=>rfl)) aC))) (aD (bA (i:=7) nd rfl (Or.inl rfl) (cD Zb Zb8 ZcP.1 hr.mo ZcP.2 .nil aJ (dv 6) (aA (bL dX (dv 4) (dv 5) (λ_ _=>rfl)) aC))) (aF (bK (aY a1B (dv 7) bR (aV _)) (aF (bC (dO (aP Zc Zag (dv 0)) (aA (cH (aA (aX dW rfl Zo cG (aA (aP Zc Z9 (dv 0)) aC)) (aA (dv 5) (aA (dv 7) aC)))) aC)))) aU)))))) (aD (bC (dO (aP Zc Z9 (dv 0)) (aA (dv 3) aC))) (aF (aM (dv 3)))))))),?_⟩
 refine⟨w.dx,_,.ref w.PL,v.er,rfl,⟨_,Vb v.ePL⟩,eE (xs:=w.ps.map V.ref) (λi N l=>Same H l/\N=((R.ps.take i).map bI).map V.int) ?_ ?_ ?_ ?_ ?_⟩
 ·rintro i N l P ⟨g,rfl⟩
  rw[Ya,Ya,Yj]
  have:=v.lp
  exact bT (by lia)
 ·exact⟨Vd _,rfl⟩
 ·rintro i N l P ⟨g,rfl⟩
  exact Vb (g _ _ v.ePL)
 ·rintro i x N l hx ⟨g,rfl⟩
  rw[Yl]at hx
  obtain⟨p,hp,rfl⟩:=YH.mp hx
  obtain⟨S,oi,eS,hP,_⟩:=(v.same g).step hp
  obtain⟨dq,ch,c4,c5,ul,cc,nw,ep⟩:=hP.cell
  obtain⟨D,T⟩:=Ye.mp eS
  have tk:R.ps.take (i+1)=R.ps.take i++[S]:=by rw[Yg D,T]
  conv=>whnf
  refine⟨⟨dq,_,ep,rfl⟩,p,S,oi,rfl,hP,g,?_⟩
  rw[tk,Yn,Yn]
  rfl
 rintro N H1 ⟨g1,rfl⟩ U W
 rw[Ya,v.pl,Yi (Yd _)]
 generalize eU:upd H1 U _=H2
 have g2:=nS W eU
 have a2:=nE eU
 clear eU
 refine⟨_,Vb a2,λz=>ne (by simpa using z),λb bm bl=>?_⟩
 obtain⟨hh,c6,q⟩:=q b ⟨bm,bl⟩
 have I:=v.same (g1.trans g2)
 have lp:=v.lp
 refine⟨w.dx,_,.ref w.PL,I.er,rfl,_,.inl (Vb I.ePL),?_⟩
 rw[Ya,I.pl]
 refine⟨⟨by lia,by lia⟩,?_⟩
 rw[YR]
 refine fM (lo:=0) (n:=R.ps.length) (λi N l=>Same H2 l/\N=((List.range i).map (B b)).map V.int) ?_ ?_ ?_ ?_
 ·rintro i N l P ⟨g,rfl⟩
  rw[Ya,Ya,YZ]
  exact bT (by lia)
 ·exact⟨Vd _,rfl⟩
 ·rintro i N l P ⟨g,rfl⟩
  have s:=I.same g
  obtain⟨f1,f2⟩:=hh i P l ((g1.trans g2).trans g)
  conv=>whnf
  rw[XE]
  refine⟨f,rfl,f1,w.dx,_,.ref w.BO,s.er,rfl,_,.inl (Vb s.eBO),f1,?_⟩
  rw[Ya]
  refine f2 _ λH4 g4=>⟨g.trans g4,?_⟩
  rw[XT,Yn,Yn]
  rfl
 rintro N H3 ⟨g3,rfl⟩ hd J
 have a3:=g3 _ _ a2
 have s:=(I.same g3).same (aK J (.lst (((List.range R.ps.length).map (B b)).map V.int)))
 have L:=aK J (.lst (((List.range R.ps.length).map (B b)).map V.int)) _ _ a3
 have O:=aB (H:=H3) (a:=hd) (o:= .lst (((List.range R.ps.length).map (B b)).map V.int))
 have gs:Same H (upd H3 hd (.lst (((List.range R.ps.length).map (B b)).map V.int))):=((g1.trans g2).trans g3).trans (aK J _)
 have a4:¬ o U:=λz=>by
  have:=v.al U z
  cases e:H U with
  |none=>exact this e
  |some u=>rw[g1 _ _ e]at W;cases W
 have a5:¬ o hd:=λz=>by
  have:=v.al hd z
  cases e:H hd with
  |none=>exact this e
  |some u=>rw[g3 _ _ ((g1.trans g2) _ _ e)]at J;cases J
 generalize upd H3 hd _=H4 at s L O gs
 obtain⟨d,a6⟩:∃d,d=(List.range R.ps.length).map (B b):=⟨_,rfl⟩
 rw[<-a6]at O q
 have a7:∀i,i<R.ps.length->d[i]? =some (B b i):=λi P=>by rw[a6,Yl,X5 P];rfl
 refine⟨w.dx,_,.ref w.PL,s.er,rfl,⟨_,Vb s.ePL⟩,b1A (xs:=w.ps.map V.ref) (a:=w.PL) (λi σ l=>∃(o' op:Own)(evs:List V)(x5 x6 x7:Option V),σ= [some (.ref r),some (.ref f),some (.ref U),some (.int b),some (.ref hd),x5,x6,x7]/\cU Zp CA l r (bB R d i) o' { w with op:=op,evs:=evs }/\Mv o H4 o' l) ⟨o,w.op,w.evs,_,_,_,rfl,s,Mv.refl⟩ ?_ ?_ ?_⟩
 ·rintro i σ l P ⟨o',op,evs,x5,x6,x7,rfl,Z,m⟩
  exact Vb Z.ePL
 ·rintro i x σ l pr hx ⟨o',op,evs,x5,x6,x7,rfl,Z,m⟩ a8
  rw[Yl]at hx
  obtain⟨p,hp,rfl⟩:=YH.mp hx
  have D:i<R.ps.length:=by rw[<-v.pl];exact(Ye.mp hp).1
  obtain⟨h1,h2,h3,h4,h5,h6,h7⟩:=jY R d i
  obtain⟨c7,a9,b0⟩:=h6 i (Yd _)
  have d6:=v.l2
  have d7:=v.l4
  have eS:R.ps[i]? =some R.ps[i]:=Yb D
  have eX:R.sa[i]? =some (R.sa[i]'(by lia)):=Yb (by lia)
  have eY:R.he[i]? =some (R.he[i]'(by lia)):=Yb (by lia)
  have zX:=sz.sa _ (YE (show i<R.sa.length by lia))
  have zY:=sz.he _ (YE (show i<R.he.length by lia))
  have zU:=sz.up _ (YE D)
  have zE:=sz.ev
  have zB:=sz.bo
  have A:=jX eS (a7 i D) eX eY
  generalize R.ps[i]=S at eS A zU
  generalize R.sa[i]'(by lia)=X at eX A zX
  generalize R.he[i]'(by lia)=Y at eY A zY
  have E:=Z.same (aK a8 (.tup [.int ((i:Nat):Int),.ref p]))
  have mp:=m.trans (Mv.of (aK a8 (.tup [.int ((i:Nat):Int),.ref p])))
  refine⟨_,_,Vc aB,?_⟩
  generalize upd l pr _=H5 at E mp
  obtain⟨a1,b2,c8⟩:=E.sa_at (a9.trans eX)
  have b3:=E.cs.at_ _ _ c8
  have ks:∀{o1:Own}{H1:Hp},Mv o H4 o1 H1->¬ o1 U/\¬ o1 hd/\H1 U=some (.lst ((R.ps.map bI).map V.int))/\H1 hd=some (.lst (d.map V.int)):=λmm=>⟨λz=>(mm.2 _ z).elim a4 λy=>(by rw[L]at y;cases y),λz=>(mm.2 _ z).elim a5 λy=>(by rw[O]at y;cases y),mm.1 _ _ L (.inl a4),mm.1 _ _ O (.inl a5)⟩
  have c9:atI ((R.ps.map bI).map V.int) ((i:Nat):Int)=some (.int (bI S)):=eV (by rw[Yl,Yl,eS];rfl)
  have b4:atI (d.map V.int) ((i:Nat):Int)=some (.int (B b i)):=eV (by rw[Yl,a7 i D];rfl)
  refine⟨w.dx,_,.ref w.SA,E.er,rfl,_,.ref a1,Vb E.eSA,eV (by rw[Yl,b2];rfl),⟨_,Vb b3⟩,_,_,Vb (ks mp).2.2.1,c9,_,b3,bT (by rw[Ya];lia),?_⟩
  obtain⟨k,m6⟩:=E.say (b:=bI S) (a9.trans eX) b2
  have mq:=mp.trans m6
  generalize upd H5 a1 _=H6 at k m6 mq
  obtain⟨b1,b5,d0⟩:=k.he_at (i:=i) (xs:=Y) (b0.trans eY)
  have b6:=k.cs.at_ _ _ d0
  refine⟨w.dx,_,.ref w.HE,k.er,rfl,_,.ref b1,Vb k.eHE,eV (by rw[Yl,b5];rfl),⟨_,Vb b6⟩,_,_,Vb (ks mq).2.2.2,b4,_,b6,bT (by rw[Ya];lia),?_⟩
  obtain⟨b7,m7⟩:=k.hrd (i:=i) (xs:=Y) (b:=B b i) (b0.trans eY) b5
  have mr:=mq.trans m7
  generalize upd H6 b1 _=H7 at b7 m7 mr
  obtain⟨S',oi,T,hP,_,b9⟩:=b7.step hp
  have es:S'=S:=Yp (T.symm.trans (c7.trans eS))
  subst es
  obtain⟨dq,ch,c4,c5,ul,cc,nw,ep⟩:=hP.cell
  refine⟨⟨dq,_,ep,rfl⟩,_,_,Vb (ks mr).2.2.2,b4,p,S',oi,_,rfl,hP,c6 i,zU,λH8 d1 d2 m8=>?_⟩
  obtain⟨o8,c0,F,d3⟩:=b9 H8 d1 _ m8 d2
  have ms:=mr.trans d3
  have eR:bB R d (i+1)={ ({ bB R d i with ps:=(bB R d i).ps.set i (aW S' (B b i)).2,sa:=(bB R d i).sa.set i (X++[bI S']),he:=(bB R d i).he.set i (Y++[B b i]) }:RS) with ev:=(bB R d i).ev++evt R.bo.length i (aW S' (B b i)).1 }:=A
  obtain⟨G,d4⟩:∃G,G=(aW S' (B b i)).1:=⟨_,rfl⟩
  rw[<-d4]at eR ⊢
  conv=>whnf
  refine bQ (λc=>?_) (λc=>?_)
  ·have c1:G≠"":=λz=>by
    have c2:(!decide (G=""))=true:=c
    rw[Yq z]at c2
    cases c2
   refine⟨w.dx,_,.ref w.EV,F.er,rfl,⟨_,Vb F.eEV⟩,w.dx,_,.ref w.BO,F.er,rfl,_,.inl (Vb F.eBO),?_⟩
   refine⟨aO rfl,λt ht=>?_⟩
   have a0:=F.same (aK ht (.tup [.int ((((bB R d i).bo.map V.int).length:Nat):Int),.int ((i:Nat):Int),.str G]))
   have mt:=ms.trans (Mv.of (aK ht (.tup [.int ((((bB R d i).bo.map V.int).length:Nat):Int),.int ((i:Nat):Int),.str G])))
   have et:=aB (H:=H8) (a:=t) (o:= .tup [.int ((((bB R d i).bo.map V.int).length:Nat):Int),.int ((i:Nat):Int),.str G])
   refine⟨_,a0.eEV,c3Y (by have:=a0.ev.len;have d8:evs.length=(bB R d i).ev.length:=this;show evs.length<=9000;lia),?_⟩
   rw[Ya,h1]at et
   obtain⟨c3,d5⟩:=a0.happen (e:=(R.bo.length,i,G)) (by rw[Ya,h1];exact et)
   refine⟨o8,c0,evs++[.ref t],_,_,_,rfl,?_,mt.trans d5⟩
   rw[eR,show evt R.bo.length i G= [(R.bo.length,i,G)] from if_neg c1]
   exact c3
  ·have c1:G="":=YN λz=>c (by
    show (!decide (G=""))=true
    rw[Yu z];rfl)
   refine⟨o8,c0,evs,_,_,_,rfl,?_,ms⟩
   rw[eR,show evt R.bo.length i G= [] from if_pos c1,YD]
   exact F
 rintro σ H5 ⟨o5,op,evs,x5,x6,x7,rfl,M,m5⟩
 rw[Ya,v.pl]at M
 have zB:=sz.bo
 obtain⟨h1,_⟩:=jY R d R.ps.length
 refine⟨w.dx,_,.ref w.BO,M.er,rfl,⟨_,Vb M.eBO⟩,_,M.eBO,bT (by rw[Ya,h1];lia),?_⟩
 obtain⟨k,m6⟩:=M.bear (b:=b)
 refine q _ o5 ⟨{ w with op:=op,evs:=evs },?_⟩ ((Mv.of gs).trans (m5.trans m6))
 have eT:oA R d b={ bB R d R.ps.length with bo:=(bB R d R.ps.length).bo++[b] }:=by unfold oA;rw[h1]
 rw[eT]
 exact k
variable (Zbk:MB P w K mg base (CX0) 13 ZeE Zie ["self","turns","hearing"] (a5P K Zp CA))
include ZaX ZJ Zc Za4 Zbf in
theorem Zk3 (y:Fun K "run" "Rail.run" Ziy ZeE Zie):type_of% Zbk:=by
 refine mbK ["self","turns","hearing","asked"] y λH Q A B h=>?_
 obtain⟨r,R,o,w,n,f,c,rfl,D,ne,W,sz,E,q⟩:=h
 refine⟨_,(aD (bA (i:=3) A rfl (Or.inr rfl) (cR (fJ (aY c0W (dv 2) wQ (aV _)) b4D (dv 2)))) (aF (aM (gA rfl (ix:=[0,3]) (dH rfl ZJ (aA (dv 1) aC)) (λC F G I at0=>eG) (λC F G I at0=>(cD Zc Za4 Zbf.1 B.mo Zbf.2 .nil aJ (dv 1) (aA (dv 2) aC))) rfl rfl (by rfl) (show ([".0","turn","self","asked"]:List Str).Nodup by decide +kernel))))),?_⟩
 refine⟨λv d=>v= .ref f/\H=d,?_,?_⟩
 ·conv=>whnf
  exact⟨rfl,rfl⟩
 rintro v X ⟨rfl,rfl⟩
 refine⟨⟨by lia,by lia⟩,?_⟩
 rw[YR]
 refine fM (lo:=0) (n:=n) (λi m d=>∃e,mR Zp CA d r (dD c R i) e/\Mv o H e d/\m=((List.range i).map λk=>a0V (dD c R k)).map V.int) ?_ ?_ ?_ ?_
 ·rintro i m d J ⟨e,_,_,rfl⟩
  rw[Ya,Ya,YZ]
  exact bT (by lia)
 ·exact⟨o,⟨w,D⟩,Mv.refl,rfl⟩
 ·rintro i m d J ⟨e,⟨s,a⟩,mv,rfl⟩
  conv=>whnf
  have t:=oF c R i
  refine⟨⟨s.dx,_,a.er,rfl⟩,r,dD c R i,e,s,f,λb j=>a0P c j (R.bo.length+i) b,rfl,a,λz=>ne (XI.mp (by rw[<-t,z];rfl)),sz i (by lia),λb u=>?_⟩
  have L:b=a0V (dD c R i):=a6N (λz M=>a.says54 M) u
  subst L
  rw[t,wL]
  refine⟨λj Y N O=>?_,λj=>?_,λx P p S=>?_⟩
  ·have g:qH N f c:=(E.moved mv).same O
   exact⟨g.fnE,λZ k=>⟨_,_,_,c,rfl,g,λx T=>k x T⟩⟩
  ·exact b5E (a.says54 u.1)
  ·refine⟨P,p,mv.trans S,?_⟩
   rw[XT,Yn,Yn]
   rfl
 rintro m d ⟨e,a,mv,rfl⟩ l U
 exact q l d e a mv U
variable (Zdb:MB P w K mg base (CX0) 9 ZeD Zid ["self","post"] (a8W Zp CA ZcF c4S))
include Zab ZaX Zb Zc ZF Zcn Zda ZS in
theorem Zk2 (f:Fun K "got" "Rail.got" Zix ZeD Zid):type_of% Zdb:=by
 refine mbK ["self","post"] f λH Q z c h=>?_
 obtain⟨r,R,o,w,k,rfl,a,g,j⟩:=h
 refine⟨_,(aF (aM (cL Zb Zcn Zda.1 c.mo Zda.2 .nil aJ (cD Zc ZF ZS.1 c.mo ZS.2 .nil aJ (dv 0) (aA (dv 1) aC))))),?_⟩
 refine⟨⟨w.dx,_,a.er,rfl⟩,r,R,o,w,k,rfl,a,λi p e l=>?_,λm n s=>j m n s⟩
 obtain⟨S,A,eS,d,_⟩:=a.step l
 have q:=g i S e eS
 obtain⟨t,B,u,v,C,cc,D,x⟩:=d.cell
 obtain⟨b,y,bd⟩:=d.bd
 exact⟨⟨t,_,x,rfl⟩,p,b,S,y,rfl,bd,q⟩
variable (ZaK:MB P w K mg base (CX0) 9 ZdO ZgB ["self","post"] (a8W Zp CA ZcF b9R))
include Zab ZaX Zb Zc ZF ZbO Zcv ZS in
theorem ZjD (f:Fun K "waits" "Rail.waits" ZgR ZdO ZgB):type_of% ZaK:=by
 refine mbK ["self","post"] f λH Q z c h=>?_
 obtain⟨r,R,o,w,k,rfl,a,g,j⟩:=h
 refine⟨_,(aF (aM (cL Zb ZbO Zcv.1 c.mo Zcv.2 .nil aJ (cD Zc ZF ZS.1 c.mo ZS.2 .nil aJ (dv 0) (aA (dv 1) aC))))),?_⟩
 refine⟨⟨w.dx,_,a.er,rfl⟩,r,R,o,w,k,rfl,a,λi p e l=>?_,λm n s=>j m n s⟩
 obtain⟨S,A,eS,d,_⟩:=a.step l
 have q:=g i S e eS
 obtain⟨t,B,u,v,C,cc,D,x⟩:=d.cell
 obtain⟨b,y,bd⟩:=d.bd
 exact⟨⟨t,_,x,rfl⟩,p,b,S,y,rfl,bd,q⟩
variable (Za:FB P w K mg base (CX0) 1 "_law_draw" Zfb Zhn ["_law_script","_law_k","_law_many"] (b7U K))
include Zo in
theorem Zkp (n:GFm K mg "_law_draw" ZhH Zfb Zhn):type_of% Za:=by
 refine fbK ["_law_script","_law_k","_law_many","_law_cell","_law_seed"] n λH Q e s h=>?_
 obtain⟨a,ns,k,m,rfl,d,o,f,p,g,q⟩:=h
 refine⟨_,(aD (bA (i:=3) e rfl (Or.inl rfl) (cR (fJ (aY tX (aX dW rfl Zo cG (aA (dv 0) aC)) aG (aV _)) (bL dX (dv 0) (aR rE (dv 1) (aX dW rfl Zo cG (aA (dv 0) aC))) (λ_ _=>rfl)) aG))) (aD (bA (i:=4) e rfl (Or.inl rfl) (aR cC (aR cC (aR rE (dv 3) aG) (aR jQ (aR jQ aG (dv 1)) (dv 1))) aG)) (aF (aM (aR rE (aR rE (aR jQ (aR rE (aR jQ (dv 4) aG) aG) aG) aG) (dv 2)))))),?_⟩
 refine⟨λx j=>(∃v,x= .int v)/\j=H,?_,?_⟩
 ·have b:(ns.map V.int).length=ns.length:=Ya _
  refine⟨_,.inl d,?_⟩
  conv=>whnf
  refine bQ (λc=>?_) (λc=>⟨⟨_,rfl⟩,rfl⟩)
  have l:(0:Int)<(((ns.map V.int).length:Nat):Int):=dec_true c
  obtain⟨v,r⟩:=c0M (ns:=ns) (k:=k) (by rw[b]at l;lia)
  exact⟨_,.inl d,l,_,_,d,r,⟨v,rfl⟩,rfl⟩
 rintro x j ⟨⟨v,rfl⟩,rfl⟩
 have t:31*k*k<=31*100000*100000:=Int.mul_le_mul (by lia) p f (by decide)
 have u:0<=31*k*k:=Int.mul_nonneg (by lia) f
 refine⟨(by show (0:Int)<_;decide),⟨jE (by decide) (by decide),jE (by lia) (by lia)⟩,⟨jE (by lia) (by lia),jE (by lia) (by lia)⟩,?_⟩
 have w:0<=v % 1000003:=Int.emod_nonneg _ (by decide)
 have y:v % 1000003<1000003:=Jz _ (by decide)
 refine⟨⟨jE (by lia) (by lia),jE (by decide) (by decide)⟩,(by show (0:Int)<_;decide),?_⟩
 have z:0<=(v % 1000003+31*k*k+1)*48271 % 999983:=Int.emod_nonneg _ (by decide)
 have A:(v % 1000003+31*k*k+1)*48271 % 999983<999983:=Jz _ (by decide)
 refine⟨⟨jE (by lia) (by lia),jE (by decide) (by decide)⟩,(by show (0:Int)<_;decide),g,?_⟩
 exact q _ (Int.emod_nonneg _ (by lia)) (Jz _ g)
variable (ZbU:FB P w K mg base (CX0) 2 "_law_size" Zfd Zhp ["_law_name","_law_data"] (a8G K))
include ZJ Zo ZfP in
theorem Zkr (F0:GFm K mg "_law_size" ZhJ Zfd Zhp):type_of% ZbU:=by
 refine fbK ["_law_name","_law_data","_law_number","_law_byte","_law_rest","_law_k","_law_whole","_law_wire"] F0 λH Q v hr h=>?_
 obtain⟨d,n,ds,rfl,Z,hn,J,L,q⟩:=h
 refine⟨_,(aD (bA (i:=2) v rfl (Or.inl rfl) (aR cC (aR jQ (dv 0) aG) (aX dW rfl Zo cG (aA (dv 1) aC)))) (aD (gF YY rfl (dN (dv 1)) (eN (i:=3) v rfl (Or.inl rfl)) (aF (bA (i:=2) v rfl (Or.inl rfl) (aR cC (aR jQ (dv 2) aG) (dv 3))))) (aD (bA (i:=4) v rfl (Or.inl rfl) (aR jQ (dv 2) aG)) (aD (gF YY rfl (uY rfl ZJ (aA aG (aA aG (aA (a3W a3D aG) aC)))) (eN (i:=5) v rfl (Or.inl rfl)) (aF (jT (bK (aY fG (aR uH (aR a3C (dv 4) (dv 5)) aG) aG (aV _)) (aF (bA (i:=4) v rfl (Or.inl rfl) (aR c0S (dv 4) (aR c0T aG (aR lB (dv 5) aG))))) aU)))) (aD (bA (i:=6) v rfl (Or.inl rfl) (aR cC (aR jQ (dv 2) aG) (dv 4))) (aD (bA (i:=7) v rfl (Or.inl rfl) (fW aC)) (aD (gF YY rfl (uY rfl ZJ (aA (aR cC aG (aR jQ aG (aX dW rfl Zo cG (aA (dv 1) aC)))) (aA (a3W a3D aG) (aA (a3W a3D aG) aC)))) (eN (i:=5) v rfl (Or.inl rfl)) (aD (bC (dO (dv 7) (aA (aR uH (aR a3C (dv 6) (dv 5)) aG) aC))) (aF (jT (bK (PW.pt (mK (aY tX (aX dW rfl Zo cG (aA (dv 7) aC)) aG (aV _)) (lQ (aY fG (aR rE (aX (b5V rfl) rfl ZfP b1V (aA (jU uG (dv 7) (iZ (aR lB (aX dW rfl Zo cG (aA (dv 7) aC)) aG)) qQ) aC)) aG) aG (aV _))))) (aF (bC (dO (dv 7) (aA (aR lB aG (bL dX (dv 7) (aR lB (aX dW rfl Zo cG (aA (dv 7) aC)) aG) (λ_ _=>rfl))) aC)))) aU))))) (aF (aM (aX dW rfl Zo cG (aA (dv 7) aC))))))))))),?_⟩
 refine⟨⟨jE (by lia) (by lia),by decide⟩,_,.inl Z,?_⟩
 rw[Ya]
 refine⟨⟨_,Z⟩,jD (xs:=ds.map V.int) (λi r m=>(∃x,r= [some (.int ((n:Nat):Int)),some (.ref d),some (.int ((nm (hdD ((n:Nat):Int) ds.length (ds.take i)):Nat):Int)),x,none,none,none,none])/\m=H) ⟨⟨none,?_⟩,rfl⟩ (λi r m _ z=>z.2▸Z) ?_ ?_⟩
 ·rw[JA,b9D hn (by lia)]
  rfl
 ·rintro i x r m hx ⟨⟨y,rfl⟩,rfl⟩
  obtain⟨O,rfl⟩:=oX hx
  have hb:=Jn.mp L _ (YE O)
  have a0:=gK.mp hb
  have a1:=nJ (oW ((n:Nat):Int) ds.length (ds.take i))
  rw[rA,Yj]at a1
  have h2:2 ^ (12+8*min i ds.length)<=2 ^ 68:=Yz (by decide) (by lia)
  refine⟨⟨tR (n:=68) (by rw[Int.natAbs_natCast];lia),by decide⟩,⟨some (.int ds[i]),?_⟩,rfl⟩
  rw[Yg O,b9C hb]
  have e:((nm (hdD ((n:Nat):Int) ds.length (ds.take i))*256+(ds[i]).toNat:Nat):Int)=((nm (hdD ((n:Nat):Int) ds.length (ds.take i)):Nat):Int)*256+ds[i]:=by
   rw[Int.natCast_add,Int.natCast_mul,Int.toNat_of_nonneg a0.1]
   rfl
  rw[e]
  rfl
 rintro r H1 ⟨⟨x,rfl⟩,rfl⟩
 rw[Ya,Yi (Yd _)]
 have eh:nm (hdD ((n:Nat):Int) ds.length ds)=nm (hd ((n:Nat):Int) ds):=rfl
 rw[eh]
 have hN:=b6M (n:=((n:Nat):Int)) J
 have de:=b9V (n:=((n:Nat):Int)) J
 have fe:=c1Y (n:=((n:Nat):Int)) (ds:=ds)
 have D:∀{i:Nat},i<27+8*ds.length->(fb ((n:Nat):Int) ds)[i]? =some (gG (nm (fb ((n:Nat):Int) ds)) (26+8*ds.length-i)):=λh=>b9T h
 have P:=kY ((n:Nat):Int) ds
 have A:=nD ((n:Nat):Int) ds
 have E:=nJ A
 rw[P]at E
 have a2:2 ^ (27+8*ds.length)<=2 ^ 83:=Yz (by decide) (by lia)
 generalize nm (hd ((n:Nat):Int) ds)=N at hN de fe
 generalize fb ((n:Nat):Int) ds=bs at fe D P A E q
 generalize nm bs=M at fe D E
 refine⟨⟨tR (n:=91) (by rw[Int.natAbs_natCast];lia),by decide⟩,by decide,by decide,76,by decide,by decide,?_⟩
 refine tE (λi r m=>(∃y,r= [some (.int ((n:Nat):Int)),some (.ref d),some (.int ((N:Nat):Int)),x,some (.int ((dvN (N*32768) i:Nat):Int)),y,none,none])/\m=H1) ⟨⟨none,rfl⟩,rfl⟩ ?_ ?_
 ·rintro i r m O ⟨⟨y,rfl⟩,rfl⟩
  obtain⟨d1,d2⟩:=a2S hN i (by lia)
  have ek:(90:Int)+(i:Int)*(-1)=((90-i:Nat):Int):=by lia
  rw[ek]
  have nx:dvN (N*32768) (i+1)=dvS (dvN (N*32768) i) (90-i):=rfl
  generalize dvN (N*32768) i=z at d1 nx
  refine⟨λs C=>s= [some (.int ((n:Nat):Int)),some (.ref d),some (.int ((N:Nat):Int)),x,some (.int ((dvS z (90-i):Nat):Int)),some (.int ((90-i:Nat):Int)),none,none]/\C=m,?_,?_⟩
  ·refine⟨by lia,bQ (λc=>?_) (λc=>?_)⟩
   ·have B:=dec_true c
    rw[tQ]at B
    have R:z.testBit (90-i)=true:=by
     unfold gG at B
     split at B
     ·assumption
     ·exact absurd B (by decide)
    have es:(((90-i:Nat):Int)-15).toNat=90-i-15:=by lia
    have ex:Builtin.bitXor ((z:Nat):Int) (64647*2 ^ (((90-i:Nat):Int)-15).toNat)=((dvS z (90-i):Nat):Int):=by
     rw[es,show (64647:Int)*2 ^ (90-i-15)=((64647*2 ^ (90-i-15):Nat):Int) from by rw[Int.natCast_mul,Int.natCast_pow];rfl,bxor]
     unfold dvS
     rw[if_pos R,Xq]
    refine⟨⟨by lia,by lia,by decide⟩,?_,rfl⟩
    rw[<-ex]
    rfl
   ·have B:=dec_false c
    rw[tQ]at B
    have R:¬ z.testBit (90-i)=true:=λt=>B (by unfold gG;rw[if_pos t])
    refine⟨?_,rfl⟩
    unfold dvS
    rw[if_neg R]
    rfl
  rintro s C ⟨rfl,rfl⟩
  exact⟨⟨_,by rw[nx]⟩,rfl⟩
 rintro r C ⟨⟨y,rfl⟩,rfl⟩
 rw[de]
 generalize ckn (hd ((n:Nat):Int) ds)=cc at fe
 have hM:((N:Nat):Int)*32768+((cc:Nat):Int)=((M:Nat):Int):=by lia
 refine⟨⟨tR (n:=91) (by rw[Int.natAbs_natCast];lia),by decide⟩,aO rfl,λp hp=>?_⟩
 have g0:=aK hp (.lst [])
 have e0:=aB (H:=C) (a:=p) (o:= .lst [])
 generalize upd C p (.lst [])=H3 at g0 e0
 refine⟨_,.inl (g0.seq Z),?_⟩
 rw[Ya]
 refine⟨⟨by decide,jE (by lia) (by lia)⟩,by decide,b3K J,27+8*ds.length,a1X J,a5V J,?_⟩
 refine tE (λi r m=>(∃y,r= [some (.int ((n:Nat):Int)),some (.ref d),some (.int ((N:Nat):Int)),x,some (.int ((cc:Nat):Int)),y,some (.int ((M:Nat):Int)),some (.ref p)])/\m p=some (.lst ((put (bs.take i)).map V.int))/\Same C m) ⟨⟨y,by rw[<-hM];rfl⟩,e0,g0⟩ ?_ ?_
 ·rintro i r m O ⟨⟨y,rfl⟩,I,h3⟩
  have pl:=kJ (bs.take i)
  rw[Yj]at pl
  have h4:=oG (bs.take i)
  have pb:=oH (l:=bs.take i) λb h=>A b (Y1 h)
  have F:i<bs.length:=by lia
  have S:=A _ (YE F)
  have T:bs[i]=gG M (26+8*ds.length-i):=by
   have:=D O
   rw[Yb F]at this
   exact Yp this
  generalize zH F=ept
  generalize bs[i]=b at ept S T
  generalize put (bs.take i)=w at I pl h4 pb ept
  have ek:(26:Int)+8*((ds.length:Nat):Int)+(i:Int)*(-1)=((26+8*ds.length-i:Nat):Int):=by lia
  rw[ek]
  have eb:Builtin.bitAnd (((M:Nat):Int) / 2 ^ ((26+8*ds.length-i:Nat):Int).toNat) 1=b:=(tQ _ _).trans T.symm
  generalize 26+8*ds.length-i=kk at eb
  refine⟨⟨_,Vb I⟩,by lia,_,I,bT (by rw[Ya];lia),?_⟩
  have g:upd m p (.lst (w.map V.int++[.int b])) p=some (.lst ((w++[b]).map V.int)):=by rw[aB,Yn];rfl
  have G:Same C (upd m p (.lst (w.map V.int++[.int b]))):=h3.put hp
  rw[show (λi j:Int=>V.int (Builtin.bitAnd i j)) (((M:Nat):Int) / 2 ^ ((kk:Nat):Int).toNat) 1= .int b from YU V.int eb]
  generalize upd m p (.lst (w.map V.int++[.int b]))=H3 at g G
  have wb:bF (w++[b]):=λz hz=>by
   rcases YO.mp hz with h | h
   ·exact pb z h
   ·rw[Ym.mp h];exact S
  have wl:(w++[b]).length=w.length+1:=by rw[Yc,Yw]
  have r5:run (w++[b])<=5:=YS rT (by lia)
  have rl:=a8Z (w++[b])
  refine⟨λs U=>s= [some (.int ((n:Nat):Int)),some (.ref d),some (.int ((N:Nat):Int)),x,some (.int ((cc:Nat):Int)),some (.int ((kk:Nat):Int)),some (.int ((M:Nat):Int)),some (.ref p)]/\U p=some (.lst ((pst w b).map V.int))/\Same C U,?_,?_⟩
  ·have tk:(w++[b]).take (w++[b]).length=w++[b]:=Yi (Yd _)
   refine⟨_,.inl (Vb g),?_⟩
   rw[Ya]
   conv=>whnf
   refine bQ (λc=>?_) (λc=>a0E ?_)
   ·have B:(4:Int)<(((w++[b]).length:Nat):Int):=dec_true c
    refine⟨_,.inl (Vb g),_,Vb g,λp5 W=>?_⟩
    rw[Ya]
    have ec:(((w++[b]).length:Nat):Int)-5=(((w++[b]).length-5:Nat):Int):=by lia
    have X:kZ ((w++[b]).map V.int) (some ((((w++[b]).length:Nat):Int)-5)) none=((w++[b]).drop ((w++[b]).length-5)).map V.int:=by
     rw[ec];exact b1P (by lia)
    refine⟨(w++[b]).drop ((w++[b]).length-5),Vb (by rw[<-X];exact aB),(by show (0:Int)<5;decide),?_⟩
    have sr:=b2R wb (n:=5) (k:=(w++[b]).length) (by decide) (by lia) (Yd _)
    rw[tk,Yi (l:=(w++[b]).drop ((w++[b]).length-5)) (by rw[Xp];lia)]at sr
    have f:upd H3 p5 (.lst (kZ ((w++[b]).map V.int) (some ((((w++[b]).length:Nat):Int)-5)) none)) p=some (.lst ((w++[b]).map V.int)):=by rw[aH (aL g W)];exact g
    have u:=G.trans (aK W (.lst (kZ ((w++[b]).map V.int) (some ((((w++[b]).length:Nat):Int)-5)) none)))
    generalize upd H3 p5 _=H5 at f u
    conv=>whnf
    refine bQ (λc=>?_) (λc=>?_)
    ·have R:5<=run (w++[b]):=sr.mp (dec_true c)
     have Y:pst w b=w++[b]++[1-b]:=by unfold pst;rw[if_pos (by lia)]
     have la:atI ((w++[b]).map V.int) ((((w++[b]).map V.int).length:Nat)-(1:Int))=some (.int b):=by
      rw[Ya,wl,show ((w.length+1:Nat):Int)-1=((w.length:Nat):Int) by lia]
      exact eV (by rw[Yl,Yy (Yd _),X1];rfl)
     refine⟨⟨_,Vb f⟩,_,.inl (Vb f),_,_,Vb f,la,_,f,bT (by rw[Ya];lia),rfl,?_,u.put hp⟩
     rw[aB,Y,Yn (l₁:=w++[b])];rfl
    ·have R:¬ 5<=run (w++[b]):=λz=>dec_false c (sr.mpr z)
     have Y:pst w b=w++[b]:=by unfold pst;rw[if_neg (by lia)]
     rw[Y]
     exact⟨rfl,f,u⟩
   ·have B:¬ (4:Int)<(((w++[b]).length:Nat):Int):=dec_false c
    have Y:pst w b=w++[b]:=by unfold pst;rw[if_neg (by lia)]
    rw[Y]
    exact⟨rfl,g,G⟩
  rintro s U ⟨rfl,k1,k2⟩
  exact⟨⟨_,rfl⟩,by rw[ept];exact k1,k2⟩
 rintro r U ⟨⟨y,rfl⟩,I,h3⟩
 rw[Yi (by lia)]at I
 refine⟨_,.inl (Vb I),?_⟩
 rw[Ya]
 exact q U h3
variable (Za6:FB P w K mg base (CX0) 2 "_law_frames" Zet Zf3 ["_law_script","_law_posts"] (b2Z K))
include ZJ Zo Za in
theorem Zi0 (F0:GFm K mg "_law_frames" Zgl Zet Zf3):type_of% Za6:=by
 refine fbK ["_law_script","_law_posts","_law_frames_here","_law_many","_law_long","_law_k","_law_post","_law_name","_law_other","_law_size_here"] F0 λH Q E L h=>?_
 obtain⟨a,A,m,rfl,hS,r,m1,m5,Qq⟩:=h
 refine⟨_,(aD (bA (i:=2) E rfl (Or.inl rfl) (fW aC)) (aD (bA (i:=3) E rfl (Or.inl rfl) (aR cC aG (aN Za.1 L.mo rfl Za.2.2.2 Za.2.2.1 Za.2.1 .nil aJ (aA (dv 0) (aA aG (aA aG aC)))))) (aD (jT (bK (aY fG (aN Za.1 L.mo rfl Za.2.2.2 Za.2.2.1 Za.2.1 .nil aJ (aA (dv 0) (aA aG (aA aG aC)))) aG (aV _)) (aF (bA (i:=3) E rfl (Or.inl rfl) (aR cC (dv 3) aG))) aU)) (aD (bA (i:=4) E rfl (Or.inl rfl) (gB fG (aN Za.1 L.mo rfl Za.2.2.2 Za.2.2.1 Za.2.1 .nil aJ (aA (dv 0) (aA aG (aA aG aC)))) aG (aV _))) (aD (gF YY rfl (dH rfl ZJ (aA (dv 3) aC)) (eN (i:=5) E rfl (Or.inr rfl)) (aD (bA (i:=6) E rfl (Or.inl rfl) (aN Za.1 L.mo rfl Za.2.2.2 Za.2.2.1 Za.2.1 .nil aJ (aA (dv 0) (aA (aR cC aG (dv 5)) (aA (dv 1) aC))))) (aD (bA (i:=7) E rfl (Or.inl rfl) (aN Za.1 L.mo rfl Za.2.2.2 Za.2.2.1 Za.2.1 .nil aJ (aA (dv 0) (aA (aR cC aG (dv 5)) (aA aG aC))))) (aD (jT (bK (PW.pt (mK (aY yE (dv 5) (aX dW rfl Zo cG (aA (dv 0) aC)) (aV _)) (lQ (aY fG (aN Za.1 L.mo rfl Za.2.2.2 Za.2.2.1 Za.2.1 .nil aJ (aA (dv 0) (aA (aR cC aG (dv 5)) (aA aG aC)))) aG (aV _))))) (aF (bA (i:=7) E rfl (Or.inl rfl) (aR rE (bL dX (dv 0) (dv 5) (λ_ _=>rfl)) aG))) aU)) (aD (gF YY rfl (dN (dv 2)) (eN (i:=8) E rfl (Or.inl rfl)) (aF (bK (aY fG (bL iI (dv 8) aG (λ_ _=>rfl)) (dv 7) (aV _)) (aF (bA (i:=6) E rfl (Or.inl rfl) (bL iI (dv 8) aG (λ_ _=>rfl)))) aU))) (aD (bA (i:=9) E rfl (Or.inl rfl) (aN Za.1 L.mo rfl Za.2.2.2 Za.2.2.1 Za.2.1 .nil aJ (aA (dv 0) (aA (aR cC aG (dv 5)) (aA aG aC))))) (aD (jT (bK (cT (dv 4)) (aF (bA (i:=9) E rfl (Or.inl rfl) (aN Za.1 L.mo rfl Za.2.2.2 Za.2.2.1 Za.2.1 .nil aJ (aA (dv 0) (aA (aR cC aG (dv 5)) (aA aG aC)))))) aU)) (aF (bC (dO (dv 2) (aA (cH (aA (dv 6) (aA (dv 7) (aA (gA rfl (ix:=[0,5]) (dH rfl ZJ (aA (dv 9) aC)) (λC fp s0 H0 at0=>eG) (λC fp s0 H0 at0=>(aN Za.1 L.mo rfl Za.2.2.2 Za.2.2.1 Za.2.1 .nil aJ (aA (dv 1) (aA (aR cC (aR cC aG (aR jQ aG (dv 2))) (dv 0)) (aA aG aC))))) rfl rfl (by rfl) (show ([".0","_law_i","_law_script","_law_k"]:List Str).Nodup by decide +kernel)) aC)))) aC))))))))))) (aF (aM (dv 2)))))))),?_⟩
 refine⟨aO rfl,λl hl=>?_⟩
 generalize eU:upd H l _=H1
 have g1:=nS hl eU
 have el:=nE eU
 clear eU
 have S:=g1.seq hS
 refine⟨a,A,3,3,rfl,S,r,by decide,by decide,by decide,λz z0 z1=>?_⟩
 obtain⟨z,rfl⟩:=YJ z0
 refine⟨λs I=>(∃M:Nat,s= [some (.ref a),some (.int ((m:Nat):Int)),some (.ref l),some (.int ((M:Nat):Int)),none,none,none,none,none,none]/\1<=M/\M<=6)/\I=H1,?_,?_⟩
 ·refine⟨a,A,4,8,rfl,S,r,by decide,by decide,by decide,λw w0 w1=>bQ (λc=>?_) (λc=>?_)⟩
  ·exact⟨⟨1+z+3,rfl,by lia,by lia⟩,rfl⟩
  ·exact⟨⟨1+z,rfl,by lia,by lia⟩,rfl⟩
 rintro s I ⟨⟨M,rfl,a9,b0⟩,rfl⟩
 refine⟨a,A,5,8,rfl,S,r,by decide,by decide,by decide,λlo b1 b2=>?_⟩
 conv=>whnf
 generalize decide (lo=1)=lg
 refine⟨⟨by lia,by lia⟩,?_⟩
 rw[YR]
 refine lJ (lo:=0) (n:=M) (λi s b=>(∃x3 x4 x5 x6 Z,s= [some (.ref a),some (.int ((m:Nat):Int)),some (.ref l),some (.int ((M:Nat):Int)),some (.bl lg),x3,x4,x5,x6,Z])/\Same H b/\(∀x,b x=none->I x=none)/\∃(N:List Addr)(fs:List (Nat×Nat×List Int)),b l=some (.lst (N.map V.ref))/\N.length=fs.length/\fs.length=i/\(∀(j:Nat)(t:Addr)(f:Nat×Nat×List Int),N[j]? =some t->fs[j]? =some f->∃d,I d=none/\b t=some (frT f d)/\b d=some (.lst (f.2.2.map V.int)))/\F92 m fs) ⟨⟨_,_,_,_,_,rfl⟩,g1,λx z=>z, [], [],el,rfl,rfl,λj t f h=>by simp at h,λf B=>(by cases B),λf B=>(by cases B)⟩ ?_ ?_
 ·rintro i s b hi ⟨⟨x3,x4,x5,x6,Z,rfl⟩,g2,nn,N,fs,R,lt,lf,O,D⟩
  rw[XE]
  have v:=g2.seq hS
  refine⟨a,A,_,_,rfl,v,r,(by show 0<=20+((i:Nat):Int);lia),(by show 20+((i:Nat):Int)<=100000;lia),by lia,λp p0 p1=>?_⟩
  obtain⟨p,rfl⟩:=YJ p0
  refine⟨a,A,_,256,rfl,v,r,(by show 0<=30+((i:Nat):Int);lia),(by show 30+((i:Nat):Int)<=100000;lia),by decide,λn n0 n1=>?_⟩
  obtain⟨n,rfl⟩:=YJ n0
  refine⟨λs T=>(∃n:Nat,s= [some (.ref a),some (.int ((m:Nat):Int)),some (.ref l),some (.int ((M:Nat):Int)),some (.bl lg),some (.int ((i:Nat):Int)),some (.int ((p:Nat):Int)),some (.int ((n:Nat):Int)),x6,Z]/\n<256)/\T=b,?_,?_⟩
  ·refine ⟨_,.inl v,bQ (λc=>?_) (λc=>?_)⟩
   ·refine⟨a,A,_,2,rfl,v,r,(by show 0<=40+((i:Nat):Int);lia),(by show 40+((i:Nat):Int)<=100000;lia),by decide,λw w0 w1=>bQ (λc2=>?_) (λc2=>?_)⟩
    ·have a8:i<A.length:=by
      have z:((i:Nat):Int)<(((A.map V.int).length:Nat):Int):=dec_true c
      rw[Ya]at z
      lia
     refine⟨_,.int A[i],v,eV (by rw[Yl,Yb a8];rfl),(by show (0:Int)<256;decide),⟨(A[i] % 256).toNat,?_,by lia⟩,rfl⟩
     rw[show (((A[i] % 256).toNat:Nat):Int)=A[i] % 256 by lia]
     rfl
    ·exact⟨⟨n,rfl,by lia⟩,rfl⟩
   ·exact⟨⟨n,rfl,by lia⟩,rfl⟩
  rintro s T ⟨⟨n,rfl,hn⟩,rfl⟩
  refine⟨⟨_,Vb R⟩,jD (xs:=N.map V.ref) (λj s b=>(∃(q:Nat)(y:Option V),s= [some (.ref a),some (.int ((m:Nat):Int)),some (.ref l),some (.int ((M:Nat):Int)),some (.bl lg),some (.int ((i:Nat):Int)),some (.int (q:Int)),some (.int ((n:Nat):Int)),y,Z]/\q<m/\((∀f∈fs.take j,f.2.1≠n)\/∃f∈fs,f.2.1=n/\q=f.1))/\b=T) ⟨⟨p,_,rfl,by lia,.inl λf B=>(by rw[JA]at B;cases B)⟩,rfl⟩ (λj s I _ z=>z.2▸Vb R) ?_ ?_⟩
  ·rintro j x s b hx ⟨⟨q,y,rfl,hq,P⟩,rfl⟩
   rw[Yl]at hx
   obtain⟨t,ht,rfl⟩:=YH.mp hx
   have hj:j<fs.length:=by rw[<-lt];exact(Ye.mp ht).1
   obtain⟨f,ef⟩:∃f,fs[j]? =some f:=⟨_,Yb hj⟩
   obtain⟨d,_,X,_⟩:=O j t f ht ef
   have fm:=Yx ef
   have tk:fs.take (j+1)=fs.take j++[f]:=by rw[Yg hj,Yp ((Yb hj).symm.trans ef)]
   refine⟨_,_,Vc X,rfl,bQ (λc=>?_) (λc=>?_)⟩
   ·have c1:f.2.1=n:=by have z:((f.2.1:Nat):Int)=((n:Nat):Int):=dec_true c;lia
    exact⟨_,_,Vc X,rfl,⟨f.1,_,rfl,(D.ok f fm).1,.inr ⟨f,fm,c1,rfl⟩⟩,rfl⟩
   ·have c1:¬ f.2.1=n:=λw=>dec_false c (by rw[w])
    refine⟨⟨q,_,rfl,hq,P.imp (λw g Y=>?_) id⟩,rfl⟩
    rw[tk]at Y
    rcases YO.mp Y with z | z
    ·exact w g z
    ·rw[Ym.mp z];exact c1
  rintro s b ⟨⟨q,y,rfl,hq,P⟩,rfl⟩
  rw[Ya,Yi (by lia)]at P
  refine⟨a,A,_,2,rfl,v,r,(by show 0<=50+((i:Nat):Int);lia),(by show 50+((i:Nat):Int)<=100000;lia),by decide,λu u0 u1=>?_⟩
  obtain⟨u,rfl⟩:=YJ u0
  refine⟨λs T=>(∃u:Nat,s= [some (.ref a),some (.int ((m:Nat):Int)),some (.ref l),some (.int ((M:Nat):Int)),some (.bl lg),some (.int ((i:Nat):Int)),some (.int (q:Int)),some (.int ((n:Nat):Int)),y,some (.int ((u:Nat):Int))]/\u<8)/\T=b,?_,?_⟩
  ·cases lg
   ·exact⟨⟨u,rfl,by lia⟩,rfl⟩
   ·refine⟨a,A,_,8,rfl,v,r,(by show 0<=60+((i:Nat):Int);lia),(by show 60+((i:Nat):Int)<=100000;lia),by decide,λw w0 w1=>?_⟩
    obtain⟨w,rfl⟩:=YJ w0
    exact⟨⟨w,rfl,by lia⟩,rfl⟩
  rintro s T ⟨⟨u,rfl,hu⟩,rfl⟩
  refine⟨⟨_,Vb R⟩,⟨by lia,by lia⟩,?_⟩
  rw[YR]
  refine fM (lo:=0) (n:=u) (λj ys b=>b=T/\∃F:List Int,ys=F.map V.int/\F.length=j/\F.all byt=true) ?_ ?_ ?_ ?_
  ·rintro j ys I hj ⟨_,F,rfl,hd,_⟩
   rw[Ya,hd]
   exact bT (by lia)
  ·exact⟨rfl, [],rfl,rfl,rfl⟩
  ·rintro j ys I hj ⟨rfl,F,rfl,hd,hb⟩
   conv=>whnf
   refine⟨⟨by decide,jE (by lia) (by lia)⟩,a,A,_,256,rfl,v,r,(by show 0<=70+8*((i:Nat):Int)+(0+(j:Int));lia),(by show 70+8*((i:Nat):Int)+(0+(j:Int))<=100000;lia),by decide,λz z0 z1=>⟨rfl,F++[z],by rw[Yn];rfl,by rw[Yc,hd];rfl,?_⟩⟩
   rw[List.all_append,hb]
   show (byt z && true)=true
   rw[gK.mpr ⟨z0,by lia⟩]
   rfl
  rintro ys b ⟨rfl,F,rfl,hd,hb⟩ U a0
  have g4:=aK a0 (.lst (F.map V.int))
  have a4:=aB (H:=b) (a:=U) (o:= .lst (F.map V.int))
  have d1:=nn _ a0
  have a5:∀y,upd b U (.lst (F.map V.int)) y=none->I y=none:=λy z=>nn y (g4.none z)
  generalize upd b U _=H4 at g4 a4 a5
  refine⟨aO rfl,λt ht=>?_⟩
  have g5:=aK ht (.tup [.int (q:Int),.int ((n:Nat):Int),.ref U])
  have X:=aB (H:=H4) (a:=t) (o:= .tup [.int (q:Int),.int ((n:Nat):Int),.ref U])
  have a6:∀x,upd H4 t (.tup [.int (q:Int),.int ((n:Nat):Int),.ref U]) x=none->I x=none:=λx z=>a5 x (g5.none z)
  generalize upd H4 t _=H5 at g5 X a6
  have G:=g4.trans g5
  have e5:=G _ _ R
  have kl:∀x u,x≠l->H5 x=some u->upd H5 l (.lst (N.map V.ref++[.ref t])) x=some u:=λx u n e=>by rw[aH n];exact e
  have tl:∀{x xs},H5 x=some (.tup xs)->x≠l:=λ{x xs} e z=>by rw[z,e5]at e;cases e
  have dl:∀{x},I x=none->x≠l:=λ{x} e z=>by rw[z,el]at e;cases e
  refine⟨_,e5,bT (by rw[Ya];lia),⟨_,_,_,_,_,rfl⟩,(g2.trans G).put hl,λx z=>?_,N++[t],fs++[(q,n,F)],by rw[aB,Yn];rfl,by rw[Yc,Yc,lt];rfl,by rw[Yc,lf];rfl,λj t' f J W=>?_,λf B=>?_,λf B g Y e=>?_⟩
  ·by_cases c:x=l
   ·rw[c,aB]at z;cases z
   ·rw[aH c]at z;exact a6 x z
  ·by_cases c:j<fs.length
   ·rw[YF (by lia)]at J W
    obtain⟨d,a1,a2,a3⟩:=O j t' f J W
    exact⟨d,a1,kl _ _ (tl (G _ _ a2)) (G _ _ a2),kl _ _ (dl a1) (G _ _ a3)⟩
   ·rw [Yy (by lia)]at J W
    rw[lt]at J
    cases ej:j-fs.length with
    | zero=>
     rw[ej]at J W
     cases J
     cases W
     exact⟨U,d1,kl _ _ (tl X) X,kl _ _ (dl d1) (g5 _ _ a4)⟩
    |succ k=>rw[ej]at J;cases J
  ·rcases YO.mp B with z | z
   ·exact D.ok f z
   ·rw[Ym.mp z]
    exact⟨hq,hn,by show F.length<=7;lia,hb⟩
  ·have a7:∀f∈fs,f.2.1=n->f.1=q:=λf B e=>by
    rcases P with z | ⟨g,Y,R,e3⟩
    ·exact absurd e (z f B)
    ·rw[e3];exact D.un f B g Y (e.trans R.symm)
   rcases YO.mp B with z1 | z1 <;> rcases YO.mp Y with z2 | z2
   ·exact D.un f z1 g z2 e
   ·rw[Ym.mp z2]at e ⊢
    exact a7 f z1 e
   ·rw[Ym.mp z1]at e ⊢
    exact(a7 g z2 e.symm).symm
   ·rw[Ym.mp z1,Ym.mp z2]
 rintro s b ⟨⟨x3,x4,x5,x6,Z,rfl⟩,g2,nn,N,fs,R,lt,lf,O,D⟩
 exact Qq l N fs b hl g2 ⟨R,lt,λi t f J W=>let ⟨d,_,a2,a3⟩:=O i t f J W;⟨d,a2,a3⟩⟩ D (by lia) (by lia)
variable (Za5:FB P w K mg base (CX0) 2 "_law_choice" Zes Zf2 ["_law_script","_law_k","_law_frames_here"] (b3D K))
include Zo Za in
theorem ZiZ (B:GFm K mg "_law_choice" Zgk Zes Zf2):type_of% Za5:=by
 refine fbK ["_law_script","_law_k","_law_frames_here","_law_way","_law_mask"] B λH Q v f h=>?_
 obtain⟨a,fl,l,k,u,fs,rfl,m,b,M,o,N,O,C,q⟩:=h
 refine⟨_,(aD (bA (i:=3) v rfl (Or.inl rfl) (aN Za.1 f.mo rfl Za.2.2.2 Za.2.2.1 Za.2.1 .nil aJ (aA (dv 0) (aA (aR cC aG (dv 1)) (aA aG aC))))) (aD (bK (aY yE (dv 3) aG (aV _)) (aF (aM (cH (aA aG (aA aG aC))))) aU) (aD (bA (i:=4) v rfl (Or.inl rfl) (aN Za.1 f.mo rfl Za.2.2.2 Za.2.2.1 Za.2.1 .nil aJ (aA (dv 0) (aA (aR cC aG (dv 1)) (aA aG aC))))) (aD (bK (aY fG (dv 3) aG (aV _)) (aF (aM (cH (aA (dv 4) (aA (aN Za.1 f.mo rfl Za.2.2.2 Za.2.2.1 Za.2.1 .nil aJ (aA (dv 0) (aA (aR cC aG (dv 1)) (aA aG aC)))) aC))))) aU) (aF (aM (cH (aA (dv 4) (aA (aR uH (dv 4) (bL iI (bL dX (dv 2) (aN Za.1 f.mo rfl Za.2.2.2 Za.2.2.1 Za.2.1 .nil aJ (aA (dv 0) (aA (aR cC aG (dv 1)) (aA (aX dW rfl Zo cG (aA (dv 2) aC)) aC)))) (λ_ _=>rfl)) aG (λ_ _=>rfl))) aC))))))))),?_⟩
 have fin:∀(p r:Nat)(s:Hp),p<256->r<256->Same H s->∀t,s t=none->Q (.ref t) (upd s t (.tup [.int (p:Int),.int (r:Int)])):=λp r s D E g t e=>q p r t _ D E (g.none e) (g.trans (aK e _)) aB
 refine⟨a,l,_,4,rfl,m,b,(by show 0<=130+((k:Nat):Int);lia),(by show 130+((k:Nat):Int)<=100000;lia),by decide,λw P R=>bQ (λc=>?_) (λc=>?_)⟩
 ·exact⟨aO rfl,λt e=>fin 0 0 H (by decide) (by decide) (Vd _) t e⟩
 refine⟨a,l,_,256,rfl,m,b,(by show 0<=140+((k:Nat):Int);lia),(by show 140+((k:Nat):Int)<=100000;lia),by decide,λmk x S=>bQ (λF=>?_) (λF=>?_)⟩
 ·obtain⟨mk,rfl⟩:=YJ x
  refine⟨a,l,_,256,rfl,m,b,(by show 0<=150+((k:Nat):Int);lia),(by show 150+((k:Nat):Int)<=100000;lia),by decide,λy G T=>?_⟩
  obtain⟨y,rfl⟩:=YJ G
  exact⟨aO rfl,λt e=>fin mk y H (by lia) (by lia) (Vd _) t e⟩
 ·obtain⟨mk,rfl⟩:=YJ x
  have U:=o.ln
  refine⟨_,.inl (Vb o.at_),a,l,_,_,rfl,m,b,(by show 0<=160+((k:Nat):Int);lia),(by show 160+((k:Nat):Int)<=100000;lia),(by rw[Ya];lia),λj I J=>?_⟩
  rw[Ya]at J
  obtain⟨j,rfl⟩:=YJ I
  have jl:j<fs.length:=by lia
  have A:j<u.length:=by lia
  obtain⟨d,L,_⟩:=o.tp j u[j] fs[j] (Yb A) (Yb jl)
  have fn:=C _ (YE jl)
  refine⟨_,.ref u[j],Vb o.at_,eV (by rw[Yl,Yb A];rfl),_,_,Vc L,rfl,aO rfl,λt e=>?_⟩
  have z:=fin mk (mk &&& fs[j].2.1) H (by lia) (Nat.and_lt_two_pow (n:=8) mk fn.1) (Vd _) t e
  rw[<-band]at z
  exact z
variable (Za7:FB P w K mg base (CX0) 4 "_law_merged" Zeu Zf4 ["_law_frames_here","_law_posts"] (b2Y K))
include ZJ Zo ZfO in
theorem Zi1 (F0:GFm K mg "_law_merged" Zgm Zeu Zf4):type_of% Za7:=by
 refine fbK ["_law_frames_here","_law_posts","_law_rows","_law_order","_law_least","_law_post"] F0 λH Q nd hr h=>?_
 obtain⟨fl,ts,fs,m,rfl,U,a8,n1,n6,m2,m5,Qq⟩:=h
 refine⟨_,(aD (zK (j:=2) nd rfl rfl rfl (ix:=[0]) (dH rfl ZJ (aA (dv 1) aC)) (λC fp s0 H0 at0=>eG) (λC fp s0 H0 at0=>(gA rfl (ix:=[0]) (b0E (K:=K) (dv 1)) (λC fp s0 H0 at0=>(qP (aY fG (bL (jG (K:=K)) (dv 0) aG (λ_ _=>rfl)) (dv 1) (aV _)))) (λC fp s0 H0 at0=>(dv 0)) rfl rfl (by rfl) (show ([".0","_law_one","_law_post"]:List Str).Nodup by decide +kernel))) rfl rfl (λ_ _=>rfl) (λ_=>rfl) (by rfl) (show ([".0","_law_post","_law_frames_here"]:List Str).Nodup by decide +kernel)) (aD (bA (i:=3) nd rfl (Or.inl rfl) (fW aC)) (aD (zJ YY (aY yE (aX dW rfl Zo cG (aA (dv 3) aC)) (aX dW rfl Zo cG (aA (dv 0) aC)) (aV _)) (aD (bA (i:=4) nd rfl (Or.inl rfl) (aX (a7I rfl) rfl ZfO b1W (aA (gA rfl (ix:=[]) (dN (dv 2)) (λC fp s0 H0 at0=>(qP (aY tX (aX (a1C (K:=K)) rfl Zo cG (aA (dv 0) aC)) aG (aV _)))) (λC fp s0 H0 at0=>(bL (jG (K:=K)) (bL (b6Y (K:=K)) (dv 0) aG (λ_ _=>rfl)) aG (λ_ _=>rfl))) rfl rfl (by rfl) (show ([".0","_law_row"]:List Str).Nodup by decide +kernel)) aC))) (aF (gF YY rfl (dH rfl ZJ (aA (dv 1) aC)) (eN (i:=5) nd rfl (Or.inl rfl)) (aF (bK (PW.pt (mK (aY tX (aX dW rfl Zo cG (aA (bL dX (dv 2) (dv 5) (λ_ _=>rfl)) aC)) aG (aV _)) (lQ (aY fG (bL iI (bL dX (bL dX (dv 2) (dv 5) (λ_ _=>rfl)) aG (λ_ _=>rfl)) aG (λ_ _=>rfl)) (dv 4) (aV _))))) (aD (bC (dO (dv 3) (aA (bL dX (bL dX (dv 2) (dv 5) (λ_ _=>rfl)) aG (λ_ _=>rfl)) aC))) (aD (b8G (jU uG (bL dX (dv 2) (dv 5) (λ_ _=>rfl)) (iZ aG) qQ) (b8J (dv 2) (dv 5) b6V)) (aF a9H))) aU)))))) (aF (aM (dv 3)))))),?_⟩
 refine⟨⟨by lia,by lia⟩,?_⟩
 rw[YR]
 refine fM (lo:=0) (n:=m) (λj s H'=>∃g:List Addr,s=g.map V.ref/\g.length=j/\Same H H'/\∀(i:Nat)(a:Addr),g[i]? =some a->H a=none/\H' a=some (.lst ((pL ts fs i).map V.ref))) ?_ ?_ ?_ ?_
 ·rintro j s H' G ⟨g,rfl,hl,_⟩
  rw[Ya]
  exact bT (by lia)
 ·exact⟨[],rfl,rfl,λ_ _ e=>e,λi a e=>by simp at e⟩
 ·rintro j s H' G ⟨g,rfl,hl,g1,D⟩
  rw[XE]
  conv=>whnf
  refine⟨⟨_,Vb (g1 _ _ U.at_)⟩,eE (xs:=ts.map V.ref) (λi s L=>L=H'/\s=(pL (ts.take i) (fs.take i) j).map V.ref) ?_ ?_ ?_ ?_ ?_⟩
  ·rintro i s L A ⟨_,rfl⟩
   rw[Ya]
   have:=a7Q (ts.take i) (fs.take i) j
   rw[Yj]at this
   exact bT (by lia)
  ·exact⟨rfl,rfl⟩
  ·rintro i s L A ⟨rfl,_⟩
   exact Vb (g1 _ _ U.at_)
  ·rintro i x s L hx ⟨rfl,rfl⟩
   rw[Yl]at hx
   obtain⟨t,ht,rfl⟩:=YH.mp hx
   have A:i<fs.length:=by rw[<-U.ln];exact(Ye.mp ht).1
   obtain⟨f,ef⟩:∃f,fs[i]? =some f:=⟨_,Yb A⟩
   obtain⟨d,et,_⟩:=U.tp i t f ht ef
   refine⟨_,_,Vc (g1 _ _ et),rfl,bQ (λc=>?_) (λc=>?_)⟩
   ·have c1:f.1=j:=by have z:((f.1:Nat):Int)=((j:Nat):Int):=dec_true c;lia
    exact⟨rfl,by rw[uN ht ef,if_pos c1,Yn];rfl⟩
   ·have c1:¬ f.1=j:=λz=>dec_false c (by rw[z])
    exact⟨rfl,by rw[uN ht ef,if_neg c1,YD]⟩
  rintro s L ⟨rfl,rfl⟩ p hp
  have g2:=aK hp (.lst ((pL ts fs j).map V.ref))
  have ep:=aB (H:=L) (a:=p) (o:= .lst ((pL ts fs j).map V.ref))
  rw[Ya,Yi (Yd _),Yi (by rw[U.ln];exact Yd _)]
  generalize upd L p _=H3 at g2 ep
  refine⟨g++[p],by rw[Yn];rfl,by rw[Yc,hl];rfl,g1.trans g2,λi a e=>?_⟩
  by_cases c:i<g.length
  ·rw[YF c]at e
   exact⟨(D i a e).1,g2 _ _ (D i a e).2⟩
  ·rw [Yy (by lia)]at e
   cases ej:i-g.length with
   | zero=>
    rw[ej]at e
    cases e
    rw[show i=j by lia]
    exact⟨g1.none hp,ep⟩
   |succ k=>rw[ej]at e;cases e
 rintro s H1 ⟨M,rfl,c5,g1,D⟩ W a5
 have c6:=g1.none a5
 generalize eU:upd H1 W _=L
 have g2:=nS a5 eU
 have a9:=nE eU
 have k2:∀(i:Nat)(a:Addr),M[i]? =some a->a≠W:=λi a e z=>by have:=(D i a e).2;rw[z,a5]at this;cases this
 clear eU
 refine⟨aO rfl,λB N=>?_⟩
 generalize eU:upd L B _=H4
 have g4:=nS N eU
 have c7:=nE eU
 have b0:W≠B:=λz=>by rw[<-z,a9]at N;cases N
 have b1:=g1.trans g2
 have b2:=b1.none N
 clear eU
 have c8:=b1.trans g4
 have c9:pZ H H4 m W B M (lW fs) (pL ts fs):=⟨g4 _ _ a9,c5,λi A=>List.eq_nil_iff_forall_not_mem.mpr λf hf=>by have:=(a8.ok _ (oY hf)).1;dsimp only at this;lia,λi a e=>⟨g4 _ _ (g2 _ _ (D i a e).2),k2 i a e,λz=>by have:=g2 _ _ (D i a e).2;rw[z,N]at this;cases this⟩,λi _=>(a3K U i).1,λi j t f _ v l=>(a3K U i).2 j t f v l⟩
 obtain⟨J,hJ⟩:∃J:Nat->St->Hp->Prop,J=λk σ H'=>∃(g:List Addr)(tx:Nat->List Addr)(X:List Addr),(∃x4 x5,σ= [some (.ref fl),some (.int ((m:Nat):Int)),some (.ref W),some (.ref B),x4,x5])/\Same H H'/\pZ H H' m W B g (g91 m fs k) tx/\H' B=some (.lst (X.map V.ref))/\X.length=k/\∀(i:Nat)(t:Addr)(f:Nat×Nat×List Int),X[i]? =some t->(dG m fs k)[i]? =some f->∃d,H t=some (frT f d)/\H d=some (.lst (f.2.2.map V.int)):=⟨_,rfl⟩
 refine⟨λn σ H'=>∃k,k<=fs.length/\n=fs.length-k/\J k σ H',⟨_,0,YV _,rfl,by rw[hJ];exact⟨M,_, [],⟨_,_,rfl⟩,c8,c9,c7,rfl,λi t f h=>by simp at h⟩⟩,?_⟩
 rintro n σ H5 ⟨k,kN,rfl,b3⟩
 rw[hJ]at b3
 obtain⟨g,tx,X,⟨x4,x5,rfl⟩,g5,I,a6,ul,b4⟩:=b3
 refine⟨_,.inl (Vb a6),_,.inl (Vb (g5 _ _ U.at_)),?_⟩
 rw[Ya,Ya,ul,U.ln]
 refine bQ (λc=>?_) (λc=>?_)
 rotate_left
 ·have:k=fs.length:=by have:=dec_false c;lia
  subst this
  exact Qq B X H5 b2 g5 ⟨a6,by rw[ul];exact lG.symm,λi t f a b=>let ⟨d,x,y⟩:=b4 i t f a b;⟨d,g5 _ _ x,g5 _ _ y⟩⟩
 have kl:k<fs.length:=by have:=dec_true c;lia
 obtain⟨Y,fq,rq,b5,q,b6,b7,d0⟩:=b9I m2 a8 kl
 refine⟨λb9 H'=>J (k+1) b9 H',λb9 H' z=>⟨fs.length-(k+1),by lia,k+1,kl,rfl,z⟩,?_⟩
 have O:∀i,i<m->∃a,g[i]? =some a/\H5 a=some (.lst ((tx i).map V.ref))/\(g91 m fs k i= []/\tx i= []\/∃f r t E d,g91 m fs k i=f::r/\tx i=t::E/\H5 t=some (frT (i,f) d)/\H t=some (frT (i,f) d)/\H d=some (.lst (f.2.map V.int))):=λi A=>by
  obtain⟨a,ha⟩:∃a,g[i]? =some a:=⟨_,Yb (by rw[I.ln];exact A)⟩
  refine⟨a,ha,(I.at_ i a ha).1,?_⟩
  cases e:g91 m fs k i with
  | nil=>
   left
   refine⟨rfl,XI.mp ?_⟩
   rw[I.tl i A,e];rfl
  | cons f r=>
   obtain⟨t,E,d,v,l,h3⟩:=I.hd A e
   exact .inr ⟨f,r,t,E,d,rfl,v,g5 _ _ l,l,h3⟩
 refine⟨⟨_,Vb I.er⟩,eE (xs:=g.map V.ref) (λj s H'=>H'=H5/\∃T:List Int,s=T.map V.int/\T.length<=j/\(∀z∈T,∃i f r,i<m/\g91 m fs k i=f::r/\z=((f.1:Nat):Int))/\∀i f r,i<j->g91 m fs k i=f::r->((f.1:Nat):Int)∈T) ?_ ?_ ?_ ?_ ?_⟩
 ·rintro j s H' G ⟨_,T,rfl,hl,_⟩
  have:=I.ln
  rw[Ya]at G ⊢
  exact bT (by lia)
 ·exact⟨rfl, [],rfl,Yd _,λz hz=>(by cases hz),λi f r A=>absurd A (XC _)⟩
 ·rintro j s H' G ⟨rfl,_⟩
  exact Vb I.er
 ·rintro j x s H' hx ⟨rfl,T,rfl,hl,v,l⟩
  rw[Yl]at hx
  obtain⟨a,ha,rfl⟩:=YH.mp hx
  have G:j<m:=by rw[<-I.ln];exact(Ye.mp ha).1
  obtain⟨a',c0,ea,hc⟩:=O j G
  rw[ha]at c0
  cases c0
  refine⟨_,.inl (Vb ea),?_⟩
  rw[Ya]
  rcases hc with ⟨P,Z⟩ | ⟨f,r,t,E,d,P,Z,e3,_⟩
  ·rw[Z]
   conv=>whnf
   refine⟨rfl,T,rfl,Nat.le_succ_of_le hl,v,λi f r A e=>?_⟩
   by_cases c:i=j
   ·subst c;rw[P]at e;cases e
   ·exact l i f r (by lia) e
  ·rw [Z]at ea ⊢
   refine bQ (λc=>?_) (λc=>absurd ?_ (dec_false c))
   ·refine⟨_,_,Vb ea,(eV (xs:=(t::E).map V.ref) (j:=0) rfl),_,_,Vc e3,rfl,rfl,T++[((f.1:Nat):Int)],by rw[Yn];rfl,by rw[Yc];exact Nat.succ_le_succ hl,λz hz=>?_,λi f' r' A e=>?_⟩
    ·rcases YO.mp hz with w | w
     ·exact v z w
     ·exact⟨j,f,r,G,P,Ym.mp w⟩
    ·by_cases c:i=j
     ·subst c;rw[P]at e;cases e;exact YO.mpr (.inr (Ym.mpr rfl))
     ·exact YO.mpr (.inl (l i f' r' (by lia) e))
   ·show (0:Int)<(((t::E).length:Nat):Int)
    rw[Yo];lia
 rintro s H1 ⟨rfl,T,rfl,hl,v,l⟩ nl d1
 rw[Ya,I.ln]at l
 generalize eU:upd H1 nl _=L
 have k1:=nS d1 eU
 have d2:=nE eU
 clear eU
 refine⟨T,Vb d2,λz=>?_,λn0 d3 d4=>?_⟩
 ·cases e:g91 m fs k Y with
  |nil=>rw[q]at e;cases e
  |cons f r=>have:=l Y f r b5 e;rw[z]at this;cases this
 have d5:n0=((fq.1:Nat):Int):=by
  obtain⟨i,f,r,A,e,rfl⟩:=v n0 d3
  have a1:=d4 _ (l Y fq rq b5 q)
  by_cases c:i=Y
  ·subst c
   rw[q]at e
   cases e
   rfl
  ·have:=b6 i f r A c e
   lia
 subst d5
 refine⟨⟨by lia,by lia⟩,?_⟩
 rw[YR]
 refine lJ (lo:=0) (n:=m) (λj σ H'=>(∃x,σ= [some (.ref fl),some (.int ((m:Nat):Int)),some (.ref W),some (.ref B),some (.int ((fq.1:Nat):Int)),x])/\H'=L/\j<=Y) ⟨⟨_,rfl⟩,rfl,YV _⟩ ?_ ?_
 ·rintro j σ H' G ⟨⟨y,rfl⟩,rfl,d9⟩
  rw[XE]
  obtain⟨a,ha,ea,hc⟩:=O j G
  have a2:=k1 _ _ ea
  have a7:=k1 _ _ I.er
  have a3:atI (g.map V.ref) ((j:Nat):Int)=some (.ref a):=eV (by rw[Yl,ha];rfl)
  refine⟨_,_,Vb a7,a3,_,.inl (Vb a2),?_⟩
  rw[Ya]
  rcases hc with ⟨P,Z⟩ | ⟨f,r,t,E,d,P,Z,e3,e4,e5⟩
  ·have nq:j≠Y:=λz=>by rw[z,q]at P;cases P
   rw[Z]
   conv=>whnf
   exact⟨⟨_,rfl⟩,rfl,by lia⟩
  rw[Z]at a2 ⊢
  refine bQ (λc=>?_) (λc=>absurd ?_ (dec_false c))
  rotate_left
  ·show (0:Int)<(((t::E).length:Nat):Int)
   rw[Yo];lia
  have a0:atI ((t::E).map V.ref) 0=some (.ref t):=eV (xs:=(t::E).map V.ref) (j:=0) rfl
  refine⟨_,_,Vb a7,a3,_,_,Vb a2,a0,_,_,Vc (k1 _ _ e3),rfl,bQ (λc2=>?_) (λc2=>?_)⟩
  rotate_left
  ·have nq:j≠Y:=λz=>by
    subst z
    rw[P]at q
    cases q
    exact dec_false c2 rfl
   exact⟨⟨_,rfl⟩,rfl,by lia⟩
  have jq:j=Y:=by
   by_cases z:j=Y
   ·exact z
   ·have:=b6 j f r G z P
    have z:((f.1:Nat):Int)=((fq.1:Nat):Int):=dec_true c2
    lia
  subst jq
  rw[P]at q
  cases q
  have a4:=k1 _ _ a6
  refine⟨⟨_,Vb a4⟩,_,_,Vb a7,a3,_,_,Vb a2,a0,_,a4,bT (by rw[Ya];lia),?_⟩
  have d6:=I.same k1
  have kp:∀x u,x≠B->H' x=some u->upd H' B (.lst (X.map V.ref++[.ref t])) x=some u:=λx u n e=>by rw[aH n];exact e
  have F:=d6.kp b0 kp
  have R:=aB (H:=H') (a:=B) (o:= .lst (X.map V.ref++[.ref t]))
  have g7:Same H (upd H' B (.lst (X.map V.ref++[.ref t]))):=(g5.trans k1).put b2
  generalize upd H' B _=H7 at kp F R g7
  have c3:=(F.at_ j a ha).1
  rw[Z]at c3
  refine⟨_,_,Vb F.er,a3,_,Vb c3,λpl S=>?_⟩
  rw[show kZ ((t::E).map V.ref) (some 1) none=E.map V.ref from a7C (a:=1) (xs:=(t::E).map V.ref) (by rw[Ya];exact Nat.le_add_left 1 _)]
  generalize eU:upd H7 pl _=H8
  have kg:=nS S eU
  have eg:=nE eU
  have c4:pl≠W:=λz=>by rw[z,F.er]at S;cases S
  have d7:pl≠B:=λz=>by rw[z,R]at S;cases S
  clear eU
  have d8:=kg _ _ F.er
  have pp:=(F.same kg).pop (nl:=pl) (H':=upd H8 W (.lst ((g.map V.ref).set j (.ref pl)))) G c4 d7 (λx u n e=>by rw[aH n];exact e) aB (by rw[aH c4,Z];exact eg)
  refine⟨_,j,d8,b4W (by rw[Ya,I.ln];exact G),?_⟩
  rw[hJ]
  refine⟨_,_,X++[t],⟨_,_,rfl⟩,(g7.trans kg).put c6,by rw[d0];exact pp,by rw[aH b0.symm,kg _ _ R,Yn];rfl,by rw[Yc,ul];rfl,λi t' f' v l=>?_⟩
  rw[b7]at l
  by_cases c:i<k
  ·rw[YF (by lia)]at v
   rw[YF (by unfold dG;rw[lG];exact c)]at l
   exact b4 i t' f' v l
  ·rw [Yy (by lia),ul]at v
   rw[Yy (by unfold dG;rw[lG];lia),show (dG m fs k).length=k from lG]at l
   cases ej:i-k with
   | zero=>
    rw[ej]at v l
    cases v
    cases l
    exact⟨d,e4,e5⟩
   |succ z=>rw[ej]at v;cases v
 rintro σ H' ⟨⟨x,rfl⟩,rfl,hq⟩
 lia
variable (ZbV:FB P w K mg base (CX0) 2 "_law_turn" Zfe Zhq ["_law_script","_law_starts","_law_sizes","_law_votes","_law_last"] (a7Z K))
include Zo Za in
theorem Zks (E:GFm K mg "_law_turn" ZhK Zfe Zhq):type_of% ZbV:=by
 refine fbK ["_law_script","_law_starts","_law_sizes","_law_votes","_law_last","_law_turn_here","_law_k","_law_spots"] E λH Q o l h=>?_
 obtain⟨a,F,G,m,r,sz,v,f,rfl,n,b,C,z,le,l1,U,I,W,X,Y,q⟩:=h
 refine⟨_,(aD (bA (i:=5) o rfl (Or.inl rfl) (aN Za.1 l.mo rfl Za.2.2.2 Za.2.2.1 Za.2.1 .nil aJ (aA (dv 0) (aA aG (aA (aR cC (dv 4) aG) aC))))) (aD (jT (bK (aY tX (aN Za.1 l.mo rfl Za.2.2.2 Za.2.2.1 Za.2.1 .nil aJ (aA (dv 0) (aA aG (aA aG aC)))) aG (aV _)) (aD (bA (i:=6) o rfl (Or.inl rfl) (aN Za.1 l.mo rfl Za.2.2.2 Za.2.2.1 Za.2.1 .nil aJ (aA (dv 0) (aA aG (aA (aX dW rfl Zo cG (aA (dv 1) aC)) aC))))) (aD (bA (i:=7) o rfl (Or.inl rfl) (fW (aA aG (aA (aN Za.1 l.mo rfl Za.2.2.2 Za.2.2.1 Za.2.1 .nil aJ (aA (dv 0) (aA aG (aA (bL dX (dv 2) (dv 6) (λ_ _=>rfl)) aC)))) (aA (aR lB (bL dX (dv 2) (dv 6) (λ_ _=>rfl)) aG) (aA (aR cC (bL dX (dv 2) (dv 6) (λ_ _=>rfl)) (aN Za.1 l.mo rfl Za.2.2.2 Za.2.2.1 Za.2.1 .nil aJ (aA (dv 0) (aA aG (aA (aR cC aG (dv 3)) aC))))) aC)))))) (aF (bA (i:=5) o rfl (Or.inl rfl) (aR cC (bL dX (dv 1) (dv 6) (λ_ _=>rfl)) (bL dX (dv 7) (aN Za.1 l.mo rfl Za.2.2.2 Za.2.2.1 Za.2.1 .nil aJ (aA (dv 0) (aA aG (aA aG aC)))) (λ_ _=>rfl))))))) aU)) (aF (aM (dv 5))))),?_⟩
 refine⟨a,m,6,_,rfl,n,b,by decide,by decide,(by show (0:Int)<((f:Nat):Int)+20;lia),λt J _=>?_⟩
 obtain⟨t,rfl⟩:=YJ J
 refine⟨λD A=>Same H A/\∃(t:Nat)(x y:Option V),D= [some (.ref a),some (.ref F),some (.ref G),some (.int ((v:Nat):Int)),some (.int ((f:Nat):Int)),some (.int (t:Int)),x,y],?_,?_⟩
 ·refine⟨a,m,7,3,rfl,n,b,by decide,by decide,by decide,λw Z w1=>bQ (λc=>?_) (λc=>?_)⟩
  ·refine⟨_,.inl C,a,m,8,_,rfl,n,b,by decide,by decide,(by rw[Ya];lia),λk L M=>?_⟩
   rw[Ya]at M
   obtain⟨k,rfl⟩:=YJ L
   have N:k<r.length:=by lia
   have s:k<sz.length:=by lia
   have O:=I _ (YE s)
   refine⟨_,_,z,pG s,a,m,9,_,rfl,n,b,by decide,by decide,(by lia),λd P d1=>?_⟩
   refine⟨_,_,z,pG s,_,_,z,pG s,a,m,10,_,rfl,n,b,by decide,by decide,(by show (0:Int)<12+((v:Nat):Int);lia),λe e0 e1=>⟨aO rfl,λp R=>?_⟩⟩
   generalize eU:upd H p _=H1
   have g:=nS R eU
   have S:=nE eU
   clear eU
   refine⟨_,_,g.seq C,pG N,a,m,11,4,rfl,g.seq n,b,by decide,by decide,by decide,λj j0 j1=>?_⟩
   have B:∃u:Int,0<=u/\atI [V.int 0,.int d,.int (((sz[k]:Nat):Int)-1),.int (((sz[k]:Nat):Int)+e)] j=some (.int u):=by
    have:j=0\/j=1\/j=2\/j=3:=by lia
    rcases this with rfl | rfl | rfl | rfl
    ·exact⟨0,Xy 0,rfl⟩
    ·exact⟨d,P,rfl⟩
    ·exact⟨_,by lia,rfl⟩
    ·exact⟨_,by lia,rfl⟩
   obtain⟨u,u0,T⟩:=B
   refine⟨_,_,Vb S,T,g,(((r[k]:Nat):Int)+u).toNat,some (.int ((k:Nat):Int)),some (.ref p),?_⟩
   rw[show (((((r[k]:Nat):Int)+u).toNat:Nat):Int)=((r[k]:Nat):Int)+u by lia]
   rfl
  ·exact⟨Vd _,t,_,_,rfl⟩
 rintro D A ⟨g,t,x,y,rfl⟩
 exact q t A g
variable (ZbT:FB P w K mg base (CX0) 10 "_law_same" Zfc Zho ["_law_rail","_law_post","_law_choice_here","_law_order"] (a8H K Zp CA))
include Zab ZaX ZaP Zb5 Zij Zg3 Zc Zco Zao Zdb ZaK in
theorem Zkq (F0:GFm K mg "_law_same" ZhI Zfc Zho):type_of% ZbT:=by
 refine fbK ["_law_rail","_law_post","_law_choice_here","_law_order","_law_due","_law_found","_law_one"] F0 λH Q U W h=>?_
 obtain⟨r,R,o,w,i,S,ch,ol,us,m,rfl,hR,eS,F,X,o6,a0,G,q⟩:=h
 refine⟨_,(aD (gP (j:=4) U rfl rfl rfl (ix:=[1]) (dN (dv 3)) (λC fp s0 H0 at0=>(qP (aY a1B (bL (jG (K:=K)) (dv 0) aG (λ_ _=>rfl)) (dv 1) (aV _)))) (λC fp s0 H0 at0=>(cH (aA (bL (jG (K:=K)) (dv 0) aG (λ_ _=>rfl)) (aA (bL (jG (K:=K)) (dv 0) aG (λ_ _=>rfl)) aC)))) rfl rfl (by rfl) (show ([".0","_law_one","_law_post"]:List Str).Nodup by decide +kernel)) (aD (gP (j:=4) U rfl rfl rfl (ix:=[2]) (dN (dv 4)) (λC fp s0 H0 at0=>(qP (aY fG (aR uH (bL (jG (K:=K)) (dv 0) aG (λ_ _=>rfl)) (bL (jG (K:=K)) (dv 1) aG (λ_ _=>rfl))) (bL (jG (K:=K)) (dv 1) aG (λ_ _=>rfl)) (aV _)))) (λC fp s0 H0 at0=>(dv 0)) rfl rfl (by rfl) (show ([".0","_law_one","_law_choice_here"]:List Str).Nodup by decide +kernel)) (aD (bA (i:=5) U rfl (Or.inl rfl) (cD Zc Zco Zdb.1 W.mo Zdb.2 .nil aJ (dv 0) (aA (dv 1) aC))) (aD (bK (PW.pt (uU (gO (cT (aX rG rfl Zb5 jB (aA (dv 5) (aA (qR (v:= .ty "list") rfl ZaP kO rfl) aC))))) (uU (aY (b5W W.units) (dv 5) (dv 4) (aV _)) (wM (aY (b5W W.units) (cD Zc Zao ZaK.1 W.mo ZaK.2 .nil aJ (dv 0) (aA (dv 1) aC)) (fW aC) (aV _)))))) (aF (aM jV)) aU) (aD (gF YY rfl (dN (dv 5)) (eN (i:=6) U rfl (Or.inl rfl)) (aF (bK (PW.pt (uU (gO (cT (aX yF rfl Zb5 jB (aA (dv 6) (aA (qR (v:= .ty "tuple") rfl Zg3 b1U rfl) aC))))) (uU (cT (aX a1E rfl Zb5 jB (aA (bL iI (dv 6) aG (λ_ _=>rfl)) (aA (qR (v:= .ty "bool") rfl Zij b5M rfl) aC)))) (wM (gO (cT (aX rG rfl Zb5 jB (aA (bL iI (dv 6) aG (λ_ _=>rfl)) (aA (qR (v:= .ty "list") rfl ZaP kO rfl) aC))))))))) (aF (aM jV)) aU))) (aF (aM jV))))))),?_⟩
 have lu:=X.ln
 refine⟨⟨_,Vb X.at_⟩,eE (xs:=us.map V.ref) (λj n b=>Same H b/\dC b (λ_=>True) n (((m.take j).filter λx=>decide (x.1≠i)).map Prod.snd)) ?_ ?_ ?_ ?_ ?_⟩
 ·rintro j n b s ⟨_,h⟩
  rw[h.len,Ya]
  have:=Xo (λx:Nat×Nat×List Int=>decide (x.1≠i)) (m.take j)
  rw[Yj]at this
  exact bT (by lia)
 ·exact⟨Vd _,.nil⟩
 ·rintro j n b s ⟨g,_⟩
  exact Vb (g _ _ X.at_)
 ·rintro j x n b D ⟨g,k⟩
  rw[Yl]at D
  obtain⟨t,ht,rfl⟩:=YH.mp D
  have s:j<m.length:=by rw[<-lu];exact(Ye.mp ht).1
  obtain⟨f,E⟩:∃f,m[j]? =some f:=⟨_,Yb s⟩
  obtain⟨d,u,Y⟩:=X.tp j t f ht E
  have tk:m.take (j+1)=m.take j++[f]:=by rw[Yg s,Yp ((Yb s).symm.trans E)]
  rw[tk,Je,Yn]
  conv=>whnf
  refine⟨_,_,Vc (g _ _ u),rfl,bQ (λc=>?_) (λc=>?_)⟩
  ·have c1:f.1≠i:=λz=>by
    have Z:(!decide (((f.1:Nat):Int)=((i:Nat):Int)))=true:=c
    rw[z,Yq rfl]at Z
    cases Z
   refine⟨_,_,Vc (g _ _ u),rfl,_,_,Vc (g _ _ u),rfl,aO rfl,λp hp=>?_⟩
   generalize eU:upd b p _=H2
   have B:=nS hp eU
   have ep:=nE eU
   clear eU
   refine⟨g.trans B,?_⟩
   rw[Jf (by exact Yq c1)]
   exact(k.imp (λx v e _=>B x v e) λ_ z=>z).snoc ⟨d,ep,(g.trans B) _ _ Y,trivial⟩
  ·have c1:f.1=i:=by
    have Z:¬ (!decide (((f.1:Nat):Int)=((i:Nat):Int)))=true:=c
    by_cases z:f.1=i
    ·exact z
    ·exact absurd (by rw[Yu (λy=>z (by lia))];rfl) Z
   refine⟨g,?_⟩
   rw[XJ (by rw[Yu λz=>z c1];exact Yr)]
   show dC _ _ _ (_++[])
   rw[YD]
   exact k
 rintro n H1 ⟨g1,k⟩ l1 a1
 rw[Ya,lu,Yi (Yd _)]at k
 have k1:=aK a1 (.lst n)
 have e1:=aB (H:=H1) (a:=l1) (o:= .lst n)
 have A:dC (upd H1 l1 (.lst n)) (λ_=>True) n ((m.filter λx=>decide (x.1≠i)).map Prod.snd):=k.imp (λx v e _=>k1 x v e) λ_ z=>z
 generalize upd H1 l1 _=H2 at k1 e1 A
 have B:=g1.trans k1
 have lf:((m.filter λx=>decide (x.1≠i)).map Prod.snd).length<=6:=by
  rw[Ya]
  exact YS (Xo _ _) o6
 have l:S.up=((m.filter λx=>decide (x.1≠i)).map Prod.snd).filter λf=>gC S f.1:=by
  rw[a0]
  unfold uE
  rw[List.filter_map,List.filter_filter]
  congr 1
  refine List.filter_congr λx _=>?_
  show _=(gC S x.2.1 && _)
  rw[Bool.and_comm]
 generalize (m.filter λx=>decide (x.1≠i)).map Prod.snd=fs at A lf l
 refine⟨⟨_,Vb e1⟩,eE (xs:=n) (λj zs b=>b=H2/\dC H2 (λ_=>True) zs ((fs.take j).filter λf=>gC S f.1)) ?_ ?_ ?_ ?_ ?_⟩
 ·rintro j zs b s ⟨_,h⟩
  rw[h.len]
  have:=Xo (λf:Fr=>gC S f.1) (fs.take j)
  rw[Yj]at this
  exact bT (by lia)
 ·exact⟨rfl,.nil⟩
 ·rintro j zs b s ⟨rfl,_⟩
  exact Vb e1
 ·rintro j x zs b D ⟨rfl,I⟩
  obtain⟨t,f,rfl,E,hf⟩:=A.get D
  obtain⟨d,u,Y,_⟩:=id hf
  have s:j<fs.length:=(Ye.mp E).1
  have tk:fs.take (j+1)=fs.take j++[f]:=by rw[Yg s,Yp ((Yb s).symm.trans E)]
  rw[tk,Je]
  conv=>whnf
  refine⟨_,_,Vc u,rfl,_,_,Vc (B _ _ F),rfl,_,_,Vc (B _ _ F),rfl,bQ (λc=>?_) (λc=>?_)⟩
  ·refine⟨rfl,?_⟩
   rw[Jf (by exact c)]
   exact I.snoc hf
  ·refine⟨rfl,?_⟩
   rw[XJ (by exact c)]
   show dC _ _ _ (_++[])
   rw[YD]
   exact I
 rintro zs H3 ⟨rfl,I⟩ l2 a2
 rw[A.len,Yi (Yd _),<-l]at I
 have k2:=aK a2 (.lst zs)
 have e2:=aB (H:=H3) (a:=l2) (o:= .lst zs)
 have J:dC (upd H3 l2 (.lst zs)) (λ_=>True) zs S.up:=I.imp (λx v e _=>k2 x v e) λ_ z=>z
 generalize upd H3 l2 _=H4 at k2 e2 J
 have g4:=B.trans k2
 have L:=hR.same g4
 have il:i<R.ps.length:=(Ye.mp eS).1
 have a5:S.up.length<=6:=by
  rw[l]
  exact YS (Xo _ _) lf
 refine⟨⟨w.dx,_,L.er,rfl⟩,r,R,o,w,_,rfl,L,λi' S' ei M=>?_,λno=>absurd ⟨by lia,by lia⟩ no⟩
 have ij:i'=i:=by lia
 subst ij
 rw[eS]at M
 cases M
 refine⟨by lia,λl3 xs H5 a6 k3 e3 f3=>?_⟩
 have g5:=g4.trans k3
 refine⟨rfl,⟨_,e3⟩,?_⟩
 conv=>whnf
 refine⟨_,.lst (Vb e3) f3.at_.dvs,.lst (Vb (k3 _ _ e2)) ((J.imp (λx v e _=>k3 x v e) λ_ z=>z).dvs),tD _,?_⟩
 conv=>whnf
 have N:=hR.same g5
 refine⟨⟨w.dx,_,N.er,rfl⟩,r,R,o,w,_,rfl,N,λi2 S2 a7 O=>?_,λno=>absurd ⟨by lia,by lia⟩ no⟩
 have ij:i2=i':=by lia
 subst ij
 rw[eS]at O
 cases O
 refine⟨by rw[G];exact YV _,λl4 a8 H6 a9 k4 e4 f4=>⟨aO rfl,λl5 a3=>?_⟩⟩
 rw[G]at f4
 generalize eU:upd H6 l5 _=H7
 have k5:=nS a3 eU
 have e5:=nE eU
 clear eU
 refine⟨_,.lst (Vb (k5 _ _ e4)) (f4.same k5).at_.dvs,.lst (Vb e5) .nil,tD _,?_⟩
 conv=>whnf
 have g7:=(g5.trans k4).trans k5
 have P:=k4.trans k5
 have T:=P _ _ e3
 have a4:=f3.same P
 refine⟨⟨_,Vb T⟩,jD (xs:=xs) (λj σ b=>(∃x,σ= [some (.ref r),some (.int ((i2:Nat):Int)),some (.ref ch),some (.ref ol),some (.ref l2),some (.ref l3),x])/\b=H7) ⟨⟨_,rfl⟩,rfl⟩ (λi σ b _ z=>z.2▸Vb T) ?_ ?_⟩
 ·rintro j x σ b D ⟨⟨x4,rfl⟩,rfl⟩
  obtain⟨t,f,rfl,E,d,u,Y,_⟩:=a4.at_.get D
  refine⟨rfl,⟨_,u⟩,?_⟩
  conv=>whnf
  refine⟨_,_,Vc u,rfl,rfl,_,_,Vc u,rfl,rfl,⟨_,Y⟩,⟨_,rfl⟩,rfl⟩
 rintro σ b ⟨⟨x4,rfl⟩,rfl⟩
 exact q _ g7
variable (ZlO:FB P w K mg base (CX0) 15 "law" Zlm ZlI ["_law_script"] (qO K))
include Zs ZcX Zab ZaX ZeR ZJ ZaP Zo ZfN ZfP Zc Zd0 Zao Zca ZaU ZeH ZdG Zcq ZcT ZcS Zbk ZaK Za ZbU Za6 Za5 Za7 ZbV ZbT in
theorem ZlM (F0:GFm K mg "law" ZlJ Zlm ZlI):type_of% ZlO:=by
 refine fbK ["_law_script","_law_posts","_law_votes","_law_frames_here","_law_order","_law_sizes","_law_starts","_law_wrong","_law_choices","_law_rail","_law_one","_law_k","_law_post"] F0 λH Q Y D h=>?_
 obtain⟨a,ns,rfl,hS,M,hT,q⟩:=h
 refine⟨_,(aD (bA (i:=1) Y rfl (Or.inl rfl) (aR cC aG (aN Za.1 D.mo rfl Za.2.2.2 Za.2.2.1 Za.2.1 .nil aJ (aA (dv 0) (aA aG (aA aG aC)))))) (aD (jT (bK (aY fG (aN Za.1 D.mo rfl Za.2.2.2 Za.2.2.1 Za.2.1 .nil aJ (aA (dv 0) (aA aG (aA aG aC)))) aG (aV _)) (aF (bA (i:=1) Y rfl (Or.inl rfl) (aR cC (dv 1) aG))) aU)) (aD (bA (i:=2) Y rfl (Or.inr rfl) (cR (aR cC aG (aR jQ aG (aN Za.1 D.mo rfl Za.2.2.2 Za.2.2.1 Za.2.1 .nil aJ (aA (dv 0) (aA aG (aA aG aC)))))))) (aD (bA (i:=3) Y rfl (Or.inr rfl) (aN Za6.1 D.mo rfl Za6.2.2.2 Za6.2.2.1 Za6.2.1 .nil aJ (aA (dv 0) (aA (dv 1) aC)))) (aD (bA (i:=4) Y rfl (Or.inl rfl) (aN Za7.1 D.mo rfl Za7.2.2.2 Za7.2.2.1 Za7.2.1 .nil aJ (aA (dv 3) (aA (dv 1) aC)))) (aD (bA (i:=5) Y rfl (Or.inr rfl) (gA rfl (ix:=[]) (dN (dv 4)) (λC fp s0 H0 at0=>eG) (λC fp s0 H0 at0=>(aN ZbU.1 D.mo rfl ZbU.2.2.2 ZbU.2.2.1 ZbU.2.1 .nil aJ (aA (bL (jG (K:=K)) (dv 0) aG (λ_ _=>rfl)) (aA (bL (jG (K:=K)) (dv 0) aG (λ_ _=>rfl)) aC)))) rfl rfl (by rfl) (show ([".0","_law_one"]:List Str).Nodup by decide +kernel))) (aD (gP (j:=6) Y rfl rfl rfl (ix:=[5,2]) (dH rfl ZJ (aA (aR cC (aX dW rfl Zo cG (aA (dv 5) aC)) aG) aC)) (λC fp s0 H0 at0=>eG) (λC fp s0 H0 at0=>(aR cC (aX (b6U (K:=K) rfl) rfl ZfP b1V (aA (jU (a7G (K:=K)) (dv 1) qQ (iZ (dv 0))) aC)) (aR jQ (dv 0) (aR cC aG (dv 2))))) rfl rfl (by rfl) (show ([".0","_law_k","_law_sizes","_law_votes"]:List Str).Nodup by decide +kernel)) (aD (bA (i:=7) Y rfl (Or.inl rfl) (fW (aA (cH (aA (aN Za.1 D.mo rfl Za.2.2.2 Za.2.2.1 Za.2.1 .nil aJ (aA (dv 0) (aA aG (aA (dv 1) aC)))) (aA (aN ZbV.1 D.mo rfl ZbV.2.2.2 ZbV.2.2.1 ZbV.2.1 .nil aJ (aA (dv 0) (aA (jU uG (dv 6) qQ (iZ (aX dW rfl Zo cG (aA (dv 5) aC)))) (aA (dv 5) (aA (dv 2) (aA (bL dX (dv 6) (aX dW rfl Zo cG (aA (dv 5) aC)) (λ_ _=>rfl)) aC)))))) aC))) aC))) (aD (jT (bK (aY fG (aN Za.1 D.mo rfl Za.2.2.2 Za.2.2.1 Za.2.1 .nil aJ (aA (dv 0) (aA aG (aA aG aC)))) aG (aV _)) (aF (bA (i:=7) Y rfl (Or.inl rfl) (fW aC))) aU)) (aD (gP (j:=8) Y rfl rfl rfl (ix:=[0,3]) (dH rfl ZJ (aA (dv 1) aC)) (λC fp s0 H0 at0=>eG) (λC fp s0 H0 at0=>(aN Za5.1 D.mo rfl Za5.2.2.2 Za5.2.2.1 Za5.2.1 .nil aJ (aA (dv 1) (aA (dv 0) (aA (dv 2) aC))))) rfl rfl (by rfl) (show ([".0","_law_post","_law_script","_law_frames_here"]:List Str).Nodup by decide +kernel)) (aD (bA (i:=9) Y rfl (Or.inr rfl) (cN Zd0 ZcT.1 D.mo rfl ZaX ZcT.2 .nil aJ (aA (jP lC rfl ZaP kO (aA (dv 8) aC)) (aA (dv 2) aC)))) (aD (gF YY rfl (dN (dv 3)) (eN (i:=10) Y rfl (Or.inl rfl)) (aF (bC (cD Zc Zca ZcS.1 D.mo ZcS.2 .nil aJ (dv 9) (aA (bL iI (dv 10) aG (λ_ _=>rfl)) (aA (bL iI (dv 10) aG (λ_ _=>rfl)) (aA (jP lC rfl ZaP kO (aA (bL iI (dv 10) aG (λ_ _=>rfl)) aC)) aC))))))) (aD (bC (cD Zc ZaU Zbk.1 D.mo Zbk.2 .nil aJ (dv 9) (aA (bL dX (dv 6) (aX dW rfl Zo cG (aA (dv 5) aC)) (λ_ _=>rfl)) (aA (aN Zcq.1 D.mo rfl Zcq.2.2.2 Zcq.2.2.1 Zcq.2.1 .nil aJ (aA (dv 7) aC)) aC)))) (aD (gF YY rfl (dH rfl ZJ (aA aG aC)) (eN (i:=11) Y rfl (Or.inl rfl)) (aF (bK (aY tX (aX (b6W rfl) rfl ZfN b1X (aA (gA rfl (ix:=[9]) (dH rfl ZJ (aA (dv 1) aC)) (λC fp s0 H0 at0=>eG) (λC fp s0 H0 at0=>(aX (a1C (K:=K)) rfl Zo cG (aA (cD Zc Zao ZaK.1 D.mo ZaK.2 .nil aJ (dv 1) (aA (dv 0) aC)) aC))) rfl rfl (by rfl) (show ([".0","_law_post","_law_rail"]:List Str).Nodup by decide +kernel)) aC)) aG (aV _)) (aF (bC (cD Zc ZaU Zbk.1 D.mo Zbk.2 .nil aJ (dv 9) (aA aG (aA (aN Zcq.1 D.mo rfl Zcq.2.2.2 Zcq.2.2.1 Zcq.2.1 .nil aJ (aA (dv 7) aC)) aC))))) aU))) (aD (gF YY rfl (dH rfl ZJ (aA aG aC)) (eN (i:=11) Y rfl (Or.inl rfl)) (aD (gF YY rfl (dH rfl ZJ (aA (dv 1) aC)) (eN (i:=12) Y rfl (Or.inl rfl)) (aF (bK (gO (cT (aN ZbT.1 D.mo rfl ZbT.2.2.2 ZbT.2.2.1 ZbT.2.1 .nil aJ (aA (dv 9) (aA (dv 12) (aA (bL dX (dv 8) (dv 12) (λ_ _=>rfl)) (aA (dv 4) aC))))))) (aF (aM jV)) aU))) (aF (bK (aY fG (dv 11) aG (aV _)) (aF (bC (cD Zc ZaU Zbk.1 D.mo Zbk.2 .nil aJ (dv 9) (aA aG (aA (aN Zcq.1 D.mo rfl Zcq.2.2.2 Zcq.2.2.1 Zcq.2.1 .nil aJ (aA (dv 7) aC)) aC))))) aU)))) (aF (aM jV))))))))))))))))),?_⟩
 refine⟨a,ns,0,2,rfl,hS,M,by decide,by decide,by decide,λz z0 z1=>?_⟩
 obtain⟨z,rfl⟩:=YJ z0
 refine⟨λa9 s=>(∃m:Nat,a9= [some (.ref a),some (.int ((m:Nat):Int)),none,none,none,none,none,none,none,none,none,none,none]/\2<=m/\m<=5)/\H=s,?_,?_⟩
 ·refine⟨a,ns,1,8,rfl,hS,M,by decide,by decide,by decide,λu u0 u1=>?_⟩
  conv=>whnf
  refine bQ (λc=>?_) (λc=>?_)
  ·exact⟨⟨2+z+2,rfl,by lia,by lia⟩,rfl⟩
  ·exact⟨⟨2+z,rfl,by lia,by lia⟩,rfl⟩
 rintro a9 H0 ⟨⟨m,rfl,m2,m5⟩,rfl⟩
 refine⟨λx s=>∃v:Nat,x= .int ((v:Nat):Int)/\(v=3\/v=5)/\H=s,?_,?_⟩
 ·refine⟨a,ns,2,2,rfl,hS,M,by decide,by decide,by decide,λu u0 u1=>⟨⟨by decide,jE (by lia) (by lia)⟩,?_⟩⟩
  obtain⟨u,rfl⟩:=YJ u0
  exact⟨3+2*u,YU V.int (by show (3:Int)+2*((u:Nat):Int)=((3+2*u:Nat):Int);lia),by lia,rfl⟩
 rintro x H0 ⟨v,rfl,hv,rfl⟩
 have v2:2<=v:=by lia
 have v5:v<=5:=by lia
 refine⟨a,ns,m,rfl,hS,M,m2,m5,λfl ts fs H1 o4 g1 a6 hF n1 n6=>?_⟩
 refine⟨fl,ts,fs,m,rfl,a6,hF,n1,n6,m2,m5,λol us H2 o5 g2 N=>?_⟩
 have d7:=a9U m2 hF
 have lo:(dG m fs fs.length).length=fs.length:=lG
 have lu:=N.ln
 refine⟨⟨_,Vb N.at_⟩,eE (xs:=us.map V.ref) (λj G s=>Same H2 s/\G=nV (((dG m fs fs.length).take j).map λf=>LW f.2)) ?_ ?_ ?_ ?_ ?_⟩
 ·rintro j G s hj ⟨_,rfl⟩
  rw[Ya,Ya,Yj]
  exact bT (by lia)
 ·exact⟨Vd _,rfl⟩
 ·rintro j G s hj ⟨g,_⟩
  exact Vb (g _ _ N.at_)
 ·rintro j x G s hx ⟨g,rfl⟩
  rw[Yl]at hx
  obtain⟨t,ht,rfl⟩:=YH.mp hx
  have hj:j<(dG m fs fs.length).length:=by rw[<-lu];exact(Ye.mp ht).1
  obtain⟨f,ef⟩:∃f,(dG m fs fs.length)[j]? =some f:=⟨_,Yb hj⟩
  obtain⟨d,et,ed⟩:=N.tp j t f ht ef
  have tk:(dG m fs fs.length).take (j+1)=(dG m fs fs.length).take j++[f]:=by rw[Yg hj,Yp ((Yb hj).symm.trans ef)]
  rw[tk,Yn]
  obtain⟨f1,f2,f3⟩:=d7 f (Yx ef)
  conv=>whnf
  refine⟨_,_,Vc (g _ _ et),rfl,_,_,Vc (g _ _ et),rfl,d,f.2.1,f.2.2,rfl,Vb (g _ _ ed),f1,f2,f3,λH3 g3=>⟨g.trans g3,?_⟩⟩
  show _=nV (_++[LW f.2])
  unfold nV
  rw[Yn]
  rfl
 rintro G H3 ⟨g3,rfl⟩ zl l6
 rw[Ya,lu,Yi (Yd _)]
 have hz:∀z∈(dG m fs fs.length).map (λf=>LW f.2),1<=z/\z<=103:=λz hz=>by
  obtain⟨f,hf,rfl⟩:=YW.mp hz
  exact⟨b7B (d7 f hf),a1J (d7 f hf)⟩
 have lz:((dG m fs fs.length).map λf=>LW f.2).length=fs.length:=by rw[Ya,lo]
 have o7:((dG m fs fs.length).map λf=>LW f.2).sum+fs.length*(12+v)=((dG m fs fs.length).map λf=>LW f.2).sum+fs.length*(12+v):=rfl
 obtain⟨zs,h8⟩:∃zs,zs=(dG m fs fs.length).map λf=>LW f.2:=⟨_,rfl⟩
 rw[<-h8]at hz lz ⊢
 generalize eU:upd H3 zl _=H4
 have k1:=nS l6 eU
 have b7:=nE eU
 clear eU
 have g4:=(g1.trans g2).trans (g3.trans k1)
 refine⟨_,.inl (Vb b7),?_⟩
 rw[Ya,lz]
 refine⟨⟨by lia,by lia⟩,?_⟩
 rw[show (((fs.length:Nat):Int)+1).toNat=fs.length+1 by lia]
 refine fM (lo:=0) (n:=fs.length+1) (λj G s=>Same H4 s/\G=nV ((List.range j).map λk=>(zs.take k).sum+k*(12+v))) ?_ ?_ ?_ ?_
 ·rintro j G s hj ⟨_,rfl⟩
  rw[Ya,Ya,YZ]
  exact bT (by lia)
 ·exact⟨Vd _,rfl⟩
 ·rintro j G s hj ⟨g,rfl⟩
  rw[XE]
  conv=>whnf
  refine⟨_,Vb (g _ _ b7),λp hp=>?_⟩
  rw[wY zs,b1O (by rw[Ya];lia),<-List.map_take]
  generalize eU:upd s p _=H5
  have k2:=nS hp eU
  have ep:=nE eU
  clear eU
  refine⟨_,Vb ep,⟨jE (by lia) (by lia),jE (by lia) (by lia)⟩,g.trans k2,?_⟩
  rw[yS,XT,Yn]
  unfold nV
  rw[Yn]
  congr 1
 rintro G H5 ⟨g5,rfl⟩ sl l7
 obtain⟨st,b9⟩:∃st,st=(List.range (fs.length+1)).map λk=>(zs.take k).sum+k*(12+v):=⟨_,rfl⟩
 rw[<-b9]
 have o0:st.length=fs.length+1:=by rw[b9,Ya,YZ]
 have h9:∀n∈st,n<=5000:=λn Z=>b2S v5 (by rw[lz];exact n6) (λz h=>(hz z h).2) n (by unfold b7N;rw[lz,<-b9];exact Z)
 have eT:st[fs.length]? =some (zs.sum+fs.length*(12+v)):=by
  rw[b9,Yl,X5 (Xi _)]
  show some ((zs.take fs.length).sum+_)=_
  rw[Yi (by rw[lz];exact Yd _)]
 have aT:atI (nV st) ((fs.length:Nat):Int)=some (.int ((zs.sum+fs.length*(12+v):Nat):Int)):=eV (by rw[Yl,eT];rfl)
 have T5:=h9 _ (Yx eT)
 generalize eU:upd H5 sl _=H6
 have k5:=nS l7 eU
 have c3:=nE eU
 clear eU
 have b0:=g5.trans k5
 have g6:=g4.trans b0
 have O:=b0 _ _ b7
 refine⟨a,ns,12,_,rfl,g6.seq hS,M,by decide,by decide,by lia,λp p0 p1=>?_⟩
 obtain⟨p,rfl⟩:=YJ p0
 refine⟨_,.inl (Vb O),_,Vb c3,λtl i0=>?_⟩
 rw[Ya,lz,wY st,b1O (by rw[Ya];lia),<-List.map_take,<-wY]
 generalize eU:upd H6 tl _=H7
 have k6:=nS i0 eU
 have i1:=nE eU
 clear eU
 have g7:=g6.trans k6
 refine⟨_,.inl (Vb (k6 _ _ O)),?_⟩
 rw[Ya,lz]
 refine⟨_,_,Vb (k6 _ _ c3),aT,a,tl,zl,ns,st.take fs.length,zs,v,_,rfl,g7.seq hS,M,Vb i1,Vb (k6 _ _ O),by rw[Yj,lz];lia,by rw[Yj];lia,by rw[Yj];lia,λn Z=>⟨(hz n Z).1,by have:=(hz n Z).2;lia⟩,λn Z=>h9 n (Y1 Z),v5,T5,λt H8 g8=>⟨aO rfl,λtp i2=>?_⟩⟩
 generalize eU:upd H8 tp _=H9
 have k8:=nS i2 eU
 have i3:=nE eU
 clear eU
 refine⟨aO rfl,λwl i4=>?_⟩
 generalize eU:upd H9 wl _=H10
 have k9:=nS i4 eU
 have b1:=nE eU
 clear eU
 have a0:=(k6.trans g8).trans (k8.trans k9)
 refine⟨λa9 s=>∃(wl:Addr)(qs:List Addr)(o:Option (Nat×Nat)),a9= [some (.ref a),some (.int ((m:Nat):Int)),some (.int ((v:Nat):Int)),some (.ref fl),some (.ref ol),some (.ref zl),some (.ref sl),some (.ref wl),none,none,none,none,none]/\Same H6 s/\s wl=some (.lst (qs.map V.ref))/\PrT s qs (prs o)/\∀p t,o=some (p,t)->p<m,?_,?_⟩
 ·refine⟨a,ns,13,8,rfl,(g6.trans a0).seq hS,M,by decide,by decide,by decide,λu u0 u1=>?_⟩
  conv=>whnf
  refine bQ (λc=>?_) (λc=>?_)
  ·refine⟨aO rfl,λw2 l8=>⟨w2, [],none,rfl,a0.trans (aK l8 _),aB,.nil,λp t e=>by cases e⟩⟩
  ·exact⟨wl, [tp],some (p,t),rfl,a0,b1,.cons (k9 _ _ i3) .nil,λp' t' e=>by cases e;lia⟩
 clear k9 b1 k8 i3 i2 i4 a0 g8
 rintro a9 H8 ⟨wl,qs,I,rfl,c4,b1,i5,l9⟩
 have g8:=g6.trans c4
 refine⟨⟨by lia,by lia⟩,?_⟩
 rw[YR]
 refine fM (lo:=0) (n:=m) (λi G s=>∃(B:List Addr)(P:List (Nat×Nat)),G=B.map V.ref/\B.length=i/\P.length=i/\Same H8 s/\(∀(j:Nat)(t:Addr)(c:Nat×Nat),B[j]? =some t->P[j]? =some c->s t=some (.tup [.int ((c.1:Nat):Int),.int ((c.2:Nat):Int)]))/\∀c∈P,c.1<256/\c.2<256) ?_ ?_ ?_ ?_
 ·rintro i G s hi ⟨B,P,rfl,U,_⟩
  rw[Ya,U]
  exact bT (by lia)
 ·exact⟨[], [],rfl,rfl,rfl,Vd _,λj t c h=>by simp at h,λc hc=>by cases hc⟩
 ·rintro i G s hi ⟨B,P,rfl,U,i6,g,i7,hb⟩
  conv=>whnf
  refine⟨a,fl,ns,i,ts,fs,by rw[XE];rfl,(g8.trans g).seq hS,M,by lia,a6.same (g2.trans (g3.trans (k1.trans (b0.trans (c4.trans g))))),n1,n6,λf hf=>(hF.ok f hf).2,λc1 c2 t H2 m0 m1 ht g2 et=>?_⟩
  refine⟨B++[t],P++[(c1,c2)],by rw[Yn];rfl,by rw[Yc,U];rfl,by rw[Yc,i6];rfl,g.trans g2,λj t' c' A F=>?_,λd hd=>?_⟩
  ·by_cases e:j<i
   ·rw[YF (by lia)]at A F
    exact g2 _ _ (i7 j t' c' A F)
   ·rw[Yy (by lia)]at A F
    rw[U]at A
    rw[i6]at F
    cases ej:j-i with
    |zero=>rw[ej]at A F;cases A;cases F;exact et
    |succ k=>rw[ej]at A;cases A
  ·rcases YO.mp hd with y | y
   ·exact hb d y
   ·rw[Ym.mp y];exact⟨m0,m1⟩
 rintro G H9 ⟨B,P,rfl,lc,lm,g9,b2,hb⟩ cl i8
 generalize eU:upd H9 cl _=H10
 have k9:=nS i8 eU
 have d8:=nE eU
 clear eU
 have c7:=g9.trans k9
 refine⟨_,.inl (Vb d8),λd9 c8=>?_⟩
 generalize eU:upd H10 d9 _=H11
 have b3:=nS c8 eU
 have c9:=nE eU
 clear eU
 have W:=c7.trans b3
 have c5:=g8.trans W
 have i9:(chI P).length=m:=by rw[Ya,lm]
 have hC:a1A H11 d9 (chI P):=⟨B,c9,by rw[i9,lc],λi t c A F=>by
  rw[Yl]at F
  obtain⟨c',ec,rfl⟩:=YH.mp F
  exact b3 _ _ (k9 _ _ (b2 i t c' A ec))⟩
 have j7:∀c∈chI P,a7E c.1 c.2 ((v:Nat):Int):=λc hc=>by
  obtain⟨d,hd,rfl⟩:=YW.mp hc
  have:=hb d hd
  exact⟨gK.mpr ⟨by show (0:Int)<=((d.1:Nat):Int);lia,by show ((d.1:Nat):Int)<=255;lia⟩,gK.mpr ⟨by show (0:Int)<=((d.2:Nat):Int);lia,by show ((d.2:Nat):Int)<=255;lia⟩,by lia⟩
 refine λr dr D e0 m4=>⟨r,dr,d9,_,_,rfl,aB,hC.keep (λx u _ e=>by rw[aH (aL e D),aH (aL e e0)];exact e),by lia,λ_ m6 o hR j8 hk=>⟨rfl,?_⟩,λno=>absurd ⟨⟨by lia,by lia⟩,j7⟩ no⟩
 obtain⟨no,e6⟩:=b0I D e0 j8 hk
 have b4:=c5.trans e6
 have j0:JE Zp CA (λx=>if x=1080 then none else H11 x) m6 r (R0 (chI P) ((v:Nat):Int)) o:=by
  refine⟨hR,?_,λx u e=>?_⟩
  ·obtain⟨L,A,F,h3⟩:=hT
   have nx:∀x u,H x=some u->¬ o x:=λx u e z=>by have y:=c5 _ _ e;rw[no x z]at y;cases y
   exact⟨nx _ _ A,L,b4 _ _ A,F,h3.imp id λ⟨c',a',b'⟩=>⟨c',a',b4 _ _ b',nx _ _ b'⟩⟩
  ·by_cases z:x=1080
   ·rw[if_pos z]at e;cases e
   ·rw[if_neg z]at e
    exact⟨e6 _ _ e,λy=>(by rw[no x y]at e;cases e),z⟩
 have tP:∀{x u},H11 x=some u->(∀L,u≠HO.tbl L)->x≠1080:=λ{x u} e n z=>by
  obtain⟨L,A,_⟩:=hT
  rw[z,c5 _ _ A]at e
  cases e
  exact n _ rfl
 have f9:∀{x u},H11 x=some u->(∀L,u≠HO.tbl L)->(λx=>if x=1080 then none else H11 x) x=some u:=λ{x u} e n=>by dsimp only;rw[if_neg (tP e n)];exact e
 have gS:∀x u,H x=some u->x≠1080->(λx=>if x=1080 then none else H11 x) x=some u:=λx u e n=>by dsimp only;rw[if_neg n];exact c5 _ _ e
 have a3:=c4.trans W
 have E:=(g3.trans k1).trans (b0.trans a3)
 have a7:tW (λx=>if x=1080 then none else H11 x) fl ts fs:=⟨f9 (E _ _ (g2 _ _ a6.at_)) (λL=>by simp),a6.ln,λi t f A F=>by
  obtain⟨d,a1,a2⟩:=a6.tp i t f A F
  exact⟨d,f9 (E _ _ (g2 _ _ a1)) (λL=>by simp[frT]),f9 (E _ _ (g2 _ _ a2)) (λL=>by simp)⟩⟩
 have j9:tW (λx=>if x=1080 then none else H11 x) ol us (dG m fs fs.length):=⟨f9 (E _ _ N.at_) (λL=>by simp),N.ln,λi t f A F=>by
  obtain⟨d,a1,a2⟩:=N.tp i t f A F
  exact⟨d,f9 (E _ _ a1) (λL=>by simp[frT]),f9 (E _ _ a2) (λL=>by simp)⟩⟩
 have d3:=f9 (a3 _ _ O) (λL=>by simp)
 have d4:=f9 (a3 _ _ c3) (λL=>by simp)
 have a4:=f9 (W _ _ b1) (λL=>by simp)
 have d5:=f9 (b3 _ _ d8) (λL=>by simp)
 have a5:PrT (λx=>if x=1080 then none else H11 x) qs (prs I):=i5.mono λb xs e=>f9 (W _ _ e) (λL=>by simp)
 have d6:∀(j:Nat)(t:Addr)(c:Nat×Nat),B[j]? =some t->P[j]? =some c->(λx=>if x=1080 then none else H11 x) t=some (.tup [.int ((c.1:Nat):Int),.int ((c.2:Nat):Int)]):=λj t c A F=>f9 (b3 _ _ (k9 _ _ (b2 j t c A F))) (λL=>by simp)
 generalize (λx=>if x=1080 then none else H11 x)=F0 at j0 gS a7 j9 d3 d4 a4 d5 a5 d6
 have c6:=tV.start v P fs
 rw[lm]at c6
 obtain⟨ch,e7⟩:∃ch:Nat->Nat×Nat,ch=λi=>P.getD i (0,0):=⟨_,rfl⟩
 rw[<-e7]at c6
 have m8:∀i,i<m->P[i]? =some (ch i):=λi hi=>by
  rw[e7]
  show _=some (P.getD i (0,0))
  rw[Yf,Yb (by lia)]
  rfl
 generalize R0 (chI P) ((v:Nat):Int)=R5 at j0 c6
 clear f9 tP j7 hC j8 hk no m4 D e0 hR d8 c9 i8 c8 b2 b1 i5 c3 O b7 a6 N g1 g2 g3 k1 b0 c4 W a3 E e6 b4 c7 k9 b3 g9 g5 k5 k6 i1 i0 g7 g8 i9 e7
 have sq:∀{s:Hp}{R:RS}{o:Own},JE Zp CA F0 s r R o->SqL K s a (ns.map V.int):=λj=>SqL.keepT hS hT λx u e n=>(j.kp x u (gS x u e n)).1
 refine⟨⟨_,Vb (j0.sm _ _ a7.at_)⟩,jD (xs:=ts.map V.ref) (λi X s=>(∃x,X= [some (.ref a),some (.int ((m:Nat):Int)),some (.int ((v:Nat):Int)),some (.ref fl),some (.ref ol),some (.ref zl),some (.ref sl),some (.ref wl),some (.ref cl),some (.ref r),x,none,none])/\∃(R:RS)(o:Own),JE Zp CA F0 s r R o/\tV m v ch fs i R) ⟨⟨_,rfl⟩,R5,o,j0,c6⟩ ?_ ?_ ?_⟩
 ·rintro i X s hi ⟨_,R1,o1,j1,_⟩
  exact Vb (j1.sm _ _ a7.at_)
 ·rintro i y X s hx ⟨⟨y',rfl⟩,R1,o1,j1,Z⟩
  rw[Yl]at hx
  obtain⟨tt,k0,rfl⟩:=YH.mp hx
  have m9:i<fs.length:=by rw[<-a7.ln];exact(Ye.mp k0).1
  obtain⟨f1,e8⟩:∃f,fs[i]? =some f:=⟨_,Yb m9⟩
  obtain⟨d,k1,k2⟩:=a7.tp i tt f1 k0 e8
  have e9:=j1.sm _ _ k1
  have n2:=j1.sm _ _ k2
  obtain⟨fp,fo⟩:=hF.ok f1 (Yx e8)
  obtain⟨w,hR⟩:=j1.rl
  refine⟨⟨w.dx,_,hR.er,rfl⟩,_,_,Vc e9,rfl,_,_,Vc e9,rfl,_,.ref d,Vc e9,rfl,_,.inl (Vb n2),λl U=>?_⟩
  generalize eU:upd s l _=H2
  have g1:=nS U eU
  have el:=nE eU
  have j2:=j1.same g1
  clear eU
  obtain⟨w2,f0⟩:=j2.rl
  obtain⟨n0,n3,n4⟩:=Z.hand hF e8
  have ol:=Z.ol
  have f7:=fo.2.1
  refine⟨r,R1,o1,w2,_,_,l,f1.2.2,rfl,f0,Vb el,by lia,by lia,λS hS=>?_,λno=>absurd ⟨by lia,by rw[Z.ln];lia⟩ no,λ_ no=>absurd fo.ok no,λi' S ei eS _=>?_⟩
  ·obtain⟨j,hj,e⟩:=X3 hS
   have:=Z.ps j (by rw[<-Z.ln];exact hj)
   rw[Yb hj,e]at this
   cases this
   have z:=Xo (λf:Nat×Nat×List Int=>decide (f.1=j)) (fs.take i)
   show (lW (fs.take i) j).length<900
   unfold lW
   rw[Ya]
   rw[Yj]at z
   lia
  ·have n5:i'=f1.1:=by lia
   subst n5
   rw[n3]at eS
   cases eS
   refine⟨((f1.1:Nat):Int),by rw[n0],λno=>absurd rfl no,λ_ H3 o3 f4 m3=>⟨⟨_,rfl⟩,_,o3,j2.mv f4 m3,?_⟩⟩
   rw[YR]
   exact n4
 rintro X o8 ⟨⟨y,rfl⟩,R1,o1,j1,Z⟩
 rw[Ya,a7.ln]at Z
 have hA:=Z.all m2 m5 v2 v5 hF n6 l9
 rw[<-h8]at hA
 generalize zs.sum+fs.length*(12+v)=T at hA aT
 have T7:=hA.tm
 have pl:(prs I).length<=200:=by cases I <;> exact Nat.le_of_ble_eq_true rfl
 have f6:∀t,(dD (prs I) R1 t).ps≠ []:=λt z=>by have:=hA.ne t;rw[z]at this;have:0=m:=this;lia
 obtain⟨w1,n7⟩:=j1.rl
 refine⟨⟨w1.dx,_,n7.er,rfl⟩,_,.inl (Vb (j1.sm _ _ d3)),?_⟩
 rw[Ya,lz]
 refine⟨_,_,Vb (j1.sm _ _ d4),aT,wl,qs,prs I,rfl,j1.sm _ _ a4,a5.same j1.sm,pl,j1.tb.tabP,λg c c' d k3 hg hc hd a8 sm f8 tC e1 e2 e3 e4=>?_⟩
 obtain⟨j2,n8⟩:=j1.ear hg hc hd a8 sm tC e1 e2 e3 e4
 clear f8 tC e1 e2 e3 e4 sm a8 hg hc hd
 obtain⟨w2,f0⟩:=j2.rl
 refine⟨r,R1,o1,w2,T,g,prs I,rfl,f0,f6 0,by lia,λk hk=>hA.sz k (by lia),n8,λl g0 o2 f4 m3 U=>?_⟩
 have j3:=(j2.mv f4 m3).same (aK U (.lst (((List.range T).map λk=>a0V (dD (prs I) R1 k)).map V.int)))
 generalize upd g0 l _=H16 at j3
 have h0:∀t,(dD (prs I) R1 t).ps.length=m:=hA.ne
 refine⟨⟨by decide,by decide⟩,lJ (lo:=0) (n:=10) (λk X s=>(∃x,X= [some (.ref a),some (.int ((m:Nat):Int)),some (.int ((v:Nat):Int)),some (.ref fl),some (.ref ol),some (.ref zl),some (.ref sl),some (.ref wl),some (.ref cl),some (.ref r),y,x,none])/\∃(t:Nat)(o:Own),JE Zp CA F0 s r (dD (prs I) R1 t) o/\(t=T+20*k\/(t<=T+20*k/\a0Z ch (dG m fs fs.length) (dD (prs I) R1 t)))) ⟨⟨_,rfl⟩,T,o2,j3,.inl rfl⟩ ?_ ?_⟩
 ·rintro k X s hk ⟨⟨x,rfl⟩,t,o3,j4,ht⟩
  refine⟨⟨by lia,by lia⟩,?_⟩
  rw[YR]
  refine fM (lo:=0) (n:=m) (λi G H2=>Same s H2/\∃ls:List Nat,G=nV ls/\ls.length=i/\∀(j:Nat)(S:PS)(n:Nat),ls[j]? =some n->(dD (prs I) R1 t).ps[j]? =some S->n=S.wt.length) ?_ ?_ ?_ ?_
  ·rintro i G H2 hi ⟨_,ls,rfl,U,_⟩
   rw[Ya]
   exact bT (by lia)
  ·exact⟨Vd _, [],rfl,rfl,λj S n h=>by simp at h⟩
  ·rintro i G H2 hi ⟨g,ls,rfl,U,h4⟩
   rw[XE]
   conv=>whnf
   obtain⟨w4,k4⟩:=(j4.same g).rl
   refine⟨⟨w4.dx,_,k4.er,rfl⟩,r,_,o3,w4,_,rfl,k4,λi' S ei eS=>?_,λno=>absurd ⟨by lia,by rw[h0];lia⟩ no⟩
   have ij:i'=i:=by lia
   subst ij
   have w6:=hA.wl t S (Yx eS)
   refine⟨by lia,λl xs H5 k7 k5 el f5=>⟨_,.inl (Vb el),g.trans k5,ls++[S.wt.length],?_,by rw[Yc,U];rfl,λj S' n A F=>?_⟩⟩
   ·rw[f5.len]
    unfold nV
    rw[Yn]
    rfl
   ·by_cases c:j<ls.length
    ·rw[YF c]at A
     exact h4 j S' n A F
    ·rw [Yy (by lia)]at A
     cases ej:j-ls.length with
     | zero=>
      rw[ej]at A
      cases A
      rw[show j=i' by lia,eS]at F
      cases F
      rfl
     |succ z=>rw[ej]at A;cases A
  rintro G H2 ⟨g,ls,rfl,U,h4⟩ l5 k7
  rw[wY]
  generalize eU:upd H2 l5 _=H5
  have k5:=nS k7 eU
  have e5:=nE eU
  have J:=(j4.same g).same k5
  clear eU
  refine⟨_,Vb e5,λz=>?_,λmx o9 n9=>bQ (λc=>?_) (λc=>?_)⟩
  ·have:=YU List.length z
   rw[Ya]at this
   have:ls.length=0:=this
   lia
  ·obtain⟨w5,b5⟩:=J.rl
   have tn:t+20<=980:=by lia
   refine⟨⟨w5.dx,_,b5.er,rfl⟩,wl,qs,prs I,rfl,J.sm _ _ a4,a5.same J.sm,pl,J.tb.tabP,λg c c' d k3 hg hc h5 a8 sm f8 tC e1 e2 e3 e4=>?_⟩
   obtain⟨j6,h6⟩:=J.ear hg hc h5 a8 sm tC e1 e2 e3 e4
   obtain⟨w6,h7⟩:=j6.rl
   refine⟨r,_,o3,w6,20,g,prs I,rfl,h7,f6 t,by decide,λk hk=>by rw[mH];exact hA.sz _ (by lia),h6,λl g0 o6 b6 m7 U=>?_⟩
   rw[mH]at b6
   refine⟨⟨_,rfl⟩,t+20,o6,(j6.mv b6 m7).same (aK U _),?_⟩
   rcases ht with ht | ⟨ht,hd⟩
   ·left;lia
   ·exact .inr ⟨by lia,hA.d2 t 20 hd⟩
  ·refine⟨⟨_,rfl⟩,t,o3,J,.inr ⟨by lia,hA.d0 t λS hS=>?_⟩⟩
   obtain⟨i,hi⟩:=Xn.mp hS
   have l0:i<ls.length:=by
    rw[U,<-h0 t]
    exact(Ye.mp hi).1
   have e:=h4 i S _ (Yb l0) hi
   have le:=n9 _ (YW.mpr ⟨_,YE l0,rfl⟩)
   have c0:¬ (0:Int)<mx:=dec_false c
   exact XI.mp (by lia)
 rintro X p2 ⟨⟨x,rfl⟩,t,o3,j4,ht⟩
 have hd:a0Z ch (dG m fs fs.length) (dD (prs I) R1 t):=ht.elim (λz=>hA.d1 t (by lia)) λz=>z.2
 have t2:t<=T+200:=by lia
 refine⟨⟨by decide,by decide⟩,lJ (lo:=0) (n:=2) (λk X s=>(∃x z,X= [some (.ref a),some (.int ((m:Nat):Int)),some (.int ((v:Nat):Int)),some (.ref fl),some (.ref ol),some (.ref zl),some (.ref sl),some (.ref wl),some (.ref cl),some (.ref r),y,x,z])/\∃(t:Nat)(o:Own),JE Zp CA F0 s r (dD (prs I) R1 t) o/\t<=T+200+10*k/\a0Z ch (dG m fs fs.length) (dD (prs I) R1 t)) ⟨⟨_,_,rfl⟩,t,o3,j4,t2,hd⟩ ?_ ?_⟩
 ·rintro k X s hk ⟨⟨x,z,rfl⟩,t,o3,j4,t2,hd⟩
  refine⟨⟨by lia,by lia⟩,?_⟩
  rw[YR]
  refine lJ (lo:=0) (n:=m) (λi X s=>(∃z,X= [some (.ref a),some (.int ((m:Nat):Int)),some (.int ((v:Nat):Int)),some (.ref fl),some (.ref ol),some (.ref zl),some (.ref sl),some (.ref wl),some (.ref cl),some (.ref r),y,some (.int (0+((k:Nat):Int))),z])/\JE Zp CA F0 s r (dD (prs I) R1 t) o3) ⟨⟨_,rfl⟩,j4⟩ ?_ ?_
  ·rintro i X H2 hi ⟨⟨z,rfl⟩,J⟩
   rw[XE ((i:Nat):Int)]
   have il:i<B.length:=by lia
   obtain⟨w5,b5⟩:=J.rl
   have eS:=Yb (l:=(dD (prs I) R1 t).ps) (i:=i) (by rw[h0];exact hi)
   obtain⟨s1,s2,s3,s4⟩:=hd i _ eS
   have l4:=d6 i _ _ (Yb il) (m8 i hi)
   rw[<-s1,<-s2]at l4
   refine⟨_,.ref B[i],Vb (J.sm _ _ d5),eV (by rw[Yl,Yb il];rfl),r,_,o3,w5,i,_,B[i],ol,us,_,rfl,b5,eS,J.sm _ _ l4,j9.same J.sm,by rw[lo];exact n6,s4,s3,λH3 g3=>?_⟩
   conv=>whnf
   exact⟨⟨_,rfl⟩,J.same g3⟩
  rintro X H2 ⟨⟨z,rfl⟩,J⟩
  refine bQ (λc=>?_) (λc=>?_)
  ·obtain⟨w5,b5⟩:=J.rl
   refine⟨⟨w5.dx,_,b5.er,rfl⟩,wl,qs,prs I,rfl,J.sm _ _ a4,a5.same J.sm,pl,J.tb.tabP,λg c c' d k3 hg hc h5 a8 sm f8 tC e1 e2 e3 e4=>?_⟩
   obtain⟨j6,h6⟩:=J.ear hg hc h5 a8 sm tC e1 e2 e3 e4
   obtain⟨w6,h7⟩:=j6.rl
   refine⟨r,_,o3,w6,10,g,prs I,rfl,h7,f6 t,by decide,λk hk=>by rw[mH];exact hA.sz _ (by lia),h6,λl g0 o6 b6 m7 U=>?_⟩
   rw[mH]at b6
   exact⟨⟨_,_,rfl⟩,t+10,o6,(j6.mv b6 m7).same (aK U _),by lia,hA.d2 t 10 hd⟩
  ·exact⟨⟨_,_,rfl⟩,t,o3,J,by lia,hd⟩
 rintro X p3 ⟨⟨x,z,rfl⟩,_⟩
 exact q _
set_option maxHeartbeats 0 in
include Zb4 Zax Zdm ZI ZjS Zbu Zdn ZdJ Zd2 Zs Zem Zen ZaO Zc6 Zbv Zcp ZcM Zc7 Zd4 ZeF ZbJ ZdF ZfM ZjT ZcL Zel ZbX ZcX Zab Zg2 Zdq ZdE ZcA Zbw ZdI ZcW ZdH ZeG Zek Zeo ZaX Zd3 Zii ZeR ZJ ZjU ZaP Zo ZfN ZfO Zep ZfP Zb5 Zij Zg3 Zdl Zg Zf Zh Zbj Ze Zae Zd Zdk ZK Zi ZB Zn Zq ZP ZU Zb ZaR Zam ZdD ZaL Zar Zbi ZaC Zbh ZcK Zcs Zb3 Zc ZdZ Zd0 ZO Zz ZaI Zbc ZaY ZaQ ZaJ Zav Zaa ZR ZM Za2 ZbG Zd1 Zaf ZbD Za3 Zbb ZaW ZaN Zat ZaH Zbm Zbn ZbN ZaG Zbl ZaV ZaM ZbH ZbP ZbE Za9 Zbo ZbR Zcl Zb6 ZbI ZbQ ZbF Zba Zbp ZbS Zcm ZF Zb7 Zb9 Zb8 Za4 Zcn ZbO Zco Zao Zca ZaU ZeH Zad Zr Zw Zm ZD Zt ZZ ZE ZN Zy ZX Zaw Zx Zap Z5 ZL ZY Zan Zk Zj Zau ZG Z0 Z3 ZC Zac Z9 Zaq Zah Zag ZdG in
theorem all_mk {l:W.OpenLaw}{fa:Addr}(x:mg "law"=some (.ref fa))
 :GFc K mg "ear" Zg4 Zll 1084->GF K mg "bits_of" Zjc Zgs->GF K mg "number_of" ZhN Zfh->GF K mg "are_bytes" ZhL Zff->GF K mg "divided" Zjd Zgt->GF K mg "rest_of" Zjf Zgv->GF K mg "check_of" ZiA ZfK->GF K mg "is_name" Zje Zgu->GF K mg "put_in" Zky ZhV->GF K mg "check_frame" Zgn Zev->GF K mg "frame_bits" ZgY ZeI->GF K mg "wire_of" Zjg Zgw->GF K mg "told_size" ZhO Zfi->GF K mg "is_complete" Zgp Zex->GF K mg "read_frame" ZgZ ZeJ->GF K mg "begun_reader" ZfE Zd8->GF K mg "is_wanted" ZhM Zfg->GF K mg "copies" Zkx ZhU->GF K mg "unless_off" Zg1 ZeL->GF K mg "fault_of" ZiB ZfL->GF K mg "refusal_of" Zg0 ZeK->GF K mg "blame_of" Ziz ZfJ->GF K mg "check_votes" Zgo Zew->GF K mg "check_choice" ZfF Zd9->GF K mg "_law_draw" ZhH Zfb->GF K mg "_law_size" ZhJ Zfd->GF K mg "_law_frames" Zgl Zet->GF K mg "_law_choice" Zgk Zes->GF K mg "_law_merged" Zgm Zeu->GF K mg "_law_turn" ZhK Zfe->GF K mg "_law_same" ZhI Zfc->GF K mg "law" ZlJ Zlm->MF K CA.streak "__init__" "Streak.__init__" Zgj ZdC->MF K CA.streak "lengthen" "Streak.lengthen" Zez Zcr->MF K CA.streak "is_full" "Streak.is_full" ZeW ZcJ->MF K CA.streak "is_too_long" "Streak.is_too_long" Zd7 ZbM->MF K CA.reader "__init__" "Reader.__init__" Zgf Zdy->MF K CA.reader "judged" "Reader.judged" Ze9 Zc3->MF K CA.reader "hear" "Reader.hear" Zge Zdx->MF K CA.reader "plain" "Reader.plain" ZfA Zdg->MF K CA.reader "frame" "Reader.frame" Zfz Zdf->MF K ZdV "__init__" "Tail.__init__" ZhF Zej->MF K ZdV "says" "Tail.says" ZhG Zdp->MF K ZdV "is_fault" "Tail.is_fault" Zfa Zck->MF K ZdV "judged_vote" "Tail.judged_vote" Zer Zbt->MF K ZdV "hear" "Tail.hear" ZhE Zdo->MF K CA.rtail "__init__" "ReadTail.__init__" Ze8 Zc2->MF K CA.stail "__init__" "SpeakTail.__init__" ZeV ZcI->MF K CA.count "__init__" "Count.__init__" ZgO ZdL->MF K CA.count "is_quiet" "Count.is_quiet" ZeS ZcE->MF K CA.count "is_off" "Count.is_off" Zfw Zdc->MF K CA.count "move" "Count.move" ZgP ZdM->MF K CA.count "fault" "Count.fault" Zf9 Zds->MF K CA.count "blame" "Count.blame" Zf8 Zdr->MF K CA.count "good" "Count.good" ZgN ZdK->MF K CA.free "__init__" "Free.__init__" Zhv Zea->MF K CA.speaks "__init__" "Speaks.__init__" Zgg Zdz->MF K CA.reads "__init__" "Reads.__init__" ZgS ZdP->MF K CA.intail "__init__" "InTail.__init__" Zga Zdt->MF K CA.flag "__init__" "Flagging.__init__" Ze4 ZcY->MF K CA.settles "__init__" "Settles.__init__" ZfB Zdh->MF K CA.rests "__init__" "Rests.__init__" ZgV ZdS->MF K CA.post "is_quiet" "Post.is_quiet" Ze7 Zc1->MF K CA.post "is_off" "Post.is_off" Zgd Zdw->MF K CA.post "has_frame" "Post.has_frame" ZeT ZcG->MF K CA.post "foremost_wire" "Post.foremost_wire" Zd6 ZbL->MF K CA.post "drop_foremost" "Post.drop_foremost" Zd5 ZbK->MF K CA.post "hand_up" "Post.hand_up" Zfx Zdd->MF K CA.post "hand" "Post.hand" Zhy Zed->MF K CA.post "waits" "Post.waits" ZgQ ZdN->MF K CA.post "got" "Post.got" Ziw ZeC->MF K CA.post "__init__" "Post.__init__" ZhA Zef->MF K CA.free "says" "Free.says" Zhw Zeb->MF K CA.speaks "says" "Speaks.says" Zgh ZdA->MF K CA.reads "says" "Reads.says" ZgT ZdQ->MF K CA.intail "says" "InTail.says" Zgb Zdu->MF K CA.flag "says" "Flagging.says" Ze5 ZcZ->MF K CA.settles "says" "Settles.says" ZfC Zdi->MF K CA.rests "says" "Rests.says" ZgW ZdT->MF K CA.off "says" "Off.says" Ziu ZeA->MF K CA.off "step" "Off.step" Ziv ZeB->MF K CA.flag "step" "Flagging.step" Ze6 Zc0->MF K CA.settles "step" "Settles.step" ZfD Zdj->MF K CA.rests "step" "Rests.step" ZgX ZdU->MF K CA.free "step" "Free.step" Zhx Zec->MF K CA.reads "step" "Reads.step" ZgU ZdR->MF K CA.speaks "step" "Speaks.step" Zgi ZdB->MF K CA.intail "step" "InTail.step" Zgc Zdv->MF K CA.post "says" "Post.says" ZhB Zeg->MF K CA.post "hear" "Post.hear" Zhz Zee->MF K Zp "post_at" "Rail.post_at" Zfy Zde->MF K Zp "__init__" "Rail.__init__" ZhD Zei->MF K Zp "hand" "Rail.hand" ZhC Zeh->MF K Zp "make_turn" "Rail.make_turn" ZeU ZcH->MF K Zp "run" "Rail.run" Ziy ZeE->MF K Zp "got" "Rail.got" Zix ZeD->MF K Zp "waits" "Rail.waits" ZgR ZdO->
 ∃fd:FuncData,(∀(s:Shared)(v:Value),BindsTo s fd ⟨[v], []⟩ [("_law_script",v)])/\∀base:Heap,K.In base->base.Ns mainGlobals mg->iV l.prog w K mg base CX0 15 fa fd ["_law_script"] (qO K):=by
 intro c y z A B C D E G H I J L M N O P Q R S T U V X Y Z a0 a1 a2 a3 a4 a a5 a6 a7 a8 a9 b0 b1 b2 b3 b4 b5 b6 b7 b9 c0 c1 c2 c3 c4 c5 c6 c7 c8 c9 d0 d1 d2 d3 d4 d5 d6 d7 d8 d9 e0 e1 e2 e3 e4 e5 e6 e7 e8 e9 f0 f1 f2 f3 f4 f5 f6 f7 f8 f9 g0 g1 g2 g3 g4 g5 g6 g7 g8 g9 h0
 cases x.symm.trans a.s.m
 refine⟨Exists.choose a,λs v=>?_,λbase _ _=>?_⟩
 ·obtain⟨_,_,_,_,_,_,_,_,_,e,_⟩:=a.s.F.ex
  rw[e]
  exact .of_eq rfl
 have h1:=ZlL l.prog w mg base ZeH ZdG c.s.2 c.s.1
 have d:=ZiY l.prog w mg base CA Zh Zad Zr a5.s
 have ZQ:=ZgM l.prog w mg base CA Zh Zad Zr a6.s
 have ZH:=Zha l.prog w mg base CA Zb4 Zh Zr a7.s
 have h2:=Zfv l.prog w mg base CA Zb4 Zh Zr a8.s
 have ZV:=Zlo l.prog w mg base Zax ZJ y.s
 have Zu:=Zkv l.prog w mg base  z.s
 have f:=Zkt l.prog w mg base Zdm ZjU A.s
 have h3:=Zlp l.prog w mg base ZI B.s
 have Z4:=Zlr _ w mg base ZI ZjS Zu h3 C.s
 have h4:=Zk5 _ w mg base Zax ZI Zbu ZaP ZV Z4 D.s
 have h5:=Zlq l.prog w mg base Zdn E.s
 have h6:=ZlB _ w mg base CA ZdJ Zh Zbj ZO Zz d ZQ ZH G.s
 have Zv:=Zi2 _ w mg base Zd2 Zs Zo f h5 H.s
 have h7:=ZjK _ w mg base Zax ZI Zs Zem Zen ZaO Zo ZV h4 Zv I.s
 have h8:=Zls _ w mg base Zax ZI Zs h6 h7 J.s
 have g:=Zkw _ w mg base Zc6 Zbv Zu L.s
 have Z2:=Zi4 _ w mg base Zbu ZaO Zbv Zo g M.s
 have h9:=ZjL _ w mg base ZI Zs ZaO Zc6 Zbv ZJ Zu Z4 g Z2 N.s
 have i0:=ZiU _ w mg base CA ZdJ Zbj Ze Zw Zm ZD d a9.s
 have i1:=Zh1 _ w mg base CA ZI Zh Ze Zz ZaI Zw Zm ZH h2 Z4 Z2 b0.s
 have Z1:=ZiT _ w mg base CA ZI Zh Ze ZO Zz Zbc Zw Zm ZD ZQ ZH i1 b1.s
 have i2:=Zio l.prog w mg base CA ZaP Ze Zm b2.s
 have i3:=Zin _ w mg base CA ZI Zs Ze Zm ZD h9 b3.s
 have h:=Zkn l.prog w mg base CA Zg Zf b4.s
 have i4:=Zko l.prog w mg base CA Zcp Zg Zf b5.s
 have i5:=Zh2 l.prog w mg base CA Zcp Zg Zf b6.s
 have i6:=Zgq l.prog w mg base CA ZcM Zg Zf b7.s
 have i7:=Zkm _ w mg base CA ZcM Zg Zf ZaY ZaQ ZaJ Zav i5 i6 b9.s
 have i8:=Zh0 _ w mg base CA Zc7 Zg Zf Zae h c0.s
 have i9:=Zg9 _ w mg base CA Zc7 Zg Zf Zae h c1.s
 have j0:=ZjA l.prog w mg base CA Zd Zt c2.s
 have j1:=Zg6 l.prog w mg base CA Zd4 Zd Zt c3.s
 have i:=Zik l.prog w mg base CA ZeF Zd Zt c4.s
 have Z7:=ZjB _ w mg base CA ZfN Zd Zaa Zt i c5.s
 have j:=ZiO _ w mg base CA ZbJ ZdF Zd ZR Z7 c6.s
 have j2:=ZiN _ w mg base CA ZbJ Zd ZR Z7 c7.s
 have j3:=Zjz _ w mg base CA Zd ZR Z7 c8.s
 have Z6:=Zis _ w mg base CA ZI Zs ZfM Ze Zdk ZM i0 Z1 O.s
 have b:=Zkd l.prog w mg base CA ZK ZZ c9.s
 have k:=ZiV l.prog w mg base CA Zi ZE ZN Zy d0.s
 have Z8:=ZjE l.prog w mg base CA ZB ZX Zaw d1.s
 have n:=ZiP l.prog w mg base CA Zn Zx Zap d2.s
 have o:=ZhW l.prog w mg base CA Zq Z5 ZL d3.s
 have ZT:=Zip l.prog w mg base CA ZP ZY d4.s
 have ZW:=ZjH l.prog w mg base CA ZU Zan d5.s
 have j4:=ZhZ _ w mg base CA Zd Zb Za2 Zk j1 d6.s
 have j5:=ZiS _ w mg base CA Zd Zb Zaa Zk i d7.s
 have j6:=Zg7 l.prog w mg base CA Zo Zb Zj d8.s
 have j7:=Zfu _ w mg base CA Zax ZI Zs Zb Zj h8 d9.s
 have j8:=Zft l.prog w mg base CA Zb Zj e0.s
 have j9:=Zku l.prog w mg base  P.s
 have k0:=Zil _ w mg base CA Zb Zau ZG j9 e1.s
 have k1:=Zkg _ w mg base CA Zs ZaP Zb Zj Zv e2.s
 have p:=ZlA l.prog w mg base ZaP Q.s
 have k2:=ZjC _ w mg base CA Zb Zj p e3.s
 have k3:=Zk1 _ w mg base CA Zb ZG p e4.s
 have ZA:=ZjN _ w mg base CA ZjT Zb ZbG Zd1 j5 R.s
 have q:=Zk6 _ w mg base CA ZcL Zel Zd Zb ZaR Zaf Zk j o ZA S.s
 have k4:=ZjM _ w mg base CA ZbX Zd Zb Zam Zaf Zk j ZT ZA T.s
 have k5:=Zk4 _ w mg base CA ZbX Zd Zb Zam ZbD Zk j2 ZT ZA U.s
 have k6:=Zi3 l.prog w mg base ZcX Zab Zdl V.s
 have k7:=Zit _ w mg base Zab f X.s
 have k8:=Zki _ w mg base CA ZcX Zab Zg2 Zdq Zb ZdD ZaL Zk Zj Zau ZG Z0 Z3 j0 b k6 k7 e5.s
 have r:=Zke _ w mg base CA ZdE ZK Zb Za3 Zbb ZZ j4 j6 e6.s
 have k9:=ZiW l.prog w mg base CA Zi ZE Zy e7.s
 have l0:=ZjF l.prog w mg base CA  e8.s
 have l4:=ZiQ _ w mg base CA Zg Zf Zn ZaW ZaN Zx i4 e9.s
 have l5:=ZhX l.prog w mg base CA  f0.s
 have l6:=Ziq l.prog w mg base CA  f1.s
 have l7:=ZjI l.prog w mg base CA  f2.s
 have l8:=ZkZ l.prog w mg base CA  f3.s
 have l9:=Zk0 l.prog w mg base CA  f4.s
 have m0:=ZhY _ w mg base CA ZcL ZbX Zq ZaR Zam Z5 ZL o ZT f5.s
 have m1:=Zir _ w mg base CA ZcA Zbw ZP Zar ZY ZW k5 f6.s
 have m2:=ZjJ _ w mg base CA Zdq ZcA ZU ZaL Zar Zan b ZW q f7.s
 have m3:=Zkf _ w mg base CA Zax ZI Zs Zdq ZdI ZcW ZK Zb ZaL Zbi ZaC Zat ZaH ZZ Z6 b k Z8 j7 q r f8.s
 have m4:=ZjG _ w mg base CA ZI Zs Zc7 ZcW ZdH ZeG Ze ZB Zb ZaC Zbh ZcK ZM Zbm ZX Zaw Z0 Z1 i3 i8 Z8 n q f9.s
 have m5:=ZiX _ w mg base CA ZI Zs Zc7 ZdI ZcW ZdH Zek Zeo Zo Ze Zi Zb Zbi ZaC Zbh Zcs ZM Zbn ZE ZN Zy Z0 Z1 i2 i9 k Z8 n q g0.s
 have m6:=ZiR _ w mg base CA ZcA Zbw Zg Zf Zd Zn Zb Zar ZbN ZaG Zbl ZaV ZaM Zx Zap Zk i7 j3 ZW j8 k0 q k4 g1.s
 have m7:=Zkj _ w mg base CA ZK Zi ZB Zn Zq ZP ZU Zb Zb3 Zat ZbH ZbP ZbE Za9 Zbo ZbR Zcl Z3 r k9 l0 l4 l5 l6 l7 l8 g2.s
 have m8:=Zkh _ w mg base CA Zax ZI Zs ZK Zi ZB Zn Zq ZP ZU Zb Zb3 Zb6 ZbI ZbQ ZbF Zba Zbp ZbS Zcm Z3 l9 m0 m1 m2 m3 m4 m5 m6 g3.s
 have ZS:=Zim l.prog w mg base CA Zab ZaX Zo Zc ZC g4.s
 have m9:=Zkl _ w mg base CA ZcX Zab ZaX Zd3 Zii Zo Zc ZdZ ZC Zac Z9 Zaq Zah Zag k8 g5.s
 have n0:=Zkk _ w mg base CA Zs Zab ZaX ZeR Zb Zc ZF Zb7 Zac Zv k1 ZS g6.s
 have n1:=Zg8 _ w mg base CA Zax ZI Zs ZaX ZJ Zo ZfO Zep Zb Zc Zb9 Zb8 ZC Z9 Zaq Zah Zag m7 m8 g7.s
 have n2:=Zk3 _ w mg base CA ZaX ZJ Zc Za4 n1 g8.s
 have n3:=Zk2 _ w mg base CA Zab ZaX Zb Zc ZF Zcn k3 ZS g9.s
 have t:=ZjD _ w mg base CA Zab ZaX Zb Zc ZF ZbO k2 ZS h0.s
 have u:=Zkp l.prog w mg base Zo Y.s
 have n4:=Zkr l.prog w mg base ZJ Zo ZfP Z.s
 have n5:=Zi0 _ w mg base ZJ Zo u a0.s
 have n6:=ZiZ _ w mg base Zo u a1.s
 have n7:=Zi1 l.prog w mg base ZJ Zo ZfO a2.s
 have n8:=Zks _ w mg base Zo u a3.s
 have n9:=Zkq _ w mg base CA Zab ZaX ZaP Zb5 Zij Zg3 Zc Zco Zao n3 t a4.s
 exact(ZlM _ w mg base CA Zs ZcX Zab ZaX ZeR ZJ ZaP Zo ZfN ZfP Zc Zd0 Zao Zca ZaU ZeH ZdG h1 m9 n0 n2 t u n4 n5 n6 n7 n8 n9 a.s).1
end
def tupI_VOTES {b c d:Tok}(h:K.lookup a=some ⟨.type "tuple",od,.seq #[.int 1 b,.int 3 c,.int 5 d] n,sl⟩):a2Y K a [1,3,5]:=a2Y.of h (aO rfl) (.cons ⟨_,rfl⟩ (.cons ⟨_,rfl⟩ (.cons ⟨_,rfl⟩ .nil)))
abbrev csI {x_post x_count x_free x_speaks x_reads x_intail x_flag x_settles x_rests x_off x_reader x_streak x_rtail x_stail:Addr}:Cs:=⟨x_post,x_count,x_free,x_speaks,x_reads,x_intail,x_flag,x_settles,x_rests,x_off,x_reader,x_streak,x_rtail,x_stail⟩
theorem walk {l:W.OpenLaw}{q:Program}{loose:List Str}{XP:(Str->Option Value)->Heap->Prop}{YP:World->Heap->Prop}{d:DefRec}{K:Params->W.Frag}{tc:List (Addr×Addr)}(b:tc= [(1084,1080)])(g:l.most=some 63)(c:d.params.defaults= [])
  (i:∀(w:World)(h:Heap),YP w h->(K w.params).In h/\∀q∈tc,(K w.params).lookup q.2=none/\h.get? q.2=some (W.tabObj #[])/\W.codeHdIn (K w.params) q.1 q.2=true)
  (F :∀(w:World)(mg:Str->Option Value)(e:Addr)(h:Heap),(K w.params).In h->h.Ns mainGlobals mg->mg d.name=some (.ref e)->
   ∃fd:FuncData,(∀(s:Shared)(u:Value),BindsTo s fd ⟨[u], []⟩ [("_law_script",u)])/\∀base:Heap,(K w.params).In base->base.Ns mainGlobals mg->iV l.prog w (K w.params) mg base CX0 15 e fd ["_law_script"] (qO (K w.params))) :
  W.WalkO q loose XP YP l.row.toRowW d [] (λf vs=>PySem.call f vs):=by
 subst b
 exact L2.walk_ofT (n:=63) (k:=15) (x:="_law_script") (CX:=λ_=>CX0) (sp:=λw=>qO (K w.params)) g (by decide) c ⟨rfl,by decide,by decide⟩ i F (λ_ H a j m o p=>⟨a,j,rfl,p,m,⟨#[],o.1 1080 (by simp),trivial,.inl rfl⟩,λ_=>rfl⟩) λ_ _ _ _ _ z=>z
end My
open PySem PySem.W PyProof.Rows
set_option maxRecDepth 100000 in
set_option maxHeartbeats 0 in
theorem PySem.Challenge.cw_bitrail_k91_whole_one_wrong_bit_holds : PySem.Challenge.rw_bitrail_k91_whole_one_wrong_bit.Holds := by
 w_on;o_law
 refine holds_open (q:=Hd.qv) (loose:=Hd.loose) (XP:=XL Hd.qv []) (YP:=InK Hd.KA) (d:=Hd.dl) (kwd:=[]) Hd.left (InK.of Hd.K_as) InK.keeps (λs e=>xl_of s e) XL.keeps Hd.dl_1 Hd.dl_2 rfl (λs _=>recFacts_nil rfl) rfl
  (by assumption) (by decide +kernel) ⟨rfl,rfl,rfl,rfl,rfl,by decide +kernel⟩ ?hw ?hc
 case hw=>w_witness2
 refine My.walk (l:=PySem.Challenge.rw_bitrail_k91_whole_one_wrong_bit) (K:=Hd.K) (tc:=Hd.tc) rfl rfl rfl Hd.tabs ?F
 k_fill
 case F=>
  intro w mg fa h KX G hmg
  refine' My.all_mk w mg (CA:=My.csI) ?Aa ?Ab ?Ac ?Ad ?Ae ?Af ?Ag ?Ah ?Ai ?Aj ?Ak ?Al ?Am ?An ?Ao ?Ap ?Aq ?Ar ?As ?At ?Au ?Av ?Aw ?Ax ?Ay ?Az ?AA ?AB ?AC ?AD ?AE ?AF ?AG ?AH ?AI ?AJ ?AK ?AL ?AM ?AN ?AO ?AP ?AQ ?AR ?AS ?AT ?AU ?AV ?AW ?AX ?AY ?AZ ?A0 ?A1 ?A2 ?A3 ?A4 ?A5 ?A6 ?A7 ?A8 ?A9 ?Ba ?Bb ?Bc ?Bd ?Be ?Bf ?Bg ?Bh ?Bi ?Bj ?Bk ?Bl ?Bm ?Bn ?Bo ?Bp ?Bq ?Br ?Bs ?Bt ?Bu ?Bv ?Bw ?Bx ?By ?Bz ?BA ?BB ?BC ?BD ?BE ?BF ?BG ?BH ?BI ?BJ ?BK ?BL ?BM ?BN ?BO ?BP ?BQ ?BR ?BS ?BT ?BU ?BV ?BW ?BX ?BY ?BZ ?B0 ?B1 ?B2 ?B3 ?B4 ?B5 ?B6 ?B7 ?B8 ?B9 ?Ca ?Cb ?Cc ?Cd ?Ce ?Cf ?Cg ?Ch ?Ci ?Cj ?Ck ?Cl ?Cm ?Cn ?Co ?Cp ?Cq ?Cr ?Cs ?Ct ?Cu ?Cv ?Cw ?Cx ?Cy ?Cz ?CA ?CB ?CC ?CD ?CE ?CF ?CG ?CH ?CI ?CJ ?CK ?CL ?CM ?CN ?CO ?CP ?CQ ?CR ?CS ?CT ?CU ?CV ?CW hmg ?La ?Lf ?Lg ?Lh ?Li ?Lj ?Lk ?Ll ?Lm ?Ln ?Lo ?Lp ?Lq ?Lr ?Ls ?LM ?LZ ?L2 ?L5 ?L6 ?L7 ?L8 ?L9 ?Ma ?MB ?MC ?MD ?ME ?MF ?MG ?MH ?MI ?Lb ?Lc ?Ld ?Le ?Lt ?Lu ?Lv ?Lw ?Lx ?Ly ?Lz ?LA ?LB ?LC ?LD ?LE ?LF ?LG ?LH ?LI ?LJ ?LK ?LL ?LN ?LO ?LP ?LQ ?LR ?LS ?LT ?LU ?LV ?LW ?LX ?LY ?L0 ?L1 ?L3 ?L4 ?Mb ?Mc ?Md ?Me ?Mf ?Mg ?Mh ?Mi ?Mj ?Mk ?Ml ?Mm ?Mn ?Mo ?Mp ?Mq ?Mr ?Ms ?Mt ?Mu ?Mv ?Mw ?Mx ?My ?Mz ?MA
  all_goals try dsimp only[My.csI]
  case Aa | Ab | Ac | Ad | Ae | Af | Ag | Ah | Ai | Aj | Ak | Al | Am | An | Ao | Ap | Aq | Ar | As | At | Au | Av | Aw | Ax | Ay | Az | AA | AB | AC | AD | AE | AF | AG | AH | AI | AJ | AK | AL | AM | AN | AO | AP | AQ | AR=>refine' PySem.W.mg_of KX G ?_;k_is
  case AS | AT | AU | AV | AW | AX | AY | AZ | A0 | A1 | A2=>refine' PySem.W.mg_none_of KX G ?_;k_is
  case La=>(refine' My.gfc_mk KX G ?a ?l ?c ?k;(case a=>show _=_;k_is);(case l=>show _=_;k_is);(case c=>show _=_;k_is);(case k=>show _=_;k_is))
  case Lf | Lg | Lh | Li | Lj | Lk | Ll | Lm | Ln | Lo | Lp | Lq | Lr | Ls | LM | LZ | L2 | L5 | L6 | L7 | L8 | L9 | Ma | MB | MC | MD | ME | MF | MG | MH | MI=>(refine' My.gf_mk KX G ?a ?l ?c ?k;(case a=>show _=_;k_is);(case l=>show _=_;k_is);(case c=>show _=_;k_is);(case k=>show _=_;k_is))
  case Lb | Lc | Ld | Le | Lt | Lu | Lv | Lw | Lx | Ly | Lz | LA | LB | LC | LD | LE | LF | LG | LH | LI | LJ | LK | LL | LN | LO | LP | LQ | LR | LS | LT | LU | LV | LW | LX | LY | L0 | L1 | L3 | L4 | Mb | Mc | Md | Me | Mf | Mg | Mh | Mi | Mj | Mk | Ml | Mm | Mn | Mo | Mp | Mq | Mr | Ms | Mt | Mu | Mv | Mw | Mx | My | Mz | MA=>(refine' My.mf_mk ?a ?l ?c ?k;(case a=>show _=_;k_is);(case l=>show _=_;k_is);(case c=>show _=_;k_is);(case k=>show _=_;k_is))
  case A3=>(refine' My.tupI_VOTES ?a;(case a=>k_is))
  case A4 | A5=>(refine⟨?_,?_,?_,?_,?_⟩;(refine⟨?_,?_,?_,?_⟩ <;> k_is);all_goals (show PySem.W.findIn _ _ _=_;k_is))
  case A6 | A7 | A8 | A9 | Ba | Bb | Bc | Bd | Be | Bf | Bg | Bh | Bi | Bj | Bk | Bl | Bm | Bn | Bo | Bp | Bq | Br | Bs | Bt | Bu | Bv | Bw | Bx=>(refine⟨?_,?_,?_,?_⟩ <;> k_is)
  case By | Bz | BA | BB | BC | BD | BE | BF | BG | BH | BI | BJ | BK | BL | BM | BN | BO | BP | BQ | BR | BS | BT | BU | BV | BW | BX | BY | BZ | B0 | B1 | B2 | B3 | B4 | B5 | B6 | B7 | B8 | B9 | Ca | Cb | Cc | Cd | Ce | Cf | Cg | Ch | Ci | Cj | Ck | Cl | Cm | Cn | Co | Cp | Cq=>(refine⟨?_,?_,?_⟩ <;> k_is)
  case Cr=>(refine' My.BmK.bm KX G ?_;(refine⟨?_,by decide,by decide, #[],?_⟩ <;> k_is))
  case Cs | Ct | Cu | Cv | Cw | Cx | Cy | Cz | CA | CB | CC | CD | CE | CF | CG | CH | CI | CJ | CK | CL | CM | CN | CO | CP | CQ | CR | CS | CT | CU | CV=>(show PySem.W.findIn _ _ _=_;k_is)
  case CW=>kernel_rfl
#print axioms PySem.Challenge.cw_bitrail_k91_whole_one_wrong_bit_holds
