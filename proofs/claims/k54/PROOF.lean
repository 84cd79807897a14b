import PyProof.Rows.All
import Wide.All
import OpenK.AllK
import Wide.FinOn
import PyProof.EqAt
import PyProof.EqKinds
import PyProof.TupleCall
import Lean
import PySem.Challenge.RW_bitrail_k54_whole_the_least_name_speaks
set_option Elab.async false
def Ya:=@List.length_map
def Yb:=@List.getElem?_eq_getElem
def Yc:=@List.length_append
def Yd:=@Nat.le_refl
def Ye:=@List.getD_eq_getElem?_getD
def Yf:=@List.take_succ_eq_append_getElem
def Yg:=@List.getElem?_eq_some_iff
def Yh:=@Nat.lt_of_lt_of_le
def Yi:=@List.take_of_length_le
def Yj:=@List.getElem?_map
def Yk:=@List.map_append
def Yl:=@decide_eq_true
def Ym:=@decide_eq_false
def Yn:=@Bool.false_ne_true
def Yo:=@List.length_take
def Yp:=@List.mem_singleton
def Yq:=@PySem.Heap.lt_size
def Yr:=@PySem.Heap.get?_push_of_some
def Ys:=@Nat.pow_le_pow_right
def Yt:=@Option.some.inj
def Yu:=@List.length_singleton
def Yv:=@List.mem_cons_of_mem
def Yw:=@List.mem_of_getElem?
def Yx:=@List.size_toArray
def Yy:=@List.append_assoc
def Yz:=@List.getElem?_append_right
def YA:=@List.length_replicate
def YB:=@Decidable.byContradiction
def YC:=@PySem.wpAny_bind
def YD:=@Int.toNat_natCast
def YE:=@List.map_cons
def YF:=@congrArg
def YG:=@List.getElem_mem
def YH:=@List.getElem?_append_left
def YI:=@List.mem_append
def YJ:=@List.append_nil
def YK:=@List.mem_cons
def YL:=@PySem.Heap.get?_push_size
def YM:=@PySem.F.excBase_ValueError
def YN:=@List.mem_cons_self
def YO:=@Nat.ne_of_lt
def YQ:=@List.mem_append_right
def YR:=@PySem.PassesOwn.never
def YS:=@List.nodup_cons
def YT:=@of_decide_eq_true
def YU:=@List.length_range
def YV:=@List.mem_filterMap
def YW:=@List.length_cons
def YX:=@Nat.lt_irrefl
def YY:=@List.take_append_of_le_length
def YZ:=@Option.map_eq_some_iff
def Y0:=@List.foldl_cons
def Y1:=@Nat.testBit_eq_decide_div_mod_eq
def Y2:=@Int.eq_ofNat_of_zero_le
def Y3:=@Array.getElem?_eq_some_iff
def Y4:=@Nat.le_trans
def Y5:=@Nat.testBit_lt_two_pow
def Y6:=@PySem.Heap.FunFrames.mem
def Y7:=@List.head?_append
def Y8:=@PySem.wpAny_mono
def Y9:=@PySem.wpAny_pure
def Xa:=@Nat.xor_assoc
def Xb:=@List.flatten_cons
def Xc:=@List.replicate_succ
def Xd:=@PySem.wpAny_truthy_bool
def Xe:=@PySem.Heap.get?_update_other
def Xf:=@Nat.lt_succ_self
def Xg:=@List.mem_map
def Xh:=@PySem.wpAny_Call_Name_kw
def Xi:=@List.foldl_append
def Xj:=@Nat.xor_zero
def Xk:=@Nat.testBit_succ
def Xl:=@Nat.testBit_xor
def Xm:=@List.length_set
def Xn:=@Nat.le_succ
def Xo:=@Int.zero_add
def Xp:=@List.mem_of_mem_take
def Xq:=@List.getElem?_set
def Xr:=@PySem.W.methodCall_KW
def Xs:=@List.getElem_of_mem
def Xu:=@List.length_drop
def Xv:=@Bool.and_eq_true
def Xw:=@Nat.shiftLeft_eq
def Xx:=@Nat.zero_le
def Xy:=@List.drop_append_of_le_length
def Xz:=@Nat.le_of_lt
def XA:=@Nat.lt_of_le_of_lt
def XB:=@Nat.not_lt_zero
def XC:=@PyProof.Rows.callWith_type1
def XD:=@List.getElem?_set_ne
def XE:=@PySem.wpAny_passesOwn
def XF:=@beq_iff_eq
def XG:=@Nat.mod_two_eq_zero_or_one
def XH:=@List.lookup_cons
def XI:=@Nat.sub_self
def XJ:=@Nat.xor_comm
def XM:=@beq_eq_false_iff_ne
def XN:=@Array.length_toList
def XO:=@PySem.mem_of_lookup
def XQ:=@List.getElem?_take_of_lt
def XR:=@List.all_cons
def XS:=@List.eq_of_mem_replicate
def XT:=@List.find?_cons
def XU:=@List.getElem?_replicate
def XV:=@PySem.F.plainAttrs_list
def XW:=@Nat.pow_succ
def XX:=@List.nodup_nil
def XY:=@PySem.Obj.data_mapFields
def XZ:=@PySem.wpAny_field
def X0:=@List.all_eq_true
def X1:=@List.not_mem_nil
def X2:=@Nat.testBit_zero
def X3:=@List.getElem_map
def X4:=@List.any_cons
def X5:=@List.mem_append_left
def X6:=@PySem.W.callWith_K
def X7:=@Bool.eq_iff_iff
def X8:=@List.range_succ
def X9:=@Nat.div_eq_of_lt_le
def Ja:=@Nat.zero_xor
def Jb:=@Nat.add_zero
def Jc:=@Int.emod_lt_of_pos
def Jd:=@List.take_zero
def Je:=@Nat.xor_lt_two_pow
def Jf:=@PySem.wpAny_execs_nil
def Jg:=@PySem.codeAny_mono
def Jh:=@PySem.wpAny_setField
namespace Hd
open PySem PyProof.Rows
open PySem.W PySem.Calls
theorem a7G (t:Thread):(endAt 0 t).isSome=through t:=by
 obtain⟨cur,code,pos,st⟩:=t
 cases st with
 | nil=>cases cur with
  |pure f=>cases f <;> rfl
  |_=>rfl
 |cons a l=>cases cur <;> rfl
theorem jL {tb:String->Option Builtin}{p:Program}{w:World}{m:Nat}{ann:Option Value}:∀{n:Nat}{s s':Shared}{t:Thread}{f:Flow}{c:Code}{x:Pos},
  segRun tb p w m ann 0 n s t=some (f,s',c,x)->topRun tb p w m ann n s t=some s'
 |0,_,_,_,_,_,_,h=>by simp[segRun]at h
 | n + 1,s,s',t,f,c,x,h=>by
  unfold segRun at h
  unfold topRun
  rw[<-a7G t]
  cases he:endAt 0 t with
  |some g=>rw[he]at h;cases h;rfl
  | none=>
   rw[he]at h
   dsimp only[Option.isSome]at h ⊢
   cases k:stepOk m ann t with
   |false=>rw[k]at h;cases h
   | true=>
    rw[k]at h
    dsimp only at h ⊢
    cases g:step (denote tb) p w s t with
    |halt o z=>rw[g]at h;cases h
    |go z t'=>rw[g]at h;exact jL h
def lookT (T:BT)(n a:Nat):Option Obj:=match Nat.blt a n with
 |true=>(match T.get a with | some o=>alive o | none=>none)
 |false=>none
theorem uV {T:BT}{n a:Nat}{life:Life}{o:Obj}(h:lookT T n a=some o):(absHeap T n life).get? a=some o:=by
 unfold lookT at h
 cases c:Nat.blt a n with
 |false=>rw[c]at h;cases h
 | true=>
  rw[c]at h
  dsimp only at h
  cases g:T.get a with
  |none=>rw[g]at h;cases h
  | some x=>
   rw[g]at h
   rw[abs_get (Nat.le_of_ble_eq_true c) g]
   exact h
theorem lO {T:BT}{n:Nat}{life:Life}:∀{as:List Addr}{os:List Obj},as.map (lookT T n)=os.map some->as.map (absHeap T n life).get? =os.map some
 |[], [],_=>rfl
 |[],_::_,h=>by cases h
 |_::_, [],h=>by cases h
 | a::as,o::os,h=>by
  rw[YE,YE]at h
  injection h with h1 h2
  rw[YE,YE,lO h2]
  exact YF (·::os.map some) (uV h1)
abbrev look (p q:Program)(loose:List Str)(Xt:Shared->Bool)(as:List Addr)(h:Heap)(s:SharedT):=
 (staticsOk (importedModules p.main.body) h s.abs.heap && namesBound p s.abs.heap && gensDone s.abs && laidKept h s.abs.heap,openSeen q loose (importedModules p.main.body) Xt true s.abs,as.map (lookT s.tree s.n))
theorem qP {p q:Program}{loose:List Str}{Xt:Shared->Bool}{as:List Addr}{os_:World->List Obj}{N m:Nat}{ann:Option Value}(S:World->OsState->SharedT)
  (op:∀w:World,(fencedOpening treeTable p w N).map (fun s=>(s.heap,s.gens,s.drawn,s.toks))=some (boot_heap w.params,Array.mk [],boot_drawn,boot_toks))
  (size : ∀ w : World, ((boot_heap w.params).isNs mainGlobals, (boot_heap w.params).objs.size, (boot_heap w.params).nsMap mainGlobals "__annotations__") = (true, m, ann))
  (abs:∀w os,(S w os).abs=⟨boot_heap w.params,Array.mk [],boot_drawn,boot_toks,os⟩)
  (whole:∀w:World,(fun os=>(segRunT treeTable p w m ann 0 N (S w os) (topStub p)).map fun r=>look p q loose Xt as (boot_heap w.params) r.2.1)=fun _=>some (true,openGood q loose,(os_ w).map some)):LeftO p q loose Xt (fun s=>as.map s.heap.get?) (fun w=>(os_ w).map some) N:=fun w=>by
 obtain⟨⟨h,gs,d,k,os⟩,e,e'⟩:=YZ.mp (op w)
 obtain⟨rfl,rfl,rfl,rfl⟩:h=boot_heap w.params/\gs=Array.mk []/\d=boot_drawn/\k=boot_toks:=by simpa using e'
 obtain⟨y1,y2,y3⟩:_/\_/\_:=by simpa only[Prod.mk.injEq] using size w
 obtain⟨⟨f,s',c,x⟩,r1,r2⟩:=YZ.mp (congrFun (whole w) os)
 obtain⟨l1,l2,l3⟩:_/\_/\_:=by simpa only[look,Prod.mk.injEq] using r2
 have l4:as.map s'.abs.heap.get? =(os_ w).map some:=lO l3
 have r:=jL (segRun_of r1)
 rw[abs]at r
 have t:topFrom treeTable p w N ⟨boot_heap w.params,Array.mk [],boot_drawn,boot_toks,os⟩=some s'.abs:=by
  unfold topFrom
  dsimp only
  rw[y1,y2,y3,r]
  show (match staticsOk (importedModules p.main.body) (boot_heap w.params) s'.abs.heap && namesBound p s'.abs.heap && gensDone s'.abs && laidKept (boot_heap w.params) s'.abs.heap with | true=>_ | false=>_)=_
  rw[l1]
 unfold openEnds
 rw[e]
 refine(YF (Option.map _) t).trans ?_
 exact YF some (by show (_,as.map s'.abs.heap.get?)=(_,(os_ w).map some);rw[l2,l4])
abbrev r (a:Addr):Value:= .ref a
abbrev s (x:Str)(t:Tok):Value:= .str x t
abbrev i (x:Int)(t:Tok):Value:= .int x t
abbrev t (x:String):Value:= .type x
abbrev b (x:String):Value:= .builtin x
abbrev tp (l:List Value):Obj:=⟨.type "tuple",none,.seq l.toArray 0, #[]⟩
abbrev co (l:List Value):Obj:=⟨.type "code",none,.fields l.toArray, #[]⟩
abbrev di (c:Value)(l:List DictEntry)(n:Nat):Obj:=⟨c,none,.dict l.toArray n, #[]⟩
abbrev e (P:Params)(x:Str)(t:Tok)(v:Value):DictEntry:=⟨PyData.keyHash P x,.str x t,v⟩
abbrev cl (c:ClassData)(l:List (Option Value)):Obj:=⟨.type "type",none,.cls c,l.toArray⟩
abbrev o (v:Value):Option Value:=some v
abbrev sf (p:Program)(k:Nat):Stmt:=p.main.body.getD k default
def sub (k:Nat):Stmt->Stmt
 |.ClassDef _ _ _ b _ _ _ _ _ _ _=>b.getD k default
 |x=>x
def fn (q:Str)(d kw doc md:Value)(c bl:Addr):Stmt->Obj
 |.FunctionDef n a b _ _ _ sc _ _ _=>⟨.type "function",none,.func { name:=n,qualname:=q,params:=a,body:= .stmts b,scope:=sc,globals:=3,closure:=[],defaults:=d,kwdefaults:=kw,doc:=doc,pyModule:=md,code:= .ref c,builtins:=bl }, #[]⟩
 |_=>default
def dr:Stmt->DefRec
 |.FunctionDef n a b _ _ _ sc _ _ x=>⟨n,a,b,sc,x⟩
 |_=>⟨"",⟨[], [],none, [], [],none, []⟩, [],default,default⟩
abbrev cc (nm qn:Str)(t l a fl x tb:Nat)(d v f:Value)(z n t':Nat):Obj:=co [s nm t,s qn (t+1),s "/claim/cut.py" (t+2),i l 0,i a 0,i 0 0,i 0 0,i fl 0,r x,.bool true,i 181 0,r tb,d,v,f,r z,i n 0,i l 0,s "/claim/cut.py" t']
abbrev fo (q md:Str)(t:Tok)(c:Addr)(x:Stmt):Obj:=fn q .none .none .none (s md t) c 0 x
noncomputable def tree (P:Params):BT:=(.node (boot_o_0 P) (.node (boot_o_1 P) (.node (boot_o_3 P) (.node (boot_o_7 P) .nil .nil) .nil) (.node (boot_o_5 P) (.node (boot_o_9 P) .nil .nil) .nil)) (.node (boot_o_2 P) (.node (boot_o_4 P) (.node (boot_o_8 P) .nil .nil) .nil) (.node (boot_o_6 P) (.node (boot_o_10 P) .nil .nil) .nil)))
noncomputable def S (w:World)(os:OsState):SharedT:=⟨tree w.params,11,(boot_heap w.params).life,Array.mk [],boot_drawn,boot_toks,os⟩
theorem a6V (w:World)(os:OsState):(S w os).abs=⟨boot_heap w.params,Array.mk [],boot_drawn,boot_toks,os⟩:=by kernel_rfl
end Hd
namespace Hd
open PySem PyProof.Rows
open PySem.W PySem.Calls
set_option maxRecDepth 100000
noncomputable section
abbrev p:Program:=PySem.Challenge.pw_bitrail_k54_whole_the_least_name_speaks
noncomputable def o2:Obj:=di .none [] 0
noncomputable def o3 (P : Params) : Obj := di (t "dict") [e P "__name__" 165 (s "law_bitrail_k54_whole_the_least_name_speaks" 1574), e P "__doc__" 166 .none, e P "__package__" 167 .none, e P "__loader__" 168 (b "__main__.__loader__#opaque"), e P "__spec__" 169 .none, e P "__annotations__" 170 (r 6), e P "__builtins__" 171 (r 4), e P "__file__" 173 (s "/claim/cut.py" 172), e P "__cached__" 174 .none, e P "RailError" 206 (r 24), e P "NoBits" 222 (r 37), e P "NoName" 238 (r 49), e P "NoKey" 254 (r 61), e P "NoFrame" 270 (r 73), e P "NoPost" 286 (r 85), e P "HIGHEST_BYTE" 290 (i 255 289), e P "bits_of" 296 (r 92), e P "number_of" 305 (r 99), e P "are_bytes" 311 (r 104), e P "divided" 324 (r 111), e P "KEY" 328 (i 64647 327), e P "CHECK_BITS" 330 (i 15 329), e P "rest_of" 337 (r 118), e P "check_of" 344 (r 125), e P "NAME_BITS" 348 (i 8 347), e P "HIGHEST_NAME" 350 (i 255 349), e P "is_name" 357 (r 132), e P "is_wanted" 365 (r 139), e P "MOST_ALIKE" 369 (i 5 368), e P "Streak" 420 (r 177), e P "put_in" 430 (r 188), e P "SIZE_AT" 434 (i 9 433), e P "SIZE_BITS" 436 (i 3 435), e P "DATA_AT" 438 (i 12 437), e P "BYTE_BITS" 440 (i 8 439), e P "MOST_BYTES" 442 (i 7 441), e P "check_frame" 450 (r 195), e P "frame_bits" 460 (r 202), e P "is_complete" 467 (r 209), e P "told_size" 474 (r 216), e P "read_frame" 480 (r 221), e P "wire_of" 488 (r 228), e P "GREAT_FAULT" 492 (i 8 491), e P "SMALL_FAULT" 494 (i 1 493), e P "QUIET_FROM" 496 (i 12 495), e P "OFF_FROM" 498 (i 18 497), e P "Count" 577 (r 294), e P "Reader" 639 (r 343), e P "ANSWER_AT" 643 (i 1 642), e P "VOTES_AT" 645 (i 9 644), e P "Tail" 718 (r 399), e P "ReadTail" 742 (r 420), e P "SpeakTail" 766 (r 439), e P "FLAG_BITS" 770 (i 6 769), e P "REST_TURNS" 772 (i 3 771), e P "QUIET_TURNS" 774 (i 8 773), e P "DUEL_BITS" 776 (i 9 775), e P "begun_reader" 783 (r 448), e P "unless_off" 792 (r 455), e P "fault_of" 800 (r 462), e P "refusal_of" 808 (r 469), e P "blame_of" 815 (r 476), e P "Free" 869 (r 514), e P "Speaks" 928 (r 556), e P "Reads" 984 (r 598), e P "InTail" 1040 (r 640), e P "Flagging" 1095 (r 682), e P "Settles" 1148 (r 724), e P "Rests" 1201 (r 766), e P "Off" 1245 (r 801), e P "VOTES" 1251 (r 806), e P "check_votes" 1258 (r 813), e P "check_choice" 1265 (r 820), e P "copies" 1271 (r 825), e P "Post" 1402 (r 933), e P "MOST_POSTS" 1406 (i 5 1405), e P "Rail" 1564 (r 1060), e P "heard_well" 1573 (r 1071), e P "_law_draw" 1586 (r 1078), e P "_law_bits" 1592 (r 1083), e P "_law_wire" 1604 (r 1090), e P "_law_names" 1618 (r 1097), e P "_law_frames" 1624 (r 1102), e P "_law_choices" 1636 (r 1109), e P "_law_lost" 1645 (r 1116), e P "_law_due" 1651 (r 1121), e P "_law_named" 1661 (r 1128), e P "law" 1667 (r 1133)] 88
noncomputable def o23 (P:Params):Obj:=di (t "dict") [e P "__module__" 196 (s "bitrail.errors" 187),e P "__firstlineno__" 200 (i 2 199),e P "__static_attributes__" 201 (r 22),e P "__weakref__" 203 (r 25),e P "__doc__" 204 .none] 3
noncomputable def o24:Obj:=cl { name:="RailError",bases:=[t "ValueError"],mro:=[r 24,t "ValueError",t "Exception",t "BaseException",t "object"],ns:=23,qualname:="RailError",hasDict:=true,subclasses:=[r 37,r 49,r 61,r 73,r 85] } [o (r 15),.none,o (s "RailError" 189),o (s "RailError" 197),o (b "ValueError.__new__"),o (.bool true)]
noncomputable def o36 (P:Params):Obj:=di (t "dict") [e P "__module__" 214 (s "bitrail.errors" 187),e P "__firstlineno__" 218 (i 4 217),e P "__static_attributes__" 219 (r 35),e P "__doc__" 220 .none] 2
noncomputable def o37:Obj:=cl { name:="NoBits",bases:=[r 24],mro:=[r 37,r 24,t "ValueError",t "Exception",t "BaseException",t "object"],ns:=36,qualname:="NoBits",hasDict:=true,subclasses:=[] } [o (r 28),.none,o (s "NoBits" 207),o (s "NoBits" 215),o (b "ValueError.__new__"),o (.bool true)]
noncomputable def o48 (P:Params):Obj:=di (t "dict") [e P "__module__" 230 (s "bitrail.errors" 187),e P "__firstlineno__" 234 (i 6 233),e P "__static_attributes__" 235 (r 47),e P "__doc__" 236 .none] 2
noncomputable def o49:Obj:=cl { name:="NoName",bases:=[r 24],mro:=[r 49,r 24,t "ValueError",t "Exception",t "BaseException",t "object"],ns:=48,qualname:="NoName",hasDict:=true,subclasses:=[] } [o (r 40),.none,o (s "NoName" 223),o (s "NoName" 231),o (b "ValueError.__new__"),o (.bool true)]
noncomputable def o60 (P:Params):Obj:=di (t "dict") [e P "__module__" 246 (s "bitrail.errors" 187),e P "__firstlineno__" 250 (i 8 249),e P "__static_attributes__" 251 (r 59),e P "__doc__" 252 .none] 2
noncomputable def o61:Obj:=cl { name:="NoKey",bases:=[r 24],mro:=[r 61,r 24,t "ValueError",t "Exception",t "BaseException",t "object"],ns:=60,qualname:="NoKey",hasDict:=true,subclasses:=[] } [o (r 52),.none,o (s "NoKey" 239),o (s "NoKey" 247),o (b "ValueError.__new__"),o (.bool true)]
noncomputable def o72 (P:Params):Obj:=di (t "dict") [e P "__module__" 262 (s "bitrail.errors" 187),e P "__firstlineno__" 266 (i 10 265),e P "__static_attributes__" 267 (r 71),e P "__doc__" 268 .none] 2
noncomputable def o73:Obj:=cl { name:="NoFrame",bases:=[r 24],mro:=[r 73,r 24,t "ValueError",t "Exception",t "BaseException",t "object"],ns:=72,qualname:="NoFrame",hasDict:=true,subclasses:=[] } [o (r 64),.none,o (s "NoFrame" 255),o (s "NoFrame" 263),o (b "ValueError.__new__"),o (.bool true)]
noncomputable def o84 (P:Params):Obj:=di (t "dict") [e P "__module__" 278 (s "bitrail.errors" 187),e P "__firstlineno__" 282 (i 12 281),e P "__static_attributes__" 283 (r 83),e P "__doc__" 284 .none] 2
noncomputable def o85:Obj:=cl { name:="NoPost",bases:=[r 24],mro:=[r 85,r 24,t "ValueError",t "Exception",t "BaseException",t "object"],ns:=84,qualname:="NoPost",hasDict:=true,subclasses:=[] } [o (r 76),.none,o (s "NoPost" 271),o (s "NoPost" 279),o (b "ValueError.__new__"),o (.bool true)]
noncomputable def o91:Obj:=cc "bits_of" "bits_of" 291 16 2 3 88 89 .none .none .none 90 294 295
noncomputable def o92:Obj:=fo "bits_of" "bitrail.bits" 287 91 (sf p 9)
noncomputable def o98:Obj:=cc "number_of" "number_of" 297 20 1 3 93 94 .none (r 95) (r 96) 97 303 304
noncomputable def o99:Obj:=fo "number_of" "bitrail.bits" 287 98 (sf p 10)
noncomputable def o103:Obj:=cc "are_bytes" "are_bytes" 306 25 1 3 100 101 .none .none .none 102 309 310
noncomputable def o104:Obj:=fo "are_bytes" "bitrail.bits" 287 103 (sf p 11)
noncomputable def o110:Obj:=cc "divided" "divided" 314 28 2 3 105 106 .none (r 107) (r 108) 109 322 323
noncomputable def o111:Obj:=fo "divided" "bitrail.keys" 312 110 (sf p 13)
noncomputable def o117:Obj:=cc "rest_of" "rest_of" 331 41 1 3 112 113 .none (r 114) (r 115) 116 335 336
noncomputable def o118:Obj:=fo "rest_of" "bitrail.checks" 325 117 (sf p 17)
noncomputable def o124:Obj:=cc "check_of" "check_of" 338 43 1 3 119 120 .none (r 121) (r 122) 123 342 343
noncomputable def o125:Obj:=fo "check_of" "bitrail.checks" 325 124 (sf p 18)
noncomputable def o131:Obj:=cc "is_name" "is_name" 351 48 1 3 126 127 .none (r 128) (r 129) 130 355 356
noncomputable def o132:Obj:=fo "is_name" "bitrail.names" 345 131 (sf p 22)
noncomputable def o138:Obj:=cc "is_wanted" "is_wanted" 358 50 2 3 133 134 .none (r 135) (r 136) 137 363 364
noncomputable def o139:Obj:=fo "is_wanted" "bitrail.names" 345 138 (sf p 23)
noncomputable def o152:Obj:=cc "__init__" "Streak.__init__" 382 56 1 3 147 148 .none (r 149) (r 150) 151 386 387
noncomputable def o153:Obj:=fo "Streak.__init__" "bitrail.putting" 366 152 (sub 0 (sf p 26))
noncomputable def o159:Obj:=cc "lengthen" "Streak.lengthen" 389 60 2 3 154 155 .none (r 156) (r 157) 158 394 395
noncomputable def o160:Obj:=fo "Streak.lengthen" "bitrail.putting" 366 159 (sub 1 (sf p 26))
noncomputable def o166:Obj:=cc "is_full" "Streak.is_full" 397 64 1 3 161 162 .none (r 163) (r 164) 165 401 402
noncomputable def o167:Obj:=fo "Streak.is_full" "bitrail.putting" 366 166 (sub 2 (sf p 26))
noncomputable def o173:Obj:=cc "is_too_long" "Streak.is_too_long" 404 67 1 3 168 169 .none (r 170) (r 171) 172 408 409
noncomputable def o174:Obj:=fo "Streak.is_too_long" "bitrail.putting" 366 173 (sub 3 (sf p 26))
noncomputable def o176 (P:Params):Obj:=di (t "dict") [e P "__module__" 377 (s "bitrail.putting" 366),e P "__firstlineno__" 381 (i 54 380),e P "__init__" 388 (r 153),e P "lengthen" 396 (r 160),e P "is_full" 403 (r 167),e P "is_too_long" 410 (r 174),e P "__static_attributes__" 413 (r 175),e P "__dict__" 415 (r 178),e P "__weakref__" 417 (r 179),e P "__doc__" 418 .none] 4
noncomputable def o177:Obj:=cl { name:="Streak",bases:=[t "object"],mro:=[r 177,t "object"],ns:=176,qualname:="Streak",hasDict:=true,subclasses:=[] } [.none,.none,o (s "Streak" 370),o (s "Streak" 378),o (b "object.__new__"),o (.bool true)]
noncomputable def o187:Obj:=cc "put_in" "put_in" 421 69 1 3 182 183 .none (r 184) (r 185) 186 428 429
noncomputable def o188:Obj:=fo "put_in" "bitrail.putting" 366 187 (sf p 27)
noncomputable def o194:Obj:=cc "check_frame" "check_frame" 443 85 2 3 189 190 .none (r 191) (r 192) 193 448 449
noncomputable def o195:Obj:=fo "check_frame" "bitrail.frames" 431 194 (sf p 34)
noncomputable def o201:Obj:=cc "frame_bits" "frame_bits" 451 92 2 3 196 197 .none (r 198) (r 199) 200 458 459
noncomputable def o202:Obj:=fo "frame_bits" "bitrail.frames" 431 201 (sf p 35)
noncomputable def o208:Obj:=cc "is_complete" "is_complete" 461 98 1 3 203 204 .none (r 205) (r 206) 207 465 466
noncomputable def o209:Obj:=fo "is_complete" "bitrail.frames" 431 208 (sf p 36)
noncomputable def o215:Obj:=cc "told_size" "told_size" 468 100 1 3 210 211 .none (r 212) (r 213) 214 472 473
noncomputable def o216:Obj:=fo "told_size" "bitrail.frames" 431 215 (sf p 37)
noncomputable def o220:Obj:=cc "read_frame" "read_frame" 475 102 1 3 217 218 .none .none .none 219 478 479
noncomputable def o221:Obj:=fo "read_frame" "bitrail.frames" 431 220 (sf p 38)
noncomputable def o227:Obj:=cc "wire_of" "wire_of" 481 111 2 3 222 223 .none (r 224) (r 225) 226 486 487
noncomputable def o228:Obj:=fo "wire_of" "bitrail.frames" 431 227 (sf p 39)
noncomputable def o241:Obj:=cc "__init__" "Count.__init__" 511 120 1 3 236 237 .none (r 238) (r 239) 240 515 516
noncomputable def o242:Obj:=fo "Count.__init__" "bitrail.counts" 489 241 (sub 0 (sf p 45))
noncomputable def o248:Obj:=cc "fault" "Count.fault" 518 123 2 3 243 244 .none (r 245) (r 246) 247 523 524
noncomputable def o249:Obj:=fo "Count.fault" "bitrail.counts" 489 248 (sub 1 (sf p 45))
noncomputable def o262:Obj:=cc "good" "Count.good" 533 129 1 3 257 258 .none (r 259) (r 260) 261 537 538
noncomputable def o263:Obj:=fo "Count.good" "bitrail.counts" 489 262 (sub 3 (sf p 45))
noncomputable def o269:Obj:=cc "move" "Count.move" 540 132 2 3 264 265 .none (r 266) (r 267) 268 545 546
noncomputable def o270:Obj:=fo "Count.move" "bitrail.counts" 489 269 (sub 4 (sf p 45))
noncomputable def o276:Obj:=cc "number" "Count.number" 548 136 1 3 271 272 .none (r 273) (r 274) 275 552 553
noncomputable def o277:Obj:=fo "Count.number" "bitrail.counts" 489 276 (sub 5 (sf p 45))
noncomputable def o283:Obj:=cc "is_quiet" "Count.is_quiet" 555 139 1 3 278 279 .none (r 280) (r 281) 282 559 560
noncomputable def o284:Obj:=fo "Count.is_quiet" "bitrail.counts" 489 283 (sub 6 (sf p 45))
noncomputable def o290:Obj:=cc "is_off" "Count.is_off" 562 142 1 3 285 286 .none (r 287) (r 288) 289 566 567
noncomputable def o291:Obj:=fo "Count.is_off" "bitrail.counts" 489 290 (sub 7 (sf p 45))
noncomputable def o293 (P:Params):Obj:=di (t "dict") [e P "__module__" 506 (s "bitrail.counts" 489),e P "__firstlineno__" 510 (i 118 509),e P "__init__" 517 (r 242),e P "fault" 525 (r 249),e P "blame" 532 (r 256),e P "good" 539 (r 263),e P "move" 547 (r 270),e P "number" 554 (r 277),e P "is_quiet" 561 (r 284),e P "is_off" 568 (r 291),e P "__static_attributes__" 570 (r 292),e P "__dict__" 572 (r 295),e P "__weakref__" 574 (r 296),e P "__doc__" 575 .none] 4
noncomputable def o294:Obj:=cl { name:="Count",bases:=[t "object"],mro:=[r 294,t "object"],ns:=293,qualname:="Count",hasDict:=true,subclasses:=[] } [.none,.none,o (s "Count" 499),o (s "Count" 507),o (b "object.__new__"),o (.bool true)]
noncomputable def o311:Obj:=cc "__init__" "Reader.__init__" 592 147 1 3 306 307 .none (r 308) (r 309) 310 596 597
noncomputable def o312:Obj:=fo "Reader.__init__" "bitrail.readers" 578 311 (sub 0 (sf p 47))
noncomputable def o318:Obj:=cc "hear" "Reader.hear" 599 152 2 3 313 314 .none (r 315) (r 316) 317 605 606
noncomputable def o319:Obj:=fo "Reader.hear" "bitrail.readers" 578 318 (sub 1 (sf p 47))
noncomputable def o325:Obj:=cc "judged" "Reader.judged" 608 160 1 3 320 321 .none (r 322) (r 323) 324 612 613
noncomputable def o326:Obj:=fo "Reader.judged" "bitrail.readers" 578 325 (sub 2 (sf p 47))
noncomputable def o332:Obj:=cc "plain" "Reader.plain" 615 167 1 3 327 328 .none (r 329) (r 330) 331 619 620
noncomputable def o333:Obj:=fo "Reader.plain" "bitrail.readers" 578 332 (sub 3 (sf p 47))
noncomputable def o339:Obj:=cc "frame" "Reader.frame" 622 170 1 3 334 335 .none (r 336) (r 337) 338 626 627
noncomputable def o340:Obj:=fo "Reader.frame" "bitrail.readers" 578 339 (sub 4 (sf p 47))
noncomputable def o342 (P:Params):Obj:=di (t "dict") [e P "__module__" 587 (s "bitrail.readers" 578),e P "__firstlineno__" 591 (i 145 590),e P "__init__" 598 (r 312),e P "hear" 607 (r 319),e P "judged" 614 (r 326),e P "plain" 621 (r 333),e P "frame" 628 (r 340),e P "__static_attributes__" 632 (r 341),e P "__dict__" 634 (r 344),e P "__weakref__" 636 (r 345),e P "__doc__" 637 .none] 4
noncomputable def o343:Obj:=cl { name:="Reader",bases:=[t "object"],mro:=[r 343,t "object"],ns:=342,qualname:="Reader",hasDict:=true,subclasses:=[] } [.none,.none,o (s "Reader" 580),o (s "Reader" 588),o (b "object.__new__"),o (.bool true)]
noncomputable def o360:Obj:=cc "__init__" "Tail.__init__" 658 177 3 3 355 356 .none (r 357) (r 358) 359 664 665
noncomputable def o361:Obj:=fo "Tail.__init__" "bitrail.tails" 640 360 (sub 0 (sf p 51))
noncomputable def o367:Obj:=cc "says" "Tail.says" 667 183 1 3 362 363 .none (r 364) (r 365) 366 671 672
noncomputable def o368:Obj:=fo "Tail.says" "bitrail.tails" 640 367 (sub 1 (sf p 51))
noncomputable def o374:Obj:=cc "hear" "Tail.hear" 674 186 2 3 369 370 .none (r 371) (r 372) 373 680 681
noncomputable def o375:Obj:=fo "Tail.hear" "bitrail.tails" 640 374 (sub 2 (sf p 51))
noncomputable def o381:Obj:=cc "is_fault" "Tail.is_fault" 683 193 3 3 376 377 .none (r 378) (r 379) 380 689 690
noncomputable def o382:Obj:=fo "Tail.is_fault" "bitrail.tails" 640 381 (sub 3 (sf p 51))
noncomputable def o388:Obj:=cc "judged_vote" "Tail.judged_vote" 692 198 2 3 383 384 .none (r 385) (r 386) 387 697 698
noncomputable def o389:Obj:=fo "Tail.judged_vote" "bitrail.tails" 640 388 (sub 4 (sf p 51))
noncomputable def o395:Obj:=cc "place" "Tail.place" 700 205 1 3 390 391 .none (r 392) (r 393) 394 704 705
noncomputable def o396:Obj:=fo "Tail.place" "bitrail.tails" 640 395 (sub 5 (sf p 51))
noncomputable def o398 (P:Params):Obj:=di (t "dict") [e P "__module__" 653 (s "bitrail.tails" 640),e P "__firstlineno__" 657 (i 175 656),e P "__init__" 666 (r 361),e P "says" 673 (r 368),e P "hear" 682 (r 375),e P "is_fault" 691 (r 382),e P "judged_vote" 699 (r 389),e P "place" 706 (r 396),e P "__static_attributes__" 711 (r 397),e P "__dict__" 713 (r 400),e P "__weakref__" 715 (r 401),e P "__doc__" 716 .none] 4
noncomputable def o399:Obj:=cl { name:="Tail",bases:=[t "object"],mro:=[r 399,t "object"],ns:=398,qualname:="Tail",hasDict:=true,subclasses:=[r 420,r 439] } [.none,.none,o (s "Tail" 646),o (s "Tail" 654),o (b "object.__new__"),o (.bool true)]
noncomputable def o416:Obj:=cc "__init__" "ReadTail.__init__" 731 209 2 3 411 412 .none (r 413) (r 414) 415 736 737
noncomputable def o417:Obj:=fo "ReadTail.__init__" "bitrail.tails" 640 416 (sub 0 (sf p 52))
noncomputable def o419 (P:Params):Obj:=di (t "dict") [e P "__module__" 726 (s "bitrail.tails" 640),e P "__firstlineno__" 730 (i 207 729),e P "__init__" 738 (r 417),e P "__static_attributes__" 739 (r 418),e P "__doc__" 740 .none] 2
noncomputable def o420:Obj:=cl { name:="ReadTail",bases:=[r 399],mro:=[r 420,r 399,t "object"],ns:=419,qualname:="ReadTail",hasDict:=true,subclasses:=[] } [o (r 404),.none,o (s "ReadTail" 719),o (s "ReadTail" 727),o (b "object.__new__"),o (.bool true)]
noncomputable def o435:Obj:=cc "__init__" "SpeakTail.__init__" 755 213 2 3 430 431 .none (r 432) (r 433) 434 760 761
noncomputable def o436:Obj:=fo "SpeakTail.__init__" "bitrail.tails" 640 435 (sub 0 (sf p 53))
noncomputable def o438 (P:Params):Obj:=di (t "dict") [e P "__module__" 750 (s "bitrail.tails" 640),e P "__firstlineno__" 754 (i 211 753),e P "__init__" 762 (r 436),e P "__static_attributes__" 763 (r 437),e P "__doc__" 764 .none] 2
noncomputable def o439:Obj:=cl { name:="SpeakTail",bases:=[r 399],mro:=[r 439,r 399,t "object"],ns:=438,qualname:="SpeakTail",hasDict:=true,subclasses:=[] } [o (r 423),.none,o (s "SpeakTail" 743),o (s "SpeakTail" 751),o (b "object.__new__"),o (.bool true)]
noncomputable def o447:Obj:=cc "begun_reader" "begun_reader" 777 220 0 3 442 443 .none (r 444) (r 445) 446 781 782
noncomputable def o448:Obj:=fo "begun_reader" "bitrail.stances" 767 447 (sf p 59)
noncomputable def o454:Obj:=cc "unless_off" "unless_off" 784 224 3 3 449 450 .none (r 451) (r 452) 453 790 791
noncomputable def o455:Obj:=fo "unless_off" "bitrail.stances" 767 454 (sf p 60)
noncomputable def o461:Obj:=cc "fault_of" "fault_of" 793 226 2 3 456 457 .none (r 458) (r 459) 460 798 799
noncomputable def o462:Obj:=fo "fault_of" "bitrail.stances" 767 461 (sf p 61)
noncomputable def o468:Obj:=cc "refusal_of" "refusal_of" 801 229 2 3 463 464 .none (r 465) (r 466) 467 806 807
noncomputable def o469:Obj:=fo "refusal_of" "bitrail.stances" 767 468 (sf p 62)
noncomputable def o489:Obj:=cc "__init__" "Free.__init__" 828 237 2 3 484 485 .none (r 486) (r 487) 488 833 834
noncomputable def o490:Obj:=fo "Free.__init__" "bitrail.stances" 767 489 (sub 0 (sf p 64))
noncomputable def o503:Obj:=cc "says" "Free.says" 843 243 2 3 498 499 .none (r 500) (r 501) 502 848 849
noncomputable def o504:Obj:=fo "Free.says" "bitrail.stances" 767 503 (sub 2 (sf p 64))
noncomputable def o510:Obj:=cc "step" "Free.step" 851 248 3 3 505 506 .none (r 507) (r 508) 509 858 859
noncomputable def o511:Obj:=fo "Free.step" "bitrail.stances" 767 510 (sub 3 (sf p 64))
noncomputable def o513 (P:Params):Obj:=di (t "dict") [e P "__module__" 823 (s "bitrail.stances" 767),e P "__firstlineno__" 827 (i 235 826),e P "__init__" 835 (r 490),e P "shown" 842 (r 497),e P "says" 850 (r 504),e P "step" 860 (r 511),e P "__static_attributes__" 862 (r 512),e P "__dict__" 864 (r 515),e P "__weakref__" 866 (r 516),e P "__doc__" 867 .none] 4
noncomputable def o514:Obj:=cl { name:="Free",bases:=[t "object"],mro:=[r 514,t "object"],ns:=513,qualname:="Free",hasDict:=true,subclasses:=[] } [.none,.none,o (s "Free" 816),o (s "Free" 824),o (b "object.__new__"),o (.bool true)]
noncomputable def o531:Obj:=cc "__init__" "Speaks.__init__" 882 259 4 3 526 527 .none (r 528) (r 529) 530 889 890
noncomputable def o532:Obj:=fo "Speaks.__init__" "bitrail.stances" 767 531 (sub 0 (sf p 65))
noncomputable def o545:Obj:=cc "says" "Speaks.says" 899 267 2 3 540 541 .none (r 542) (r 543) 544 904 905
noncomputable def o546:Obj:=fo "Speaks.says" "bitrail.stances" 767 545 (sub 2 (sf p 65))
noncomputable def o552:Obj:=cc "step" "Speaks.step" 907 270 3 3 547 548 .none (r 549) (r 550) 551 915 916
noncomputable def o553:Obj:=fo "Speaks.step" "bitrail.stances" 767 552 (sub 3 (sf p 65))
noncomputable def o555 (P:Params):Obj:=di (t "dict") [e P "__module__" 877 (s "bitrail.stances" 767),e P "__firstlineno__" 881 (i 257 880),e P "__init__" 891 (r 532),e P "shown" 898 (r 539),e P "says" 906 (r 546),e P "step" 917 (r 553),e P "__static_attributes__" 921 (r 554),e P "__dict__" 923 (r 557),e P "__weakref__" 925 (r 558),e P "__doc__" 926 .none] 4
noncomputable def o556:Obj:=cl { name:="Speaks",bases:=[t "object"],mro:=[r 556,t "object"],ns:=555,qualname:="Speaks",hasDict:=true,subclasses:=[] } [.none,.none,o (s "Speaks" 870),o (s "Speaks" 878),o (b "object.__new__"),o (.bool true)]
noncomputable def o573:Obj:=cc "__init__" "Reads.__init__" 941 284 3 3 568 569 .none (r 570) (r 571) 572 947 948
noncomputable def o574:Obj:=fo "Reads.__init__" "bitrail.stances" 767 573 (sub 0 (sf p 66))
noncomputable def o587:Obj:=cc "says" "Reads.says" 957 291 2 3 582 583 .none (r 584) (r 585) 586 962 963
noncomputable def o588:Obj:=fo "Reads.says" "bitrail.stances" 767 587 (sub 2 (sf p 66))
noncomputable def o594:Obj:=cc "step" "Reads.step" 965 294 3 3 589 590 .none (r 591) (r 592) 593 972 973
noncomputable def o595:Obj:=fo "Reads.step" "bitrail.stances" 767 594 (sub 3 (sf p 66))
noncomputable def o597 (P:Params):Obj:=di (t "dict") [e P "__module__" 936 (s "bitrail.stances" 767),e P "__firstlineno__" 940 (i 282 939),e P "__init__" 949 (r 574),e P "shown" 956 (r 581),e P "says" 964 (r 588),e P "step" 974 (r 595),e P "__static_attributes__" 977 (r 596),e P "__dict__" 979 (r 599),e P "__weakref__" 981 (r 600),e P "__doc__" 982 .none] 4
noncomputable def o598:Obj:=cl { name:="Reads",bases:=[t "object"],mro:=[r 598,t "object"],ns:=597,qualname:="Reads",hasDict:=true,subclasses:=[] } [.none,.none,o (s "Reads" 929),o (s "Reads" 937),o (b "object.__new__"),o (.bool true)]
noncomputable def o615:Obj:=cc "__init__" "InTail.__init__" 997 303 3 3 610 611 .none (r 612) (r 613) 614 1003 1004
noncomputable def o616:Obj:=fo "InTail.__init__" "bitrail.stances" 767 615 (sub 0 (sf p 67))
noncomputable def o629:Obj:=cc "says" "InTail.says" 1013 310 2 3 624 625 .none (r 626) (r 627) 628 1018 1019
noncomputable def o630:Obj:=fo "InTail.says" "bitrail.stances" 767 629 (sub 2 (sf p 67))
noncomputable def o636:Obj:=cc "step" "InTail.step" 1021 313 3 3 631 632 .none (r 633) (r 634) 635 1028 1029
noncomputable def o637:Obj:=fo "InTail.step" "bitrail.stances" 767 636 (sub 3 (sf p 67))
noncomputable def o639 (P:Params):Obj:=di (t "dict") [e P "__module__" 992 (s "bitrail.stances" 767),e P "__firstlineno__" 996 (i 301 995),e P "__init__" 1005 (r 616),e P "shown" 1012 (r 623),e P "says" 1020 (r 630),e P "step" 1030 (r 637),e P "__static_attributes__" 1033 (r 638),e P "__dict__" 1035 (r 641),e P "__weakref__" 1037 (r 642),e P "__doc__" 1038 .none] 4
noncomputable def o640:Obj:=cl { name:="InTail",bases:=[t "object"],mro:=[r 640,t "object"],ns:=639,qualname:="InTail",hasDict:=true,subclasses:=[] } [.none,.none,o (s "InTail" 985),o (s "InTail" 993),o (b "object.__new__"),o (.bool true)]
noncomputable def o657:Obj:=cc "__init__" "Flagging.__init__" 1053 329 3 3 652 653 .none (r 654) (r 655) 656 1059 1060
noncomputable def o658:Obj:=fo "Flagging.__init__" "bitrail.stances" 767 657 (sub 0 (sf p 68))
noncomputable def o681 (P:Params):Obj:=di (t "dict") [e P "__module__" 1048 (s "bitrail.stances" 767),e P "__firstlineno__" 1052 (i 327 1051),e P "__init__" 1061 (r 658),e P "shown" 1068 (r 665),e P "says" 1076 (r 672),e P "step" 1085 (r 679),e P "__static_attributes__" 1088 (r 680),e P "__dict__" 1090 (r 683),e P "__weakref__" 1092 (r 684),e P "__doc__" 1093 .none] 4
noncomputable def o682:Obj:=cl { name:="Flagging",bases:=[t "object"],mro:=[r 682,t "object"],ns:=681,qualname:="Flagging",hasDict:=true,subclasses:=[] } [.none,.none,o (s "Flagging" 1041),o (s "Flagging" 1049),o (b "object.__new__"),o (.bool true)]
noncomputable def o699:Obj:=cc "__init__" "Settles.__init__" 1108 345 2 3 694 695 .none (r 696) (r 697) 698 1113 1114
noncomputable def o700:Obj:=fo "Settles.__init__" "bitrail.stances" 767 699 (sub 0 (sf p 69))
noncomputable def o723 (P:Params):Obj:=di (t "dict") [e P "__module__" 1103 (s "bitrail.stances" 767),e P "__firstlineno__" 1107 (i 343 1106),e P "__init__" 1115 (r 700),e P "shown" 1122 (r 707),e P "says" 1130 (r 714),e P "step" 1139 (r 721),e P "__static_attributes__" 1141 (r 722),e P "__dict__" 1143 (r 725),e P "__weakref__" 1145 (r 726),e P "__doc__" 1146 .none] 4
noncomputable def o724:Obj:=cl { name:="Settles",bases:=[t "object"],mro:=[r 724,t "object"],ns:=723,qualname:="Settles",hasDict:=true,subclasses:=[] } [.none,.none,o (s "Settles" 1096),o (s "Settles" 1104),o (b "object.__new__"),o (.bool true)]
noncomputable def o741:Obj:=cc "__init__" "Rests.__init__" 1161 362 2 3 736 737 .none (r 738) (r 739) 740 1166 1167
noncomputable def o742:Obj:=fo "Rests.__init__" "bitrail.stances" 767 741 (sub 0 (sf p 70))
noncomputable def o748:Obj:=cc "shown" "Rests.shown" 1169 365 1 3 743 744 .none (r 745) (r 746) 747 1173 1174
noncomputable def o749:Obj:=fo "Rests.shown" "bitrail.stances" 767 748 (sub 1 (sf p 70))
noncomputable def o765 (P:Params):Obj:=di (t "dict") [e P "__module__" 1156 (s "bitrail.stances" 767),e P "__firstlineno__" 1160 (i 360 1159),e P "__init__" 1168 (r 742),e P "shown" 1175 (r 749),e P "says" 1183 (r 756),e P "step" 1192 (r 763),e P "__static_attributes__" 1194 (r 764),e P "__dict__" 1196 (r 767),e P "__weakref__" 1198 (r 768),e P "__doc__" 1199 .none] 4
noncomputable def o766:Obj:=cl { name:="Rests",bases:=[t "object"],mro:=[r 766,t "object"],ns:=765,qualname:="Rests",hasDict:=true,subclasses:=[] } [.none,.none,o (s "Rests" 1149),o (s "Rests" 1157),o (b "object.__new__"),o (.bool true)]
noncomputable def o800 (P:Params):Obj:=di (t "dict") [e P "__module__" 1209 (s "bitrail.stances" 767),e P "__firstlineno__" 1213 (i 375 1212),e P "shown" 1220 (r 784),e P "says" 1228 (r 791),e P "step" 1237 (r 798),e P "__static_attributes__" 1238 (r 799),e P "__dict__" 1240 (r 802),e P "__weakref__" 1242 (r 803),e P "__doc__" 1243 .none] 4
noncomputable def o801:Obj:=cl { name:="Off",bases:=[t "object"],mro:=[r 801,t "object"],ns:=800,qualname:="Off",hasDict:=true,subclasses:=[] } [.none,.none,o (s "Off" 1202),o (s "Off" 1210),o (b "object.__new__"),o (.bool true)]
noncomputable def o806:Obj:=tp [i 1 1248,i 3 1249,i 5 1250]
noncomputable def o812:Obj:=cc "check_votes" "check_votes" 1252 387 1 3 807 808 .none (r 809) (r 810) 811 1256 1257
noncomputable def o813:Obj:=fo "check_votes" "bitrail.posts" 1246 812 (sf p 74)
noncomputable def o819:Obj:=cc "check_choice" "check_choice" 1259 390 1 3 814 815 .none (r 816) (r 817) 818 1263 1264
noncomputable def o820:Obj:=fo "check_choice" "bitrail.posts" 1246 819 (sf p 75)
noncomputable def o824:Obj:=cc "copies" "copies" 1266 393 1 3 821 822 .none .none .none 823 1269 1270
noncomputable def o825:Obj:=fo "copies" "bitrail.posts" 1246 824 (sf p 76)
noncomputable def o838:Obj:=cc "__init__" "Post.__init__" 1284 397 3 3 833 834 .none (r 835) (r 836) 837 1290 1291
noncomputable def o839:Obj:=fo "Post.__init__" "bitrail.posts" 1246 838 (sub 0 (sf p 77))
noncomputable def o845:Obj:=cc "hand" "Post.hand" 1293 407 3 3 840 841 .none (r 842) (r 843) 844 1299 1300
noncomputable def o846:Obj:=fo "Post.hand" "bitrail.posts" 1246 845 (sub 1 (sf p 77))
noncomputable def o852:Obj:=cc "says" "Post.says" 1302 411 1 3 847 848 .none (r 849) (r 850) 851 1306 1307
noncomputable def o853:Obj:=fo "Post.says" "bitrail.posts" 1246 852 (sub 2 (sf p 77))
noncomputable def o859:Obj:=cc "hear" "Post.hear" 1309 414 2 3 854 855 .none (r 856) (r 857) 858 1315 1316
noncomputable def o860:Obj:=fo "Post.hear" "bitrail.posts" 1246 859 (sub 3 (sf p 77))
noncomputable def o866:Obj:=cc "stance" "Post.stance" 1318 419 1 3 861 862 .none (r 863) (r 864) 865 1322 1323
noncomputable def o867:Obj:=fo "Post.stance" "bitrail.posts" 1246 866 (sub 4 (sf p 77))
noncomputable def o873:Obj:=cc "waits" "Post.waits" 1325 422 1 3 868 869 .none (r 870) (r 871) 872 1329 1330
noncomputable def o874:Obj:=fo "Post.waits" "bitrail.posts" 1246 873 (sub 5 (sf p 77))
noncomputable def o880:Obj:=cc "got" "Post.got" 1332 425 1 3 875 876 .none (r 877) (r 878) 879 1336 1337
noncomputable def o881:Obj:=fo "Post.got" "bitrail.posts" 1246 880 (sub 6 (sf p 77))
noncomputable def o887:Obj:=cc "faults" "Post.faults" 1339 428 1 3 882 883 .none (r 884) (r 885) 886 1343 1344
noncomputable def o888:Obj:=fo "Post.faults" "bitrail.posts" 1246 887 (sub 7 (sf p 77))
noncomputable def o894:Obj:=cc "is_quiet" "Post.is_quiet" 1346 431 1 3 889 890 .none (r 891) (r 892) 893 1350 1351
noncomputable def o895:Obj:=fo "Post.is_quiet" "bitrail.posts" 1246 894 (sub 8 (sf p 77))
noncomputable def o901:Obj:=cc "is_off" "Post.is_off" 1353 434 1 3 896 897 .none (r 898) (r 899) 900 1357 1358
noncomputable def o902:Obj:=fo "Post.is_off" "bitrail.posts" 1246 901 (sub 9 (sf p 77))
noncomputable def o908:Obj:=cc "has_frame" "Post.has_frame" 1360 437 1 3 903 904 .none (r 905) (r 906) 907 1364 1365
noncomputable def o909:Obj:=fo "Post.has_frame" "bitrail.posts" 1246 908 (sub 10 (sf p 77))
noncomputable def o915:Obj:=cc "foremost_wire" "Post.foremost_wire" 1367 440 1 3 910 911 .none (r 912) (r 913) 914 1371 1372
noncomputable def o916:Obj:=fo "Post.foremost_wire" "bitrail.posts" 1246 915 (sub 11 (sf p 77))
noncomputable def o922:Obj:=cc "drop_foremost" "Post.drop_foremost" 1374 443 1 3 917 918 .none (r 919) (r 920) 921 1378 1379
noncomputable def o923:Obj:=fo "Post.drop_foremost" "bitrail.posts" 1246 922 (sub 12 (sf p 77))
noncomputable def o929:Obj:=cc "hand_up" "Post.hand_up" 1381 446 2 3 924 925 .none (r 926) (r 927) 928 1386 1387
noncomputable def o930:Obj:=fo "Post.hand_up" "bitrail.posts" 1246 929 (sub 13 (sf p 77))
noncomputable def o932 (P:Params):Obj:=di (t "dict") [e P "__module__" 1279 (s "bitrail.posts" 1246),e P "__firstlineno__" 1283 (i 395 1282),e P "__init__" 1292 (r 839),e P "hand" 1301 (r 846),e P "says" 1308 (r 853),e P "hear" 1317 (r 860),e P "stance" 1324 (r 867),e P "waits" 1331 (r 874),e P "got" 1338 (r 881),e P "faults" 1345 (r 888),e P "is_quiet" 1352 (r 895),e P "is_off" 1359 (r 902),e P "has_frame" 1366 (r 909),e P "foremost_wire" 1373 (r 916),e P "drop_foremost" 1380 (r 923),e P "hand_up" 1388 (r 930),e P "__static_attributes__" 1395 (r 931),e P "__dict__" 1397 (r 934),e P "__weakref__" 1399 (r 935),e P "__doc__" 1400 .none] 4
noncomputable def o933:Obj:=cl { name:="Post",bases:=[t "object"],mro:=[r 933,t "object"],ns:=932,qualname:="Post",hasDict:=true,subclasses:=[] } [.none,.none,o (s "Post" 1272),o (s "Post" 1280),o (b "object.__new__"),o (.bool true)]
noncomputable def o948:Obj:=cc "__init__" "Rail.__init__" 1419 453 3 3 945 946 .none .none .none 947 1422 1423
noncomputable def o949:Obj:=fo "Rail.__init__" "bitrail.rails" 1403 948 (sub 0 (sf p 80))
noncomputable def o955:Obj:=cc "hand" "Rail.hand" 1425 463 4 3 950 951 .none (r 952) (r 953) 954 1433 1434
noncomputable def o956:Obj:=fo "Rail.hand" "bitrail.rails" 1403 955 (sub 1 (sf p 80))
noncomputable def o967:Obj:=cc "run" "Rail.run" 1446 477 3 3 964 965 .none .none .none 966 1449 1450
noncomputable def o968:Obj:=fo "Rail.run" "bitrail.rails" 1403 967 (sub 3 (sf p 80))
noncomputable def o972:Obj:=cc "make_turn" "Rail.make_turn" 1452 481 2 3 969 970 .none .none .none 971 1455 1456
noncomputable def o973:Obj:=fo "Rail.make_turn" "bitrail.rails" 1403 972 (sub 4 (sf p 80))
noncomputable def o979:Obj:=cc "post_at" "Rail.post_at" 1458 494 2 3 974 975 .none (r 976) (r 977) 978 1463 1464
noncomputable def o980:Obj:=fo "Rail.post_at" "bitrail.rails" 1403 979 (sub 5 (sf p 80))
noncomputable def o993:Obj:=cc "bits" "Rail.bits" 1473 502 1 3 988 989 .none (r 990) (r 991) 992 1477 1478
noncomputable def o994:Obj:=fo "Rail.bits" "bitrail.rails" 1403 993 (sub 7 (sf p 80))
noncomputable def o1014:Obj:=cc "events" "Rail.events" 1496 513 1 3 1009 1010 .none (r 1011) (r 1012) 1013 1500 1501
noncomputable def o1015:Obj:=fo "Rail.events" "bitrail.rails" 1403 1014 (sub 10 (sf p 80))
noncomputable def o1021:Obj:=cc "stance" "Rail.stance" 1503 516 2 3 1016 1017 .none (r 1018) (r 1019) 1020 1508 1509
noncomputable def o1022:Obj:=fo "Rail.stance" "bitrail.rails" 1403 1021 (sub 11 (sf p 80))
noncomputable def o1028:Obj:=cc "waits" "Rail.waits" 1511 519 2 3 1023 1024 .none (r 1025) (r 1026) 1027 1516 1517
noncomputable def o1029:Obj:=fo "Rail.waits" "bitrail.rails" 1403 1028 (sub 12 (sf p 80))
noncomputable def o1035:Obj:=cc "got" "Rail.got" 1519 522 2 3 1030 1031 .none (r 1032) (r 1033) 1034 1524 1525
noncomputable def o1036:Obj:=fo "Rail.got" "bitrail.rails" 1403 1035 (sub 13 (sf p 80))
noncomputable def o1042:Obj:=cc "faults" "Rail.faults" 1527 525 2 3 1037 1038 .none (r 1039) (r 1040) 1041 1532 1533
noncomputable def o1043:Obj:=fo "Rail.faults" "bitrail.rails" 1403 1042 (sub 14 (sf p 80))
noncomputable def o1059 (P:Params):Obj:=di (t "dict") [e P "__module__" 1414 (s "bitrail.rails" 1403),e P "__firstlineno__" 1418 (i 451 1417),e P "__init__" 1424 (r 949),e P "hand" 1435 (r 956),e P "turn" 1445 (r 963),e P "run" 1451 (r 968),e P "make_turn" 1457 (r 973),e P "post_at" 1465 (r 980),e P "turns" 1472 (r 987),e P "bits" 1479 (r 994),e P "said" 1487 (r 1001),e P "heard" 1495 (r 1008),e P "events" 1502 (r 1015),e P "stance" 1510 (r 1022),e P "waits" 1518 (r 1029),e P "got" 1526 (r 1036),e P "faults" 1534 (r 1043),e P "is_quiet" 1542 (r 1050),e P "is_off" 1550 (r 1057),e P "__static_attributes__" 1557 (r 1058),e P "__dict__" 1559 (r 1061),e P "__weakref__" 1561 (r 1062),e P "__doc__" 1562 .none] 4
noncomputable def o1060:Obj:=cl { name:="Rail",bases:=[t "object"],mro:=[r 1060,t "object"],ns:=1059,qualname:="Rail",hasDict:=true,subclasses:=[] } [.none,.none,o (s "Rail" 1407),o (s "Rail" 1415),o (b "object.__new__"),o (.bool true)]
noncomputable def o1070:Obj:=cc "heard_well" "heard_well" 1565 533 3 3 1065 1066 .none (r 1067) (r 1068) 1069 1571 1572
noncomputable def o1071:Obj:=fo "heard_well" "bitrail.rails" 1403 1070 (sf p 81)
noncomputable def o1077:Obj:=cc "_law_draw" "_law_draw" 1576 536 3 3 1072 1073 .none (r 1074) (r 1075) 1076 1584 1585
noncomputable def o1078:Obj:=fo "_law_draw" "law_bitrail_k54_whole_the_least_name_speaks" 1574 1077 (sf p 83)
noncomputable def o1082:Obj:=cc "_law_bits" "_law_bits" 1587 540 2 3 1079 1080 .none .none .none 1081 1590 1591
noncomputable def o1083:Obj:=fo "_law_bits" "law_bitrail_k54_whole_the_least_name_speaks" 1574 1082 (sf p 84)
noncomputable def o1089:Obj:=cc "_law_wire" "_law_wire" 1593 542 1 3 1084 1085 .none (r 1086) (r 1087) 1088 1602 1603
noncomputable def o1090:Obj:=fo "_law_wire" "law_bitrail_k54_whole_the_least_name_speaks" 1574 1089 (sf p 85)
noncomputable def o1096:Obj:=cc "_law_names" "_law_names" 1605 557 2 3 1091 1092 .none (r 1093) (r 1094) 1095 1616 1617
noncomputable def o1097:Obj:=fo "_law_names" "law_bitrail_k54_whole_the_least_name_speaks" 1574 1096 (sf p 86)
noncomputable def o1101:Obj:=cc "_law_frames" "_law_frames" 1619 570 2 3 1098 1099 .none .none .none 1100 1622 1623
noncomputable def o1102:Obj:=fo "_law_frames" "law_bitrail_k54_whole_the_least_name_speaks" 1574 1101 (sf p 87)
noncomputable def o1108:Obj:=cc "_law_choices" "_law_choices" 1625 576 2 3 1103 1104 .none (r 1105) (r 1106) 1107 1634 1635
noncomputable def o1109:Obj:=fo "_law_choices" "law_bitrail_k54_whole_the_least_name_speaks" 1574 1108 (sf p 88)
noncomputable def o1115:Obj:=cc "_law_lost" "_law_lost" 1637 583 2 3 1110 1111 .none (r 1112) (r 1113) 1114 1643 1644
noncomputable def o1116:Obj:=fo "_law_lost" "law_bitrail_k54_whole_the_least_name_speaks" 1574 1115 (sf p 89)
noncomputable def o1120:Obj:=cc "_law_due" "_law_due" 1646 588 3 3 1117 1118 .none .none .none 1119 1649 1650
noncomputable def o1121:Obj:=fo "_law_due" "law_bitrail_k54_whole_the_least_name_speaks" 1574 1120 (sf p 90)
noncomputable def o1127:Obj:=cc "_law_named" "_law_named" 1652 597 3 3 1122 1123 .none (r 1124) (r 1125) 1126 1659 1660
noncomputable def o1128:Obj:=fo "_law_named" "law_bitrail_k54_whole_the_least_name_speaks" 1574 1127 (sf p 91)
noncomputable def o1132:Obj:=cc "law" "law" 1662 604 1 3 1129 1130 .none .none .none 1131 1665 1666
noncomputable def o1133:Obj:=fo "law" "law_bitrail_k54_whole_the_least_name_speaks" 1574 1132 (sf p 92)
noncomputable def K (P:Params):Frag:=(nat_lit 2,o2)::(nat_lit 3,o3 P)::(nat_lit 23,o23 P)::(nat_lit 24,o24)::(nat_lit 36,o36 P)::(nat_lit 37,o37)::(nat_lit 48,o48 P)::(nat_lit 49,o49)::(nat_lit 60,o60 P)::(nat_lit 61,o61)::(nat_lit 72,o72 P)::(nat_lit 73,o73)::(nat_lit 84,o84 P)::(nat_lit 85,o85)::(nat_lit 91,o91)::(nat_lit 92,o92)::(nat_lit 98,o98)::(nat_lit 99,o99)::(nat_lit 103,o103)::(nat_lit 104,o104)::(nat_lit 110,o110)::(nat_lit 111,o111)::(nat_lit 117,o117)::(nat_lit 118,o118)::(nat_lit 124,o124)::(nat_lit 125,o125)::(nat_lit 131,o131)::(nat_lit 132,o132)::(nat_lit 138,o138)::(nat_lit 139,o139)::(nat_lit 152,o152)::(nat_lit 153,o153)::(nat_lit 159,o159)::(nat_lit 160,o160)::(nat_lit 166,o166)::(nat_lit 167,o167)::(nat_lit 173,o173)::(nat_lit 174,o174)::(nat_lit 176,o176 P)::(nat_lit 177,o177)::(nat_lit 187,o187)::(nat_lit 188,o188)::(nat_lit 194,o194)::(nat_lit 195,o195)::(nat_lit 201,o201)::(nat_lit 202,o202)::(nat_lit 208,o208)::(nat_lit 209,o209)::(nat_lit 215,o215)::(nat_lit 216,o216)::(nat_lit 220,o220)::(nat_lit 221,o221)::(nat_lit 227,o227)::(nat_lit 228,o228)::(nat_lit 241,o241)::(nat_lit 242,o242)::(nat_lit 248,o248)::(nat_lit 249,o249)::(nat_lit 262,o262)::(nat_lit 263,o263)::(nat_lit 269,o269)::(nat_lit 270,o270)::(nat_lit 276,o276)::(nat_lit 277,o277)::(nat_lit 283,o283)::(nat_lit 284,o284)::(nat_lit 290,o290)::(nat_lit 291,o291)::(nat_lit 293,o293 P)::(nat_lit 294,o294)::(nat_lit 311,o311)::(nat_lit 312,o312)::(nat_lit 318,o318)::(nat_lit 319,o319)::(nat_lit 325,o325)::(nat_lit 326,o326)::(nat_lit 332,o332)::(nat_lit 333,o333)::(nat_lit 339,o339)::(nat_lit 340,o340)::(nat_lit 342,o342 P)::(nat_lit 343,o343)::(nat_lit 360,o360)::(nat_lit 361,o361)::(nat_lit 367,o367)::(nat_lit 368,o368)::(nat_lit 374,o374)::(nat_lit 375,o375)::(nat_lit 381,o381)::(nat_lit 382,o382)::(nat_lit 388,o388)::(nat_lit 389,o389)::(nat_lit 395,o395)::(nat_lit 396,o396)::(nat_lit 398,o398 P)::(nat_lit 399,o399)::(nat_lit 416,o416)::(nat_lit 417,o417)::(nat_lit 419,o419 P)::(nat_lit 420,o420)::(nat_lit 435,o435)::(nat_lit 436,o436)::(nat_lit 438,o438 P)::(nat_lit 439,o439)::(nat_lit 447,o447)::(nat_lit 448,o448)::(nat_lit 454,o454)::(nat_lit 455,o455)::(nat_lit 461,o461)::(nat_lit 462,o462)::(nat_lit 468,o468)::(nat_lit 469,o469)::(nat_lit 489,o489)::(nat_lit 490,o490)::(nat_lit 503,o503)::(nat_lit 504,o504)::(nat_lit 510,o510)::(nat_lit 511,o511)::(nat_lit 513,o513 P)::(nat_lit 514,o514)::(nat_lit 531,o531)::(nat_lit 532,o532)::(nat_lit 545,o545)::(nat_lit 546,o546)::(nat_lit 552,o552)::(nat_lit 553,o553)::(nat_lit 555,o555 P)::(nat_lit 556,o556)::(nat_lit 573,o573)::(nat_lit 574,o574)::(nat_lit 587,o587)::(nat_lit 588,o588)::(nat_lit 594,o594)::(nat_lit 595,o595)::(nat_lit 597,o597 P)::(nat_lit 598,o598)::(nat_lit 615,o615)::(nat_lit 616,o616)::(nat_lit 629,o629)::(nat_lit 630,o630)::(nat_lit 636,o636)::(nat_lit 637,o637)::(nat_lit 639,o639 P)::(nat_lit 640,o640)::(nat_lit 657,o657)::(nat_lit 658,o658)::(nat_lit 681,o681 P)::(nat_lit 682,o682)::(nat_lit 699,o699)::(nat_lit 700,o700)::(nat_lit 723,o723 P)::(nat_lit 724,o724)::(nat_lit 741,o741)::(nat_lit 742,o742)::(nat_lit 748,o748)::(nat_lit 749,o749)::(nat_lit 765,o765 P)::(nat_lit 766,o766)::(nat_lit 800,o800 P)::(nat_lit 801,o801)::(nat_lit 806,o806)::(nat_lit 812,o812)::(nat_lit 813,o813)::(nat_lit 819,o819)::(nat_lit 820,o820)::(nat_lit 824,o824)::(nat_lit 825,o825)::(nat_lit 838,o838)::(nat_lit 839,o839)::(nat_lit 845,o845)::(nat_lit 846,o846)::(nat_lit 852,o852)::(nat_lit 853,o853)::(nat_lit 859,o859)::(nat_lit 860,o860)::(nat_lit 866,o866)::(nat_lit 867,o867)::(nat_lit 873,o873)::(nat_lit 874,o874)::(nat_lit 880,o880)::(nat_lit 881,o881)::(nat_lit 887,o887)::(nat_lit 888,o888)::(nat_lit 894,o894)::(nat_lit 895,o895)::(nat_lit 901,o901)::(nat_lit 902,o902)::(nat_lit 908,o908)::(nat_lit 909,o909)::(nat_lit 915,o915)::(nat_lit 916,o916)::(nat_lit 922,o922)::(nat_lit 923,o923)::(nat_lit 929,o929)::(nat_lit 930,o930)::(nat_lit 932,o932 P)::(nat_lit 933,o933)::(nat_lit 948,o948)::(nat_lit 949,o949)::(nat_lit 955,o955)::(nat_lit 956,o956)::(nat_lit 967,o967)::(nat_lit 968,o968)::(nat_lit 972,o972)::(nat_lit 973,o973)::(nat_lit 979,o979)::(nat_lit 980,o980)::(nat_lit 993,o993)::(nat_lit 994,o994)::(nat_lit 1014,o1014)::(nat_lit 1015,o1015)::(nat_lit 1021,o1021)::(nat_lit 1022,o1022)::(nat_lit 1028,o1028)::(nat_lit 1029,o1029)::(nat_lit 1035,o1035)::(nat_lit 1036,o1036)::(nat_lit 1042,o1042)::(nat_lit 1043,o1043)::(nat_lit 1059,o1059 P)::(nat_lit 1060,o1060)::(nat_lit 1070,o1070)::(nat_lit 1071,o1071)::(nat_lit 1077,o1077)::(nat_lit 1078,o1078)::(nat_lit 1082,o1082)::(nat_lit 1083,o1083)::(nat_lit 1089,o1089)::(nat_lit 1090,o1090)::(nat_lit 1096,o1096)::(nat_lit 1097,o1097)::(nat_lit 1101,o1101)::(nat_lit 1102,o1102)::(nat_lit 1108,o1108)::(nat_lit 1109,o1109)::(nat_lit 1115,o1115)::(nat_lit 1116,o1116)::(nat_lit 1120,o1120)::(nat_lit 1121,o1121)::(nat_lit 1127,o1127)::(nat_lit 1128,o1128)::(nat_lit 1132,o1132)::(nat_lit 1133,o1133)::[]
noncomputable def as:List Addr:=2::3::23::24::36::37::48::49::60::61::72::73::84::85::91::92::98::99::103::104::110::111::117::118::124::125::131::132::138::139::152::153::159::160::166::167::173::174::176::177::187::188::194::195::201::202::208::209::215::216::220::221::227::228::241::242::248::249::262::263::269::270::276::277::283::284::290::291::293::294::311::312::318::319::325::326::332::333::339::340::342::343::360::361::367::368::374::375::381::382::388::389::395::396::398::399::416::417::419::420::435::436::438::439::447::448::454::455::461::462::468::469::489::490::503::504::510::511::513::514::531::532::545::546::552::553::555::556::573::574::587::588::594::595::597::598::615::616::629::630::636::637::639::640::657::658::681::682::699::700::723::724::741::742::748::749::765::766::800::801::806::812::813::819::820::824::825::838::839::845::846::852::853::859::860::866::867::873::874::880::881::887::888::894::895::901::902::908::909::915::916::922::923::929::930::932::933::948::949::955::956::967::968::972::973::979::980::993::994::1014::1015::1021::1022::1028::1029::1035::1036::1042::1043::1059::1060::1070::1071::1077::1078::1082::1083::1089::1090::1096::1097::1101::1102::1108::1109::1115::1116::1120::1121::1127::1128::1132::1133::[]
noncomputable def g0 (P:Params):List (Nat×Obj):=(2,o2)::(3,o3 P)::(23,o23 P)::(24,o24)::(36,o36 P)::(37,o37)::(48,o48 P)::(49,o49)::[]
noncomputable def g1 (P:Params):List (Nat×Obj):=(60,o60 P)::(61,o61)::(72,o72 P)::(73,o73)::(84,o84 P)::(85,o85)::(91,o91)::(92,o92)::[]
noncomputable def g2 (P:Params):List (Nat×Obj):=(98,o98)::(99,o99)::(103,o103)::(104,o104)::(110,o110)::(111,o111)::(117,o117)::(118,o118)::[]
noncomputable def g3 (P:Params):List (Nat×Obj):=(124,o124)::(125,o125)::(131,o131)::(132,o132)::(138,o138)::(139,o139)::[]
noncomputable def g4 (P:Params):List (Nat×Obj):=(152,o152)::(153,o153)::(159,o159)::(160,o160)::(166,o166)::(167,o167)::[]
noncomputable def g5 (P:Params):List (Nat×Obj):=(173,o173)::(174,o174)::(176,o176 P)::(177,o177)::(187,o187)::(188,o188)::[]
noncomputable def g6 (P:Params):List (Nat×Obj):=(194,o194)::(195,o195)::(201,o201)::(202,o202)::(208,o208)::(209,o209)::(215,o215)::[]
noncomputable def g7 (P:Params):List (Nat×Obj):=(216,o216)::(220,o220)::(221,o221)::(227,o227)::(228,o228)::(241,o241)::(242,o242)::[]
noncomputable def g8 (P:Params):List (Nat×Obj):=(248,o248)::(249,o249)::(262,o262)::(263,o263)::[]
noncomputable def g9 (P:Params):List (Nat×Obj):=(269,o269)::(270,o270)::(276,o276)::(277,o277)::(283,o283)::(284,o284)::(290,o290)::[]
noncomputable def g10 (P:Params):List (Nat×Obj):=(291,o291)::(293,o293 P)::(294,o294)::(311,o311)::(312,o312)::(318,o318)::(319,o319)::[]
noncomputable def g11 (P:Params):List (Nat×Obj):=(325,o325)::(326,o326)::(332,o332)::(333,o333)::(339,o339)::(340,o340)::[]
noncomputable def g12 (P:Params):List (Nat×Obj):=(342,o342 P)::(343,o343)::(360,o360)::(361,o361)::(367,o367)::(368,o368)::[]
noncomputable def g13 (P:Params):List (Nat×Obj):=(374,o374)::(375,o375)::(381,o381)::(382,o382)::(388,o388)::(389,o389)::[]
noncomputable def g14 (P:Params):List (Nat×Obj):=(395,o395)::(396,o396)::(398,o398 P)::(399,o399)::(416,o416)::(417,o417)::(419,o419 P)::(420,o420)::[]
noncomputable def g15 (P:Params):List (Nat×Obj):=(435,o435)::(436,o436)::(438,o438 P)::(439,o439)::(447,o447)::(448,o448)::[]
noncomputable def g16 (P:Params):List (Nat×Obj):=(454,o454)::(455,o455)::(461,o461)::(462,o462)::(468,o468)::(469,o469)::[]
noncomputable def g17 (P:Params):List (Nat×Obj):=(489,o489)::(490,o490)::(503,o503)::[]
noncomputable def g18 (P:Params):List (Nat×Obj):=(504,o504)::(510,o510)::(511,o511)::(513,o513 P)::(514,o514)::(531,o531)::(532,o532)::[]
noncomputable def g19 (P:Params):List (Nat×Obj):=(545,o545)::(546,o546)::(552,o552)::(553,o553)::[]
noncomputable def g20 (P:Params):List (Nat×Obj):=(555,o555 P)::(556,o556)::(573,o573)::(574,o574)::[]
noncomputable def g21 (P:Params):List (Nat×Obj):=(587,o587)::(588,o588)::(594,o594)::(595,o595)::(597,o597 P)::(598,o598)::[]
noncomputable def g22 (P:Params):List (Nat×Obj):=(615,o615)::(616,o616)::(629,o629)::(630,o630)::(636,o636)::[]
noncomputable def g23 (P:Params):List (Nat×Obj):=(637,o637)::(639,o639 P)::(640,o640)::(657,o657)::(658,o658)::[]
noncomputable def g24 (P:Params):List (Nat×Obj):=(681,o681 P)::(682,o682)::[]
noncomputable def g25 (P:Params):List (Nat×Obj):=(699,o699)::(700,o700)::[]
noncomputable def g26 (P:Params):List (Nat×Obj):=(723,o723 P)::(724,o724)::(741,o741)::(742,o742)::[]
noncomputable def g27 (P:Params):List (Nat×Obj):=(748,o748)::(749,o749)::(765,o765 P)::(766,o766)::[]
noncomputable def g28 (P:Params):List (Nat×Obj):=[]
noncomputable def g29 (P:Params):List (Nat×Obj):=(800,o800 P)::(801,o801)::(806,o806)::(812,o812)::(813,o813)::(819,o819)::(820,o820)::[]
noncomputable def g30 (P:Params):List (Nat×Obj):=(824,o824)::(825,o825)::(838,o838)::(839,o839)::(845,o845)::(846,o846)::[]
noncomputable def g31 (P:Params):List (Nat×Obj):=(852,o852)::(853,o853)::(859,o859)::(860,o860)::(866,o866)::(867,o867)::(873,o873)::[]
noncomputable def g32 (P:Params):List (Nat×Obj):=(874,o874)::(880,o880)::(881,o881)::(887,o887)::(888,o888)::(894,o894)::(895,o895)::[]
noncomputable def g33 (P:Params):List (Nat×Obj):=(901,o901)::(902,o902)::(908,o908)::(909,o909)::(915,o915)::(916,o916)::[]
noncomputable def g34 (P:Params):List (Nat×Obj):=(922,o922)::(923,o923)::(929,o929)::(930,o930)::(932,o932 P)::(933,o933)::(948,o948)::[]
noncomputable def g35 (P:Params):List (Nat×Obj):=(949,o949)::(955,o955)::(956,o956)::(967,o967)::(968,o968)::(972,o972)::[]
noncomputable def g36 (P:Params):List (Nat×Obj):=(973,o973)::(979,o979)::(980,o980)::(993,o993)::(994,o994)::[]
noncomputable def g37 (P:Params):List (Nat×Obj):=(1014,o1014)::(1015,o1015)::[]
noncomputable def g38 (P:Params):List (Nat×Obj):=(1021,o1021)::(1022,o1022)::(1028,o1028)::(1029,o1029)::(1035,o1035)::(1036,o1036)::[]
noncomputable def g39 (P:Params):List (Nat×Obj):=(1042,o1042)::(1043,o1043)::(1059,o1059 P)::(1060,o1060)::[]
noncomputable def g40 (P:Params):List (Nat×Obj):=(1070,o1070)::(1071,o1071)::(1077,o1077)::(1078,o1078)::(1082,o1082)::(1083,o1083)::[]
noncomputable def g41 (P:Params):List (Nat×Obj):=(1089,o1089)::(1090,o1090)::(1096,o1096)::(1097,o1097)::(1101,o1101)::(1102,o1102)::(1108,o1108)::[]
noncomputable def g42 (P:Params):List (Nat×Obj):=(1109,o1109)::(1115,o1115)::(1116,o1116)::(1120,o1120)::(1121,o1121)::(1127,o1127)::(1128,o1128)::(1132,o1132)::[]
noncomputable def g43 (P:Params):List (Nat×Obj):=(1133,o1133)::[]
noncomputable def L (P:Params):List (Nat×Obj):=g0 P++(g1 P++(g2 P++(g3 P++(g4 P++(g5 P++(g6 P++(g7 P++(g8 P++(g9 P++(g10 P++(g11 P++(g12 P++(g13 P++(g14 P++(g15 P++(g16 P++(g17 P++(g18 P++(g19 P++(g20 P++(g21 P++(g22 P++(g23 P++(g24 P++(g25 P++(g26 P++(g27 P++(g28 P++(g29 P++(g30 P++(g31 P++(g32 P++(g33 P++(g34 P++(g35 P++(g36 P++(g37 P++(g38 P++(g39 P++(g40 P++(g41 P++(g42 P++(g43 P)))))))))))))))))))))))))))))))))))))))))))
theorem K_L (P:Params):K P=L P:=by kernel_rfl
theorem K_as (P:Params):as=(K P).map (·.1):=by kernel_rfl
def qv:Program:=view p [92]
def loose:List Str:="RailError"::"NoBits"::"NoName"::"NoKey"::"NoFrame"::"NoPost"::"HIGHEST_BYTE"::"bits_of"::"number_of"::"are_bytes"::"divided"::"KEY"::"CHECK_BITS"::"rest_of"::"check_of"::"NAME_BITS"::"HIGHEST_NAME"::"is_name"::"is_wanted"::"MOST_ALIKE"::"Streak"::"put_in"::"SIZE_AT"::"SIZE_BITS"::"DATA_AT"::"BYTE_BITS"::"MOST_BYTES"::"check_frame"::"frame_bits"::"is_complete"::"told_size"::"read_frame"::"wire_of"::"GREAT_FAULT"::"SMALL_FAULT"::"QUIET_FROM"::"OFF_FROM"::"Count"::"Reader"::"ANSWER_AT"::"VOTES_AT"::"Tail"::"ReadTail"::"SpeakTail"::"FLAG_BITS"::"REST_TURNS"::"QUIET_TURNS"::"DUEL_BITS"::"begun_reader"::"unless_off"::"fault_of"::"refusal_of"::"blame_of"::"Free"::"Speaks"::"Reads"::"InTail"::"Flagging"::"Settles"::"Rests"::"Off"::"VOTES"::"check_votes"::"check_choice"::"copies"::"Post"::"MOST_POSTS"::"Rail"::"heard_well"::"_law_draw"::"_law_bits"::"_law_wire"::"_law_names"::"_law_frames"::"_law_choices"::"_law_lost"::"_law_due"::"_law_named"::[]
abbrev N:Nat:=8500
theorem a4F:∀w:World,(fencedOpening treeTable p w N).map (fun s=>(s.heap,s.gens,s.drawn,s.toks))=some (boot_heap w.params,Array.mk [],boot_drawn,boot_toks):=boot_open (by kernel_rfl) (by decide) (fun s=>by kernel_rfl)
def ann:Option Value:=some (.ref 6)
def whole (w:World)(os:OsState):=(segRunT treeTable p w 11 ann 0 N (S w os) (topStub p)).map fun r=>look p qv loose (xlAt qv []) as (boot_heap w.params) r.2.1
def good (w:World)(_:OsState):=some (true,openGood qv loose,((L w.params).map fun p=>p.2).map some)
def sz (w : World) := ((boot_heap w.params).isNs mainGlobals, (boot_heap w.params).objs.size, (boot_heap w.params).nsMap mainGlobals "__annotations__")
def sg (_:World):=(true,11,ann)
theorem a0M:whole=whole:=rfl
theorem a5B:good=good:=rfl
theorem a7B:sz=sz:=rfl
name_quick wq for whole by a0M
name_quick gq for good by a5B
name_quick zq for sz by a7B
theorem z_g (w:World):PySem.W.Fast.zq w=sg w:=by kernel_rfl
theorem w_g (w:World):PySem.W.Fast.wq w=PySem.W.Fast.gq w:=by kernel_rfl
theorem a6P:LeftO p qv loose (xlAt qv []) (fun s=>as.map s.heap.get?) (fun w=>((L w.params).map fun p=>p.2).map some) N:=qP S a4F (fun w=>(congrFun PySem.W.Fast.zq_eq w).trans (z_g w)) a6V fun w=>((congrFun PySem.W.Fast.wq_eq w).trans (w_g w)).trans (congrFun PySem.W.Fast.gq_eq w).symm
theorem left:LeftO p qv loose (xlAt qv []) (fun s=>as.map s.heap.get?) (fun w=>(K w.params).map fun p=>some p.2) N:=fun w=>(a6P w).trans (by show some (_,((L w.params).map _).map _)=some (_,(K w.params).map _);rw[K_L,List.map_map];rfl)
def dl:DefRec:=dr (sf p 92)
def da:=(defOf qv "law",p.theDef "law")
def db:=(some (dl,([]:List (Str×PySem.Expr))),some (dl.params,dl.body,dl.scope))
theorem a7I:da=da:=rfl
theorem a7H:db=db:=rfl
name_quick daq for da by a7I
name_quick dbq for db by a7H
theorem d_q:PySem.W.Fast.daq=PySem.W.Fast.dbq:=by kernel_rfl
theorem d_e:da=db:=PySem.W.Fast.daq_eq.trans (d_q.trans PySem.W.Fast.dbq_eq.symm)
theorem dl_1:defOf qv "law"=some (dl, []):=YF Prod.fst d_e
theorem dl_2:p.theDef "law"=some (dl.params,dl.body,dl.scope):=YF Prod.snd d_e
end
end Hd
set_option Elab.async false
set_option linter.all false
set_option maxRecDepth 100000
namespace L2
open PySem PySem.Spec PyProof.Rows
abbrev Key:=Sum Int Str
def keyIs:Key->Value->Bool
 |.inl k,v=>Value.isInt k v
 |.inr x,v=>Value.isStrOf x v
def keyH (w:World):Key->Int
 |.inl k=>hashInt k
 |.inr x=>hashStr w x
theorem cB:∀{k:Key}{v:Value},keyIs k v=true->(∃i t,k=Sum.inl i/\v=Value.int i t)\/(∃x t,k=Sum.inr x/\v=Value.str x t)
 | .inl i,v,h=>by
  obtain⟨t,e⟩:=Value.isInt_shape (k:=i) (v:=v) h
  exact .inl ⟨i,t,rfl,e⟩
 | .inr x,v,h=>by
  obtain⟨t,e⟩:=Value.isStrOf_shape (x:=x) (v:=v) h
  exact .inr ⟨x,t,rfl,e⟩
theorem vC (i:Int)(t:Tok):keyIs (.inl i) (.int i t)=true:=by simp[keyIs,Value.isInt]
theorem vA (x:Str)(t:Tok):keyIs (.inr x) (.str x t)=true:=by simp[keyIs,Value.isStrOf]
theorem a4Y (a b:Int):decide ((Sum.inl a:Key)=Sum.inl b)=(a == b):=by
 by_cases e:a=b
 ·subst e;simp
 ·have h:¬ (Sum.inl a:Key)=Sum.inl b:=fun q=>e (Sum.inl.inj q)
  rw[Ym h]
  exact(XM.mpr e).symm
theorem a4V (a b:Str):decide ((Sum.inr a:Key)=Sum.inr b)=decide (a=b):=by
 by_cases e:a=b
 ·subst e;simp
 ·have h:¬ (Sum.inr a:Key)=Sum.inr b:=fun q=>e (Sum.inr.inj q)
  rw[Ym h,Ym e]
theorem a4X (a:Int)(b:Str):decide ((Sum.inl a:Key)=Sum.inr b)=false:=Ym (fun q=>nomatch q)
theorem a4W (a:Str)(b:Int):decide ((Sum.inr a:Key)=Sum.inl b)=false:=Ym (fun q=>nomatch q)
def mixKind (prog:Program)(w:World):PySem.KeyKind prog w Key where
 is:=keyIs
 hash:=keyH w
 inj :=fun v a b ha hb=>by
  rcases cB ha with ⟨i,t,rfl,rfl⟩ | ⟨x,t,rfl,rfl⟩
  ·rcases cB hb with ⟨j,u,rfl,e⟩ | ⟨y,u,rfl,e⟩
   ·injection e with e1 _;rw[e1]
   ·exact nomatch e
  ·rcases cB hb with ⟨j,u,rfl,e⟩ | ⟨y,u,rfl,e⟩
   ·exact nomatch e
   ·injection e with e1 _;rw[e1]
 byValue:=fun k v h=>by
  rcases cB h with ⟨i,t,rfl,rfl⟩ | ⟨x,t,rfl,rfl⟩ <;> rfl
 pyHash:=fun hv h=>by
  rcases cB hv with ⟨i,t,rfl,rfl⟩ | ⟨x,t,rfl,rfl⟩
  ·exact wpAny_pyHash_int h
  ·exact wpAny_pyHash_str h
 eqBool:=fun hu hv h=>by
  rcases cB hu with ⟨i,t,rfl,rfl⟩ | ⟨x,t,rfl,rfl⟩
  ·rcases cB hv with ⟨j,u,rfl,rfl⟩ | ⟨y,u,rfl,rfl⟩
   ·rw[a4Y]at h;exact wpAny_eqBool_int h
   ·rw[a4X]at h;exact SeqAt.EqAt.int_str i t y u _ _ _ _ h
  ·rcases cB hv with ⟨j,u,rfl,rfl⟩ | ⟨y,u,rfl,rfl⟩
   ·rw[a4W]at h;exact SeqAt.EqAt.str_int x t j u _ _ _ _ h
   ·rw[a4V]at h;exact wpAny_eqBool_str h
 «strs»:=fun k x t v h=>by
  rcases cB h with ⟨i,u,rfl,e⟩ | ⟨y,u,rfl,e⟩
  ·exact nomatch e
  ·injection e with e1 _
   subst e1
   cases v <;> rfl
theorem pC (prog:Program)(w:World)(i:Int)(t:Tok):(mixKind prog w).is (.inl i) (.int i t)=true:=vC i t
theorem pB (prog:Program)(w:World)(x:Str)(t:Tok):(mixKind prog w).is (.inr x) (.str x t)=true:=vA x t
end L2
namespace L2
open PySem PySem.Spec PyProof.Rows
inductive V where
 |non | bl (b:Bool) | int (i:Int) | str (x:Str) | byt (b:Array UInt8) | flt (b:UInt64) | ref (a:Addr) | ty (n:String)
 deriving DecidableEq
def RelV:V->Value->Prop
 |.non,u=>u=Value.none
 |.bl b,u=>u=Value.bool b
 |.int i,u=>∃t,u=Value.int i t
 |.str x,u=>∃t,u=Value.str x t
 |.byt b,u=>∃t,u=Value.bytes b t
 |.flt b,u=>∃t,u=Value.float b t
 |.ref a,u=>u=Value.ref a
 |.ty n,u=>u=Value.type n
abbrev Vals:List V->List Value->Prop:=Paired RelV
theorem Vals.length {xs:List V}{us:List Value}(r:Vals xs us):xs.length=us.length:=Paired.length r
theorem Vals.get:∀{xs:List V}{us:List Value}{i:Nat}{x:V},Vals xs us->xs[i]? =some x->∃u,us[i]? =some u/\RelV x u
 |_,_,_,_,.nil,e=>by simp at e
 |_,_,0,_,.cons r _,e=>by simp at e;subst e;exact⟨_,rfl,r⟩
 | _,_,i+1,x,.cons _ t,e=>by
  obtain⟨u,h1,h2⟩:=Vals.get (i:=i) (x:=x) t (by simpa using e)
  exact⟨u,by simpa using h1,h2⟩
theorem Vals.set {x:V}{u:Value}(r:RelV x u):∀{xs:List V}{us:List Value}(i:Nat),Vals xs us->Vals (xs.set i x) (us.set i u)
 |_,_,_,.nil=> .nil
 |_,_,0,.cons _ t=> .cons r t
 |_,_,i+1,.cons q t=> .cons q (Vals.set r i t)
theorem Vals.append:∀{xs ys:List V}{us ws:List Value},Vals xs us->Vals ys ws->Vals (xs++ys) (us++ws)
 |_,_,_,_,.nil,s=>s
 |_,_,_,_,.cons r t,s=> .cons r (Vals.append t s)
theorem Vals.take:∀{xs:List V}{us:List Value}(n:Nat),Vals xs us->Vals (xs.take n) (us.take n)
 |_,_,0,_=> .nil
 |_,_,_+1,.nil=> .nil
 |_,_,n+1,.cons r t=> .cons r (Vals.take n t)
theorem Vals.drop:∀{xs:List V}{us:List Value}(n:Nat),Vals xs us->Vals (xs.drop n) (us.drop n)
 |_,_,0,r=>r
 |_,_,_+1,.nil=> .nil
 |_,_,n+1,.cons _ t=>Vals.drop n t
def RelO:Option V->Option Value->Prop
 |some v,some u=>RelV v u
 |none,none=>True
 |_,_=>False
def KV {κ:Type}:List (κ×V)->List (κ×Value)->Prop:=Paired fun (p:κ×V) (q:κ×Value)=>p.1=q.1/\RelV p.2 q.2
def kV:Key->V
 |.inl i=> .int i
 |.inr x=> .str x
inductive HO where
  |lst (xs:List V)
  |tup (xs:List V)
  |dK (kvs:List (Key×V)) | dT (kvs:List (List Key×V))
  |set (S:Int->Bool) (n:Nat)
  |ins (C dx:Addr) (fs:List (Str×V))
  |own (x:Addr)
  |xd (fs:List (Str×V))
  |met (f x:Addr)
  |rng (lo hi:Int)
  |frz (o:Obj) (u:HO)
  |tbl (ps:Array Value)
  |ext (φ:Heap->Prop)
abbrev Hp:=Addr->Option HO
def upd (H:Hp)(a:Addr)(o:HO):Hp:=fun b=>if b=a then some o else H b
theorem aB {H:Hp}{a:Addr}{o:HO}:upd H a o a=some o:=by unfold upd;rw[if_pos rfl]
theorem aL {H:Hp}{a b:Addr}{o:HO}(h:b≠a):upd H a o b=H b:=by unfold upd;rw[if_neg h]
theorem a6N {H:Hp}{a b:Addr}{o u:HO}(h:H a=some o)(h':H b=some u)(d:o≠u):a≠b:=by
 intro e;subst e;rw[h]at h';exact d (Yt h')
theorem aQ {H:Hp}{a b:Addr}{o:HO}(h:H a=some o)(h':H b=none):a≠b:=by
 intro e;subst e;rw[h]at h';cases h'
section
variable (P:Program)(w:World)
def ObjOk (H:Hp)(h:Heap)(a:Addr):HO->Prop
  |.lst xs=>xs.length<=sizeLine/\∃(its:List Value)(n:Nat),Vals xs its/\h.get? a=some { cls:= .type "list",data:= .seq its.toArray n }
  |.tup xs=>xs.length<=sizeLine/\∃its:List Value,Vals xs its/\IsTup h a its.toArray
  |.dK kvs=>kvs.length<=sizeLine/\(a == sysModules)=false/\∃vs,KV kvs vs/\h.DictOf (mixKind P w) a vs
  | .dT kvs=>kvs.length<=sizeLine/\(a == sysModules)=false/\∃xs:List (List Key×Addr×Value),
      Paired (fun (p:List Key×V) (q:List Key×Addr×Value)=>p.1=q.1/\H q.2.1=some (.tup (p.1.map kV))/\RelV p.2 q.2.2) kvs xs/\
      ∃o es ep,h.get? a=some o/\o.ExactDict/\o.data= .dict es ep/\es.toList=xs.map (entryOfKey (tupleKind (mixKind P w)))/\(xs.map (·.1)).Nodup
  |.set S n=>h.SetOf (intKind P w) a S n
  | .ins C dx fs=>H dx=some (.own a)/\fs.length<=1000/\dx≠a/\h.get? a=some (W.instObj C dx)/\
      ∃mA,h.Ns1 dx mA/\(∀f,RelO (fs.lookup f) (mA f))/\PySem.Within mA (fs.map (·.1))
  |.own _=>∃o,h.get? a=some o
  |.xd fs=>∃mA,h.Ns1 a mA/\∀f,RelO (fs.lookup f) (mA f)
  |.rng lo hi=>∃t u v,h.get? a=some { cls:= .type "range",data:= .fields #[.int lo t,.int hi u,.int 1 v] }
  |.frz o u=>h.get? a=some o/\ObjOk H h a u
  |.tbl ps=>h.get? a=some { cls:= .none,data:= .fields ps }
  |.met f x=>h.get? a=some (W.methodObj (.ref f) (.ref x))
  |.ext φ=>φ h/\(∃o,h.get? a=some o)/\∀h1 h2:Heap,φ h1->(∀o,h1.get? a=some o->h2.get? a=some o)->φ h2
def HOk (H:Hp)(h:Heap):Prop:=∀a o,H a=some o->ObjOk P w H h a o
end
section
variable {P:Program}{w:World}{H H':Hp}{h h':Heap}{a:Addr}{o:HO}
theorem ObjOk.lt (x:ObjOk P w H h a o):a<h.objs.size:=by
 cases o with
 |lst xs=>obtain⟨_,_,_,_,e⟩:=x;exact Yq e
 |tup xs=>obtain⟨_,_,_,p⟩:=x;exact p.lt
 |dK kvs=>obtain⟨_,_,_,_,o,_,_,e,_⟩:=x;exact Yq e
 |dT kvs=>obtain⟨_,_,_,_,o,_,_,e,_⟩:=x;exact Yq e
 |set S n=>obtain⟨o,_,_,_,e,_⟩:=x;exact Yq e
 |ins C dx fs=>obtain⟨_,_,_,e,_⟩:=x;exact Yq e
 |own y=>obtain⟨_,e⟩:=x;exact Yq e
 |xd fs=>obtain⟨_,⟨_,_,_,e,_⟩,_⟩:=x;exact Yq e
 |rng lo hi=>obtain⟨_,_,_,e⟩:=x;exact Yq e
 |frz ob u=>obtain⟨e,_⟩:=x;exact Yq e
 |tbl ps=>exact Yq (show h.get? a=some _ from x)
 |met f y=>exact Yq (show h.get? a=some _ from x)
 |ext φ=>obtain⟨_,⟨_,e⟩,_⟩:=x;exact Yq e
theorem Paired.mapP {α β:Type}{F G:α->β->Prop}:∀{l₁:List α}{l₂:List β},Paired F l₁ l₂->(∀a b,F a b->G a b)->Paired G l₁ l₂
 |_,_,.nil,_=> .nil
 |_,_,.cons r t,f=> .cons (f _ _ r) (Paired.mapP t f)
theorem ObjOk.stay (x:ObjOk P w H h a o)(k:∀b u,(b=a\/H b=some (.own a))->h.get? b=some u->h'.get? b=some u)
  (ho:∀b,H b=some (.own a)->H' b=some (.own a)) (ht:∀b xs,H b=some (.tup xs)->H' b=some (.tup xs)):ObjOk P w H' h' a o:=by
 induction o with
 |lst xs=>obtain⟨z,its,n,r,e⟩:=x;exact⟨z,its,n,r,k _ _ (.inl rfl) e⟩
 |tup xs=>obtain⟨z,its,r,ob,e,c⟩:=x;exact⟨z,its,r,ob,k _ _ (.inl rfl) e,c⟩
 |dK kvs=>obtain⟨z,y,vs,r,ob,es,ep,e,c⟩:=x;exact⟨z,y,vs,r,ob,es,ep,k _ _ (.inl rfl) e,c⟩
 | dT kvs=>
  obtain⟨z,y,xs,r,ob,es,ep,e,c⟩:=x
  exact⟨z,y,xs,Paired.mapP r fun p q z=>⟨z.1,ht _ _ z.2.1,z.2.2⟩,ob,es,ep,k _ _ (.inl rfl) e,c⟩
 |set S n=>obtain⟨ob,es,ep,t,e,c⟩:=x;exact⟨ob,es,ep,t,k _ _ (.inl rfl) e,c⟩
 | ins C dx fs=>
  obtain⟨d,z,ne,e,mA,⟨od,es,ep,e2,c⟩,r⟩:=x
  exact⟨ho _ d,z,ne,k _ _ (.inl rfl) e,mA,⟨od,es,ep,k _ _ (.inr d) e2,c⟩,r⟩
 |own y=>obtain⟨ob,e⟩:=x;exact⟨ob,k _ _ (.inl rfl) e⟩
 |xd fs=>obtain⟨mA,⟨od,es,ep,e,c⟩,r⟩:=x;exact⟨mA,⟨od,es,ep,k _ _ (.inl rfl) e,c⟩,r⟩
 |rng lo hi=>obtain⟨t,u,v,e⟩:=x;exact⟨t,u,v,k _ _ (.inl rfl) e⟩
 |frz ob u ih=>obtain⟨e,q⟩:=x;exact⟨k _ _ (.inl rfl) e,ih q⟩
 | tbl ps=>
  have e:h.get? a=some { cls:= .none,data:= .fields ps }:=x
  show h'.get? a=some { cls:= .none,data:= .fields ps }
  exact k a _ (.inl rfl) e
 | met f y=>
  have e:h.get? a=some (W.methodObj (.ref f) (.ref y)):=x
  show h'.get? a=some (W.methodObj (.ref f) (.ref y))
  exact k a _ (.inl rfl) e
 |ext φ=>obtain⟨p,⟨o,e⟩,st⟩:=x;exact⟨st _ _ p fun o q=>k _ _ (.inl rfl) q,⟨o,k _ _ (.inl rfl) e⟩,st⟩
theorem HOk.lt (x:HOk P w H h)(e:H a=some o):a<h.objs.size:=(x a o e).lt
theorem HOk.fresh (x:HOk P w H h)(e:h.objs.size<=a):H a=none:=by
 cases q:H a with
 |none=>rfl
 |some u=>exact absurd (Yh (x.lt q) e) (YX _)
theorem HOk.kept (x:HOk P w H h)(k:∀b u,h.get? b=some u->h'.get? b=some u):HOk P w H h':=fun a o e=>
 (x a o e).stay (fun b u _ q=>k b u q) (fun _ q=>q) fun _ _ q=>q
theorem HOk.laid (x:HOk P w H h)(k:∀b u,h.get? b=some u->h'.get? b=some u)(hp:h.objs.size<=a)(new:ObjOk P w (upd H a o) h' a o):HOk P w (upd H a o) h':=fun b u e=>by
 have hn:=x.fresh hp
 by_cases hb:b=a
 ·subst hb;rw[aB]at e;cases e;exact new
 ·rw[aL hb]at e
  exact(x b u e).stay (fun c v _ q=>k c v q) (fun c q=>by rw[aL (aQ q hn)];exact q) fun c xs q=>by rw[aL (aQ q hn)];exact q
end
def Rd (H:Hp)(a:Addr)(u:HO):Prop:=H a=some u\/∃o,H a=some (.frz o u)
theorem Rd.ok {P:Program}{w:World}{H:Hp}{h:Heap}{a:Addr}{u:HO}(r:Rd H a u)(x:HOk P w H h):ObjOk P w H h a u:=by
 rcases r with r | ⟨o,r⟩
 ·exact x a u r
 ·obtain⟨_,q⟩:=x a _ r
  exact q
def Mut:Option HO->Prop
 |some (.lst _)=>True
 |some (.dK _)=>True
 |some (.dT _)=>True
 |some (.set _ _)=>True
 |some (.ins _ _ _)=>True
 |some (.ext _)=>True
 |_=>False
section
variable {P:Program}{w:World}{H:Hp}{h h':Heap}{x e:Addr}{o':HO}
theorem HOk.write (ok:HOk P w H h)(mu:Mut (H x))(he:e=x\/H e=some (.own x))(k:∀b u,b≠e->h.get? b=some u->h'.get? b=some u)(heo:∃u,h'.get? e=some u)
  (new:ObjOk P w (upd H x o') h' x o'):HOk P w (upd H x o') h':=fun b u q=>by
 have nown:∀c y,H c=some (.own y)->c≠x:=fun c y r z=>by subst z;rw[r]at mu;exact mu
 have ntup:∀c xs,H c=some (.tup xs)->c≠x:=fun c xs r z=>by subst z;rw[r]at mu;exact mu
 by_cases hb:b=x
 ·subst hb;rw[aB]at q;cases q;exact new
 ·rw [aL hb]at q
  by_cases hbe:b=e
  ·have q':H b=some (.own x):=by
    rcases he with z | z
    ·exact absurd (hbe.trans z) hb
    ·rw[hbe];exact z
   rw[q]at q';cases q'
   obtain⟨v,hv⟩:=heo
   exact⟨v,by rw[hbe];exact hv⟩
  ·refine(ok b u q).stay (fun c v hc r=>k c v ?_ r) (fun c r=>by rw[aL (nown c b r)];exact r) fun c xs r=>by rw[aL (ntup c xs r)];exact r
   rcases hc with rfl | hc
   ·exact hbe
   ·rintro rfl
    rcases he with z | z
    ·exact nown c b hc z
    ·rw[hc]at z;cases z;exact hb rfl
end
structure Un (fs ex:List Addr)(H H':Hp)(h h':Heap):Prop where
 keep:∀b o,h.get? b=some o->H b=none->b∉fs->b∉ex->h'.get? b=some o
 slot:∀b o,h.get? b=some o->H b=none->b∈fs->b∉ex->∃sl,h'.get? b=some { o with slots:=sl }
 free:∀b o,h.get? b=some o->H b=none->b∉ex->H' b=none
 there:∀b o,h.get? b=some o->b∉ex->∃o',h'.get? b=some o'
 tups:∀b xs,H b=some (.tup xs)->H' b=some (.tup xs)
 frzs:∀b o u,H b=some (.frz o u)->H' b=some (.frz o u)
 tbls:∀b ps,H b=some (.tbl ps)->∃more,H' b=some (.tbl (ps++more))
section
variable {fs fs' ex ex':List Addr}{H H1 H2:Hp}{h h1 h2 h':Heap}{a x e:Addr}{o:HO}
theorem Un.any (u:Un fs ex H H1 h h1){b:Addr}{ob:Obj}(q:h.get? b=some ob)(n:H b=none)(hx:b∉ex):∃sl,h1.get? b=some { ob with slots:=sl }:=by
 by_cases hb:b∈fs
 ·exact u.slot b ob q n hb hx
 ·exact⟨ob.slots,u.keep b ob q n hb hx⟩
theorem Un.kept (k:∀b u,h.get? b=some u->h'.get? b=some u):Un fs ex H H h h':=
 ⟨fun b ob q _ _ _=>k b ob q,fun b ob q _ _ _=>⟨ob.slots,k b ob q⟩,fun _ _ _ n _=>n,fun b ob q _=>⟨ob,k b ob q⟩,fun _ _ q=>q,fun _ _ _ q=>q,fun _ ps q=>⟨#[],by rw[q];simp⟩⟩
theorem Un.refl:Un fs ex H H h h:=Un.kept fun _ _ q=>q
theorem Un.laid (k:∀b u,h.get? b=some u->h'.get? b=some u)(hp:h.objs.size<=a)(hn:H a=none):Un fs ex H (upd H a o) h h' where
 keep:=fun b u q _ _ _=>k b u q
 slot:=fun b u q _ _ _=>⟨u.slots,k b u q⟩
 free:=fun b u q n _=>by rw[aL (YO (Yh (Yq q) hp))];exact n
 there:=fun b u q _=>⟨u,k b u q⟩
 tups:=fun b xs q=>by rw[aL (aQ q hn)];exact q
 frzs:=fun b u xs q=>by rw[aL (aQ q hn)];exact q
 tbls:=fun b ps q=>⟨#[],by rw[aL (aQ q hn),q];simp⟩
theorem Un.write (mu:Mut (H x))(he:e=x\/H e=some (.own x))(k:∀b u,b≠e->h.get? b=some u->h'.get? b=some u)(heo:∃u,h'.get? e=some u):Un fs ex H (upd H x o) h h':=by
 have hx:∀b,H b=none->b≠x:=fun b n z=>by subst z;rw[n]at mu;exact mu
 have hb:∀b,H b=none->b≠e:=fun b n z=>by
  subst z
  rcases he with r | r
  ·exact hx b n r
  ·rw[n]at r;cases r
 have hm:∀b u,H b=some u->¬ Mut (some u)->b≠x:=fun b u q nm z=>by subst z;rw[q]at mu;exact nm mu
 refine⟨fun b u q n _ _=>k b u (hb b n) q,fun b u q n _ _=>⟨u.slots,k b u (hb b n) q⟩,fun b u q n _=>by rw[aL (hx b n)];exact n,fun b u q _=>?_,
  fun b xs q=>by rw[aL (hm b _ q fun z=>z)];exact q,fun b u xs q=>by rw[aL (hm b _ q fun z=>z)];exact q,fun b ps q=>⟨#[],by rw[aL (hm b _ q fun z=>z),q];simp⟩⟩
 by_cases hbe:b=e
 ·subst hbe;exact heo
 ·exact⟨u,k b u hbe q⟩
end
def trk (h:Heap)(H:Hp):List Addr:=(List.range h.objs.size).filter fun a=>(H a).isSome
def hidT (h:Heap)(H:Hp):Heap:=W.hideAll h (trk h H)
theorem vH (h:Heap)(H:Hp):(hidT h H).objs.size=h.objs.size:=W.hideAll_size _ _
theorem zA {h:Heap}{H:Hp}{b:Addr}{o:Obj}(e:h.get? b=some o)(n:H b=none):(hidT h H).get? b=some o:=
 W.hideAll_get _ e fun hm=>by
  have q:(H b).isSome=true:=(List.mem_filter.mp hm).2
  rw[n]at q;simp at q
theorem a1V {h:Heap}{H:Hp}{b:Addr}{o:Obj}(e:(hidT h H).get? b=some o):h.get? b=some o/\H b=none:=by
 have e':h.get? b=some o:=W.of_hideAll (trk h H) e
 refine⟨e',?_⟩
 cases q:H b with
 |none=>rfl
 | some x=>
  have hm:b∈trk h H:=List.mem_filter.mpr ⟨List.mem_range.mpr (Yq e'),by simp[q]⟩
  have z:(hidT h H).get? b=none:=W.hideAll_none (trk h H) hm
  rw[z]at e;cases e
def allNews (g h:Heap)(L:Addr):List (Addr×Obj):=(List.range h.objs.size).filterMap fun a=>if a=L\/(g.get? a).isSome=true then none else (h.get? a).map fun o=>(a,o)
def rest (g h:Heap)(L d:Addr):List (Addr×Obj):=(allNews g h L).filter fun p=>decide (p.1≠d)
end L2
namespace L2
open PySem PySem.Spec PyProof.Rows
structure Mod (K:W.Frag)(mg:Str->Option Value)(base:Heap):Prop where
 kin:K.In base
 glob:base.Ns mainGlobals mg
 blt:∃mb,base.Ns builtinsNs mb/\∀x:Str,x≠"__name__"->mb x=bootBuiltins x
 nolimit:base.NoLimit
structure Cx where
 prog:Program
 w:World
 K:W.Frag
 mg:Str->Option Value
 base:Heap
 A:Around
 N:List Str
 s₀:Shared
 H₀:Hp
 env:Env
 outer:List Env
 stack:List Env
 ex:List Addr
 fn:Str->Bool
 calm:Bool
 pn:List (Addr×Obj)
 xe:Value->Shared->Prop
def frs (l:List Env):List Addr:=l.filterMap (·.frame)
abbrev Cx.fs (X:Cx):List Addr:=frs X.outer
def Vis (sc:Scope)(x:Str):Prop:=sc.names.lookup x=some .local\/sc.names.lookup x=some .cell\/sc.names.lookup x=some .free
def Loc (sc:Scope)(x:Str):Prop:=sc.names.lookup x=some .local\/sc.names.lookup x=some .cell
def Look (env:Env)(h:Heap)(m:Str->Option Value)(x:Str)(u:Value):Prop:=
 (env.kindOf x=some .local/\m x=some u)\/((env.kindOf x=some .cell\/env.kindOf x=some .free)/\∃c,env.cells.lookup x=some c/\h.IsCell c (some u))
structure Cx.Ok (X:Cx):Prop where
 mod:Mod X.K X.mg X.base
 kind:X.env.scope.kind= .function
 glob:X.env.globals=mainGlobals
 blt:X.env.builtins=builtinsNs
 above:X.s₀.heap.objs.size<=X.env.locals
 inj:∀x y c,X.env.cells.lookup x=some c->X.env.cells.lookup y=some c->x=y
 has:∀x,(X.env.kindOf x=some .cell\/X.env.kindOf x=some .free)->∃c,X.env.cells.lookup x=some c
 cab:∀x c,X.fn x=true->X.env.cells.lookup x=some c->X.s₀.heap.objs.size<=c
 hd:X.calm=true->X.A.handled=none
 frames:X.A.frames=some X.stack
 stk:X.stack=X.outer\/(X.stack=X.env::X.outer/\X.env.frame=some X.env.locals)
 exf:∀b∈X.ex,b≠X.env.locals/\∀x c,X.env.cells.lookup x=some c->c≠b
 bs:∀b o,X.base.get? b=some o->X.s₀.heap.get? b=some o/\X.H₀ b=none
 bsz:X.base.objs.size<=X.s₀.heap.objs.size
 noex:∀b o,X.base.get? b=some o->b∉X.ex
 exfs:∀b∈X.ex,b∉X.fs
 funs:X.s₀.heap.FunFrames X.base X.outer
 frf:∀b∈X.fs,X.H₀ b=none
structure Inv (X:Cx)(pins:List (Addr×Obj))(σ:List (Option V))(H:Hp)(s:Shared):Prop where
 ok:X.Ok
 os:s.os=X.s₀.os
 bare:AllBare s.gens
 base:Un X.fs X.ex X.H₀ H X.s₀.heap s.heap
 loc:∃m,s.heap.Ns X.env.locals m/\∀(i:Nat)(x:Str)(v:V),X.N[i]? =some x->σ[i]? =some (some v)->Vis X.env.scope x->∃u,RelV v u/\Look X.env s.heap m x u
 cell:∀x c,X.env.cells.lookup x=some c->∃v,s.heap.IsCell c v
 free:H X.env.locals=none
 freeC:∀x c,X.env.cells.lookup x=some c->H c=none
 pin:∀p∈X.pn++pins,s.heap.get? p.1=some p.2/\H p.1=none/\p.1≠X.env.locals/\p.1∉X.fs/\∀v,p.2.data≠ .cell v
 hok:HOk X.prog X.w H s.heap
 len:σ.length=X.N.length
section
variable {X:Cx}{pins:List (Addr×Obj)}{σ:List (Option V)}{H H':Hp}{s:Shared}{h':Heap}
theorem Cx.Ok.nofr (ok:X.Ok){b:Addr}{o:Obj}(e:X.base.get? b=some o):b∉X.fs:=fun hb=>by
 have:=(ok.funs.mem hb).1
 rw[e]at this;cases this
theorem Inv.bs (I:Inv X pins σ H s):∀b o,X.base.get? b=some o->s.heap.get? b=some o/\H b=none:=fun b o e=>
 ⟨I.base.keep b o (I.ok.bs b o e).1 (I.ok.bs b o e).2 (I.ok.nofr e) (I.ok.noex b o e),I.base.free b o (I.ok.bs b o e).1 (I.ok.bs b o e).2 (I.ok.noex b o e)⟩
theorem Inv.bk (I:Inv X pins σ H s):∀b o,X.base.get? b=some o->s.heap.get? b=some o:=fun b o e=>(I.bs b o e).1
theorem Inv.mod (I:Inv X pins σ H s):Mod X.K X.mg X.base:=I.ok.mod
theorem Inv.kIn (I:Inv X pins σ H s):X.K.In s.heap:=I.ok.mod.kin.keeps I.bk
theorem Inv.fr (I:Inv X pins σ H s):∃m,Fr X.base X.env.locals s.heap m:=
 let ⟨m,hn,_⟩:=I.loc
 ⟨m,hn,I.bk,Y4 I.ok.bsz I.ok.above⟩
theorem Inv.lt (I:Inv X pins σ H s):X.env.locals<s.heap.objs.size:=let ⟨_,hn,_⟩:=I.loc;hn.lt
theorem Inv.sz (I:Inv X pins σ H s):X.s₀.heap.objs.size<=s.heap.objs.size:=Y4 I.ok.above (Xz I.lt)
theorem Inv.nofs (I:Inv X pins σ H s){a:Addr}(h:s.heap.objs.size<=a):a∉X.fs:=fun hb=>by
 obtain⟨_,o,ho,_⟩:=I.ok.funs.mem hb
 exact absurd (Yh (Yq ho) (Y4 I.sz h)) (YX _)
theorem Inv.cne (I:Inv X pins σ H s):∀x c,X.env.cells.lookup x=some c->c≠X.env.locals:=fun x c e z=>by
 obtain⟨v,o,ho,hd⟩:=I.cell x c e
 obtain⟨m,⟨o',es,ep,ho',hd',_⟩,_⟩:=I.loc
 rw[z,ho']at ho;cases ho;rw[hd']at hd;cases hd
theorem Inv.funs (I:Inv X pins σ H s):s.heap.FunFrames X.base X.outer:=by
 have all:∀(l:List Env),(∀b∈frs l,b∈X.fs)->X.s₀.heap.FunFrames X.base l->s.heap.FunFrames X.base l:=by
  intro l
  induction l with
  |nil=>intro _ _;trivial
  | cons env r ih=>
   intro hs hl
   obtain⟨hk,⟨L,o,hf,hn,ho,hd⟩,hr⟩:=hl
   have hL:L∈X.fs:=hs L (by unfold frs;rw[List.filterMap_cons,hf];exact YN)
   obtain⟨sl,e⟩:=I.base.slot L o ho (I.ok.frf L hL) hL fun z=>I.ok.exfs L z hL
   exact⟨hk,⟨L,_,hf,hn,e,hd⟩,ih (fun b hb=>hs b (by unfold frs;rw[List.filterMap_cons,hf];exact Yv _ hb)) hr⟩
 exact all X.outer (fun _ hb=>hb) I.ok.funs
theorem Inv.stack (I:Inv X pins σ H s):s.heap.FunFrames X.base X.stack:=by
 rcases I.ok.stk with e | ⟨e,hf⟩
 ·rw[e];exact I.funs
 ·rw[e]
  obtain⟨m,hn,_⟩:=I.loc
  refine .cons (by rw[I.ok.kind];decide) hf hn ?_ I.funs
  exact Heap.get?_none_of_le (Y4 I.ok.bsz I.ok.above)
theorem Inv.stkSub (I:Inv X pins σ H s):∀b∈frs X.stack,b∈X.env.locals::X.fs:=fun b hb=>by
 rcases I.ok.stk with e | ⟨e,hf⟩
 ·rw[e]at hb;exact Yv _ hb
 ·rw[e]at hb
  unfold frs at hb
  rw[List.filterMap_cons,hf]at hb
  exact hb
theorem Inv.stkFree (I:Inv X pins σ H s):∀b∈frs X.stack,H b=none:=fun b hb=>by
 rcases YK.mp (I.stkSub b hb) with e | hb
 ·rw[e];exact I.free
 ·obtain⟨_,o,ho,_⟩:=I.ok.funs.mem hb
  exact I.base.free b o ho (I.ok.frf b hb) fun z=>I.ok.exfs b z hb
theorem Inv.step {g':Array GenState}{t':Nat}{d':Drawn}{ch:List Addr}(I:Inv X pins σ H s)
  (hch:∀b∈ch,(b∈X.ex\/X.s₀.heap.objs.size<=b)/\b≠X.env.locals/\(∀x c,X.env.cells.lookup x=some c->c≠b)/\∀p∈X.pn++pins,p.1≠b)
  (keep:∀b o,b≠X.env.locals->b∉X.fs->b∉ch->s.heap.get? b=some o->H b=none->h'.get? b=some o)
  (slot:∀b o,b≠X.env.locals->b∈X.fs->b∉ch->s.heap.get? b=some o->H b=none->∃sl,h'.get? b=some { o with slots:=sl }) (free:∀b o,b∉ch->s.heap.get? b=some o->H b=none->H' b=none)
  (there:∀b o,b∉ch->s.heap.get? b=some o->∃o',h'.get? b=some o')
  (tups:∀b xs,H b=some (.tup xs)->H' b=some (.tup xs)) (frzs:∀b o u,H b=some (.frz o u)->H' b=some (.frz o u)) (tbls:∀b ps,H b=some (.tbl ps)->∃more,H' b=some (.tbl (ps++more)))
  (ns:∀m,s.heap.Ns X.env.locals m->h'.Ns X.env.locals m) (hok:HOk X.prog X.w H' h') (hg:AllBare g') :
  Inv X pins σ H' { s with heap:=h',gens:=g',drawn:=d',toks:=t' }:=by
 have neL:∀b o,X.s₀.heap.get? b=some o->b≠X.env.locals:=fun b o e=>YO (Yh (Yq e) I.ok.above)
 have neC:∀b o,X.s₀.heap.get? b=some o->b∉X.ex->b∉ch:=fun b o e hx hb=>by
  rcases (hch b hb).1 with z | z
  ·exact hx z
  ·exact absurd (Yh (Yq e) z) (YX _)
 have cellK:∀x c,X.env.cells.lookup x=some c->∀v,s.heap.IsCell c v->h'.IsCell c v:=fun x c e v ⟨o,ho,hd⟩=>by
  have nch:c∉ch:=fun z=>(hch c z).2.2.1 x c e rfl
  by_cases hc:c∈X.fs
  ·obtain⟨sl,q⟩:=slot c o (I.cne x c e) hc nch ho (I.freeC x c e)
   exact⟨_,q,hd⟩
  ·exact⟨o,keep c o (I.cne x c e) hc nch ho (I.freeC x c e),hd⟩
 refine⟨I.ok,I.os,hg,⟨fun b o e n hb hx=>?_,fun b o e n hb hx=>?_,fun b o e n hx=>?_,fun b o e hx=>?_,fun b xs e=>tups b xs (I.base.tups b xs e),fun b o xs e=>frzs b o xs (I.base.frzs b o xs e),fun b ps e=>?_⟩,?_,fun x c e=>?_,?_,fun x c e=>?_,fun p hp=>?_,hok,I.len⟩
 ·exact keep b o (neL b o e) hb (neC b o e hx) (I.base.keep b o e n hb hx) (I.base.free b o e n hx)
 ·obtain⟨sl,e1⟩:=I.base.slot b o e n hb hx
  obtain⟨sl',e2⟩:=slot b _ (neL b o e) hb (neC b o e hx) e1 (I.base.free b o e n hx)
  exact⟨sl',e2⟩
 ·obtain⟨o',e1⟩:=I.base.there b o e hx
  exact free b o' (neC b o e hx) e1 (I.base.free b o e n hx)
 ·obtain⟨o',e1⟩:=I.base.there b o e hx
  exact there b o' (neC b o e hx) e1
 ·obtain⟨m1,e1⟩:=I.base.tbls b ps e
  obtain⟨m2,e2⟩:=tbls b _ e1
  exact⟨m1++m2,by rw[e2,Array.append_assoc]⟩
 ·obtain⟨m,hn,hl⟩:=I.loc
  refine⟨m,ns m hn,fun i x v e1 e2 e3=>?_⟩
  obtain⟨u,r,l⟩:=hl i x v e1 e2 e3
  refine⟨u,r,?_⟩
  rcases l with l | ⟨k,c,e,z⟩
  ·exact .inl l
  ·exact .inr ⟨k,c,e,cellK x c e _ z⟩
 ·obtain⟨v,z⟩:=I.cell x c e
  exact⟨v,cellK x c e v z⟩
 ·obtain⟨m,⟨o,_,_,ho,_⟩,_⟩:=I.loc
  exact free _ o (fun z=>(hch _ z).2.1 rfl) ho I.free
 ·obtain⟨v,o,ho,hd⟩:=I.cell x c e
  exact free c o (fun z=>(hch c z).2.2.1 x c e rfl) ho (I.freeC x c e)
 ·obtain⟨e,n,ne,nf,d⟩:=I.pin p hp
  have nch:p.1∉ch:=fun z=>(hch p.1 z).2.2.2 p hp rfl
  exact⟨keep p.1 p.2 ne nf nch e n,free p.1 p.2 nch e n,ne,nf,d⟩
theorem Inv.un {t':Nat}(I:Inv X pins σ H s)(u:Un X.fs [] H H' s.heap h')(hok:HOk X.prog X.w H' h'):Inv X pins σ H' { s with heap:=h',toks:=t' }:=by
 obtain⟨m,⟨o,es,ep,ho,r⟩,_⟩:=id I.loc
 obtain⟨sl,hL⟩:=u.any ho I.free (by simp)
 exact I.step (g':=s.gens) (d':=s.drawn) (ch:=[]) (fun _ z=>nomatch z) (fun b o _ hb _ e n=>u.keep b o e n hb (by simp)) (fun b o _ hb _ e n=>u.slot b o e n hb (by simp)) (fun b o _ e n=>u.free b o e n (by simp)) (fun b o _ e=>u.there b o e (by simp)) u.tups u.frzs u.tbls (fun m' hm=>by
  obtain⟨o',es',ep',ho',r'⟩:=hm
  rw[ho]at ho';cases ho'
  exact⟨_,es',ep',hL,r'⟩) hok I.bare
theorem Inv.call {g':Array GenState}{t':Nat}{d':Drawn}{ch:List Addr}(I:Inv X pins σ H s)(u:Un (frs X.stack) ch H H' s.heap h')(hok:HOk X.prog X.w H' h')(hg:AllBare g')
  (hch:∀b∈ch,(b∈X.ex\/X.s₀.heap.objs.size<=b)/\b≠X.env.locals/\(∀x c,X.env.cells.lookup x=some c->c≠b)/\∀p∈X.pn++pins,p.1≠b) :
  Inv X pins σ H' { s with heap:=h',gens:=g',drawn:=d',toks:=t' }:=by
 obtain⟨m,⟨o,es,ep,ho,r⟩,_⟩:=id I.loc
 obtain⟨sl,hL⟩:=u.any ho I.free fun z=>(hch _ z).2.1 rfl
 exact I.step (ch:=ch) hch (fun b o hL hb hc e n=>u.keep b o e n (fun z=>(YK.mp (I.stkSub b z)).elim hL hb) hc) (fun b o _ _ hc e n=>u.any e n hc) (fun b o hc e n=>u.free b o e n hc) (fun b o hc e=>u.there b o e hc) u.tups u.frzs u.tbls (fun m' hm=>by
  obtain⟨o',es',ep',ho',r'⟩:=hm
  rw[ho]at ho';cases ho'
  exact⟨_,es',ep',hL,r'⟩) hok hg
theorem Inv.turned {t':Nat}{it:Addr}(I:Inv X pins σ H s)(k:∀b o,b≠it->s.heap.get? b=some o->h'.get? b=some o)(hn:H it=none)(hL:it≠X.env.locals)
  (h1:it∈X.ex\/X.s₀.heap.objs.size<=it) (h2:∀x c,X.env.cells.lookup x=some c->c≠it) (h3:∀p∈X.pn++pins,p.1≠it):Inv X pins σ H { s with heap:=h',toks:=t' }:=by
 have nit:∀b u,H b=some u->b≠it:=fun b u e z=>by rw[z,hn]at e;cases e
 refine I.step (g':=s.gens) (d':=s.drawn) (ch:=[it]) (fun b hb=>?_) (fun b o _ _ hc e _=>k b o (fun z=>hc (by simp[z])) e) (fun b o _ _ hc e _=>⟨o.slots,k b o (fun z=>hc (by simp[z])) e⟩) (fun _ _ _ _ n=>n)
  (fun b o hc e=>⟨o,k b o (fun z=>hc (by simp[z])) e⟩) (fun _ _ e=>e) (fun _ _ _ e=>e) (fun b ps e=>⟨#[],by rw[e];simp⟩) (fun m hm=>?_) (fun b u e=>?_) I.bare
 ·have e:b=it:=by simpa using hb
  subst e
  exact⟨h1,hL,h2,h3⟩
 ·obtain⟨o,es,ep,ho,r⟩:=hm
  exact⟨o,es,ep,k _ o (Ne.symm hL) ho,r⟩
 ·refine(I.hok b u e).stay (fun c v hc q=>k c v ?_ q) (fun _ q=>q) fun _ _ q=>q
  rcases hc with z | z
  ·rw[z];exact nit b u e
  ·exact nit c _ z
theorem Inv.tok (I:Inv X pins σ H s)(t:Nat):Inv X pins σ H { s with toks:=t }:=I.un (h':=s.heap) (t':=t) Un.refl I.hok
theorem Inv.kept {t':Nat}(I:Inv X pins σ H s)(k:∀b u,s.heap.get? b=some u->h'.get? b=some u):Inv X pins σ H { s with heap:=h',toks:=t' }:=I.un (Un.kept k) (I.hok.kept k)
theorem Inv.laid {a:Addr}{o:HO}{t':Nat}(I:Inv X pins σ H s)(k:∀b u,s.heap.get? b=some u->h'.get? b=some u)(hp:s.heap.objs.size<=a)(new:ObjOk X.prog X.w (upd H a o) h' a o) :
  Inv X pins σ (upd H a o) { s with heap:=h',toks:=t' }:=I.un (Un.laid k hp (I.hok.fresh hp)) (I.hok.laid k hp new)
theorem Inv.write {x e:Addr}{o:HO}{t':Nat}(I:Inv X pins σ H s)(mu:Mut (H x))(he:e=x\/H e=some (.own x))(k:∀b u,b≠e->s.heap.get? b=some u->h'.get? b=some u)(heo:∃u,h'.get? e=some u)
  (new:ObjOk X.prog X.w (upd H x o) h' x o):Inv X pins σ (upd H x o) { s with heap:=h',toks:=t' }:=I.un (Un.write mu he k heo) (I.hok.write mu he k heo new)
theorem Inv.weak {σ':List (Option V)}(I:Inv X pins σ H s)(hl:σ'.length=σ.length)(w:∀(i:Nat) v,σ'[i]? =some (some v)->σ[i]? =some (some v)):Inv X pins σ' H s:=
 ⟨I.ok,I.os,I.bare,I.base,let ⟨m,hn,hl'⟩:=I.loc;⟨m,hn,fun i x v e1 e2 e3=>hl' i x v e1 (w i v e2) e3⟩,I.cell,I.free,I.freeC,I.pin,I.hok,hl.trans I.len⟩
theorem Inv.pins_of {pins':List (Addr×Obj)}(I:Inv X pins σ H s)(h:∀p∈pins',s.heap.get? p.1=some p.2/\H p.1=none/\p.1≠X.env.locals/\p.1∉X.fs/\∀v,p.2.data≠ .cell v):Inv X pins' σ H s:=
 ⟨I.ok,I.os,I.bare,I.base,I.loc,I.cell,I.free,I.freeC,fun p hp=>(YI.mp hp).elim (fun z=>I.pin p (X5 _ z)) (h p),I.hok,I.len⟩
theorem oY {N:List Str}(hN:N.Nodup){i j:Nat}{x:Str}(a:N[i]? =some x)(b:N[j]? =some x):i=j:=by
 obtain⟨h1,e1⟩:=Yg.mp a
 obtain⟨h2,e2⟩:=Yg.mp b
 exact(List.getElem_inj hN).mp (e1.trans e2.symm)
theorem lJ {M:Model}{A:Around}{E:Value->Shared->Prop}{i:Nat}{x:Str}{v:V}{u:Value}{Q:Unit->Shared->Prop}(I:Inv X pins σ H s)(hN:X.N.Nodup)(hi:X.N[i]? =some x)(hx:Loc X.env.scope x)(r:RelV v u)
  (h:∀s',Inv X pins (σ.set i (some v)) H s'->(∃a,Heap.SameBut a s.heap s'.heap/\(a=X.env.locals\/X.env.cells.lookup x=some a))->Q () s') (hf:X.fn x=true\/X.env.scope.names.lookup x=some .local:=by first | exact .inl rfl | exact .inr rfl | assumption):wpAny M A (storeName X.env x u) Q E s:=by
 obtain⟨m,hn,hl⟩:=id I.loc
 have hcls:(X.env.scope.kind == .class || (X.env.scope.kind == .module && X.env.locals != X.env.globals))=false:=by rw[I.ok.kind];rfl
 have hiσ:i<σ.length:=by rw[I.len];exact(Yg.mp hi).1
 have cne:=I.cne
 have tracked:∀{a:Addr}{h':Heap},(∃o,s.heap.get? a=some o/\H a=none)->Heap.SameBut a s.heap h'->HOk X.prog X.w H h':=fun {a h'} ha hs b ob e=>by
  obtain⟨_,_,hfree⟩:=ha
  refine(I.hok b ob e).stay (fun c w' hc q=>(hs.2 c ?_).trans q) (fun _ q=>q) fun _ _ q=>q
  rintro rfl
  rcases hc with rfl | hc
  ·rw[hfree]at e;cases e
  ·rw[hfree]at hc;cases hc
 rcases hx with hk | hk
 ·refine wpAny_storeName_local hk hn (fun h' hn' hs=>?_) hcls
  obtain⟨oL,_,_,hoL,_⟩:=id hn
  refine h _ ⟨I.ok,I.os,I.bare,⟨fun b o e n hb hx=>?_,fun b o e n hb hx=>?_,I.base.free,fun b o e hx=>?_,I.base.tups,I.base.frzs,I.base.tbls⟩,⟨_,hn',fun j y v' e1 e2 e3=>?_⟩,fun y c e=>?_,I.free,I.freeC,fun p hp=>?_,tracked ⟨oL,hoL,I.free⟩ hs,by simpa using I.len⟩ ⟨_,hs,.inl rfl⟩
  ·exact(hs.2 b (YO (Yh (Yq e) I.ok.above))).trans (I.base.keep b o e n hb hx)
  ·obtain⟨sl,e1⟩:=I.base.slot b o e n hb hx
   exact⟨sl,(hs.2 b (YO (Yh (Yq e) I.ok.above))).trans e1⟩
  ·obtain⟨o',e1⟩:=I.base.there b o e hx
   exact⟨o',(hs.2 b (YO (Yh (Yq e) I.ok.above))).trans e1⟩
  ·by_cases hj:j=i
   ·subst hj
    rw[hi]at e1;cases e1
    rw[List.getElem?_set_self hiσ]at e2
    cases e2
    exact⟨u,r,.inl ⟨hk,by simp⟩⟩
   ·rw [XD (Ne.symm hj)]at e2
    obtain⟨u',r',q⟩:=hl j y v' e1 e2 e3
    refine⟨u',r',?_⟩
    rcases q with ⟨k,e⟩ | ⟨k,c,e,z⟩
    ·refine .inl ⟨k,?_⟩
     have:y≠x:=fun e=>hj (oY hN e1 (e▸hi))
     simp[this,e]
    ·exact .inr ⟨k,c,e,z.sameBut hs (cne y c e)⟩
  ·obtain⟨w',z⟩:=I.cell y c e
   exact⟨w',z.sameBut hs (cne y c e)⟩
  ·obtain⟨e,n,ne,nf,d⟩:=I.pin p hp
   exact⟨(hs.2 p.1 ne).trans e,n,ne,nf,d⟩
 ·have hfn:X.fn x=true:=by
   rcases hf with z | z
   ·exact z
   ·rw[z]at hk;cases hk
  obtain⟨c,hc⟩:=I.ok.has x (.inl hk)
  obtain⟨w',z⟩:=I.cell x c hc
  refine wpAny_storeName_cell I.ok.kind hk hc z (fun h' hc' hs=>?_)
  obtain⟨oc,hoc,hocd⟩:=id z
  refine h { s with heap:=h' } ⟨I.ok,I.os,I.bare,⟨fun b o e n hb hx=>?_,fun b o e n hb hx=>?_,I.base.free,fun b o e hx=>?_,I.base.tups,I.base.frzs,I.base.tbls⟩,⟨m,hn.sameBut hs (Ne.symm (cne x c hc)),fun j y v' e1 e2 e3=>?_⟩,fun y c' e=>?_,I.free,I.freeC,fun p hp=>?_,tracked ⟨oc,hoc,I.freeC x c hc⟩ hs,by simpa using I.len⟩ ⟨c,hs,.inr hc⟩
  ·exact(hs.2 b (YO (Yh (Yq e) (I.ok.cab x c hfn hc)))).trans (I.base.keep b o e n hb hx)
  ·obtain⟨sl,e1⟩:=I.base.slot b o e n hb hx
   exact⟨sl,(hs.2 b (YO (Yh (Yq e) (I.ok.cab x c hfn hc)))).trans e1⟩
  ·obtain⟨o',e1⟩:=I.base.there b o e hx
   exact⟨o',(hs.2 b (YO (Yh (Yq e) (I.ok.cab x c hfn hc)))).trans e1⟩
  ·by_cases hj:j=i
   ·subst hj
    rw[hi]at e1;cases e1
    rw[List.getElem?_set_self hiσ]at e2
    cases e2
    exact⟨u,r,.inr ⟨.inl hk,c,hc,hc'⟩⟩
   ·rw [XD (Ne.symm hj)]at e2
    obtain⟨u',r',q⟩:=hl j y v' e1 e2 e3
    refine⟨u',r',?_⟩
    rcases q with q | ⟨k,c',e,z'⟩
    ·exact .inl q
    ·refine .inr ⟨k,c',e,z'.sameBut hs ?_⟩
     rintro rfl
     exact hj (oY hN e1 (I.ok.inj _ _ _ e hc▸hi))
  ·by_cases hcc:c'=c
   ·subst hcc;exact⟨_,hc'⟩
   ·obtain⟨w2,z2⟩:=I.cell y c' e
    exact⟨w2,z2.sameBut hs hcc⟩
  ·obtain⟨e,n,ne,nf,d⟩:=I.pin p hp
   refine⟨(hs.2 p.1 ?_).trans e,n,ne,nf,d⟩
   intro q
   rw[q,hoc]at e
   have q':oc=p.2:=Yt e
   exact d w' (by rw[<-q'];exact hocd)
theorem jM {M:Model}{A:Around}{E:Value->Shared->Prop}{i:Nat}{x:Str}{v:V}{u:Value}{Q:Unit->Shared->Prop}(I:Inv X pins σ H s)(hN:X.N.Nodup)(hi:X.N[i]? =some x)(hx:Loc X.env.scope x)(r:RelV v u)
  (h:∀s',Inv X pins (σ.set i (some v)) H s'->Q () s') (hf:X.fn x=true\/X.env.scope.names.lookup x=some .local:=by first | exact .inl rfl | exact .inr rfl | assumption):wpAny M A (storeName X.env x u) Q E s:=
 lJ I hN hi hx r (fun s' I' _=>h s' I') hf
theorem Inv.call' {s':Shared}{ch:List Addr}(I:Inv X pins σ H s)(ho:s'.os=s.os)(u:Un (frs X.stack) ch H H' s.heap s'.heap)(hok:HOk X.prog X.w H' s'.heap)(hg:AllBare s'.gens)
  (hch:∀b∈ch,(b∈X.ex\/X.s₀.heap.objs.size<=b)/\b≠X.env.locals/\(∀x c,X.env.cells.lookup x=some c->c≠b)/\∀p∈X.pn++pins,p.1≠b):Inv X pins σ H' s':=by
 obtain⟨h',g',d',t',o'⟩:=s'
 have e:o'=s.os:=ho
 subst e
 exact I.call (g':=g') (t':=t') (d':=d') u hok hg hch
end
abbrev XK:=Value->Option Addr->Hp->Prop
abbrev St:=List (Option V)
abbrev VK:=V->Hp->Prop
abbrev TE:=St->Hp->VK->Prop
abbrev TT:=St->Hp->(Bool->Hp->Prop)->Prop
abbrev TA:=St->Hp->(List V->Hp->Prop)->Prop
structure Ends where
 nx:St->Hp->Prop
 rt:VK
 bk:St->Hp->Prop:=fun _ _=>False
 ct:St->Hp->Prop:=fun _ _=>False
abbrev TS:=Ends->St->Hp->Prop
def EP (X:Cx)(pins:List (Addr×Obj))(σ:St)(Q:VK)(u:Value)(s':Shared):Prop:=∃v H',Inv X pins σ H' s'/\RelV v u/\Q v H'
def TP (X:Cx)(pins:List (Addr×Obj))(σ:St)(Q:Bool->Hp->Prop)(b:Bool)(s':Shared):Prop:=∃H',Inv X pins σ H' s'/\Q b H'
def AP (X:Cx)(pins:List (Addr×Obj))(σ:St)(Q:List V->Hp->Prop)(us:List Value)(s':Shared):Prop:=∃vs H',Inv X pins σ H' s'/\Vals vs us/\Q vs H'
def SP (X:Cx)(pins:List (Addr×Obj))(D:Ends)(f:Flow)(s':Shared):Prop:=
 match f with
 |.next=>∃σ' H',Inv X pins σ' H' s'/\D.nx σ' H'
 |.brk=>∃σ' H',Inv X pins σ' H' s'/\D.bk σ' H'
 |.cont=>∃σ' H',Inv X pins σ' H' s'/\D.ct σ' H'
 |.ret u=>∃v σ' H',Inv X pins σ' H' s'/\RelV v u/\D.rt v H'
def PE (X:Cx)(e:Expr)(t:TE):Prop:=
 ∀(pins:List (Addr×Obj))(s:Shared)(σ:St)(H:Hp)(Q:VK),Inv X pins σ H s->t σ H Q->wpAny (model X.prog X.w) X.A (eval e X.env) (EP X pins σ Q) X.xe s
def PT (X:Cx)(e:Expr)(t:TT):Prop:=
 ∀(pins:List (Addr×Obj))(s:Shared)(σ:St)(H:Hp)(Q:Bool->Hp->Prop),Inv X pins σ H s->t σ H Q->wpAny (model X.prog X.w) X.A (isTrue e X.env (eval e X.env)) (TP X pins σ Q) X.xe s
def PW (X:Cx)(e:Expr)(t:TT):Prop:=
 ∀(whole:Sem Value)(pins:List (Addr×Obj))(s:Shared)(σ:St)(H:Hp)(Q:Bool->Hp->Prop),Inv X pins σ H s->t σ H Q->wpAny (model X.prog X.w) X.A (isTrue e X.env whole) (TP X pins σ Q) X.xe s
theorem PW.pt {X:Cx}{e:Expr}{t:TT}(h:PW X e t):PT X e t:=h _
def PA (X:Cx)(es:List Expr)(t:TA):Prop:=
 ∀(pos:Pos)(pins:List (Addr×Obj))(s:Shared)(σ:St)(H:Hp)(Q:List V->Hp->Prop),Inv X pins σ H s->t σ H Q->wpAny (model X.prog X.w) X.A (spliced (backTo pos (starEach es X.env))) (AP X pins σ Q) X.xe s
def PS (X:Cx)(st:Stmt)(t:TS):Prop:=
 ∀(pins:List (Addr×Obj))(s:Shared)(σ:St)(H:Hp)(D:Ends),Inv X pins σ H s->t D σ H->wpAny (model X.prog X.w) X.A (exec st X.env) (SP X pins D) X.xe s
def PSs (X:Cx)(st:List Stmt)(t:TS):Prop:=
 ∀(pins:List (Addr×Obj))(s:Shared)(σ:St)(H:Hp)(D:Ends),Inv X pins σ H s->t D σ H->wpAny (model X.prog X.w) X.A (execs st X.env) (SP X pins D) X.xe s
theorem thn {α:Type}{t:Sem α}{Q Q':α->Shared->Prop}{M:Model}{A:Around}{E:Value->Shared->Prop}{s:Shared}(h:wpAny M A t Q E s)(hQ:∀a s,Q a s->Q' a s):wpAny M A t Q' E s:=Y8 h hQ fun _ _ x=>x
end L2
namespace L2
open PySem PySem.Spec PyProof.Rows
section
variable {X:Cx}
theorem bin {a b:Expr}{ta tb:TE}(ha:PE X a ta)(hb:PE X b tb){pins:List (Addr×Obj)}{s:Shared}{σ:St}{H:Hp}{R:V->V->Hp->Prop}(I:Inv X pins σ H s)(h:ta σ H fun x H1=>tb σ H1 fun y H2=>R x y H2)
  {α:Type} {Q:α->Shared->Prop} {f:Value->Value->Sem α}
  (hf:∀v u s2 x y H2,Inv X pins σ H2 s2->RelV x v->RelV y u->R x y H2->wpAny (model X.prog X.w) X.A (f v u) Q X.xe s2) :
  wpAny (model X.prog X.w) X.A (eval a X.env) (fun v s₁=>wpAny (model X.prog X.w) X.A (eval b X.env) (fun u s₂=>wpAny (model X.prog X.w) X.A (f v u) Q X.xe s₂) X.xe s₁) X.xe s:=by
 refine thn (ha pins s σ H _ I h) fun v s1 hz9=>?_
 obtain⟨x,H1,I1,r1,q1⟩:=hz9
 refine thn (hb pins s1 σ H1 _ I1 q1) fun u s2 hz9=>?_
 obtain⟨y,H2,I2,r2,q2⟩:=hz9
 exact hf v u s2 x y H2 I2 r1 r2 q2
def tVar (i:Nat):TE:=fun σ H Q=>∃v,σ[i]? =some (some v)/\Q v H
def tC (v:V):TE:=fun _ H Q=>Q v H
theorem xJ {i:Nat}{x:Str}{pos:Pos}(hN:X.N[i]? =some x)(hv:Vis X.env.scope x)(hd:(x == ("__debug__":Str))=false:=by decide)(hcd:(x == ("__classdict__":Str))=false:=by decide):PE X (.Name x pos) (tVar i):=by
 intro pins s σ H Q I h
 obtain⟨v,e,h⟩:=h
 obtain⟨m,hn,hl⟩:=I.loc
 obtain⟨u,r,l⟩:=hl i x v hN e hv
 have fin:EP X pins σ Q u s:=⟨v,H,I,r,h⟩
 rcases l with ⟨hk,hm⟩ | ⟨hk,c,hc,hcell⟩
 ·exact wpAny_Name (wpAny_loadName_local I.ok.kind hk hn hm fin) hd
 ·rcases hk with hk | hk
  ·exact wpAny_Name (wpAny_loadName_cell I.ok.kind hk hc hcell fin) hd
  ·exact wpAny_Name (wpAny_loadName_free I.ok.kind hk hc hcell fin hcd) hd
theorem aJ {i j pos}:PE X (.Constant (.int i) j pos) (tC (.int i)):=fun _ _ _ H _ I h=>wpAny_Constant_int ⟨.int i,H,I.tok _,⟨_,rfl⟩,h⟩
theorem dX {b j pos}:PE X (.Constant (.bool b) j pos) (tC (.bl b)):=fun _ _ _ H _ I h=>Constant_bool ⟨.bl b,H,I,rfl,h⟩
theorem jT {j pos}:PE X (.Constant .none j pos) (tC .non):=fun _ _ _ H _ I h=>Constant_none ⟨.non,H,I,rfl,h⟩
theorem aY {x j pos}:PE X (.Constant (.str x) j pos) (tC (.str x)):=fun _ _ _ H _ I h=>Calls.Constant_str ⟨.str x,H,I.tok _,⟨_,rfl⟩,h⟩
def Gl (X:Cx)(x:Str):Prop:=X.env.kindOf x=some .globalImplicit
theorem dZ {E:Value->Shared->Prop}{pins:List (Addr×Obj)}{s:Shared}{σ:St}{H:Hp}{x:Str}{u:Value}{pos:Pos}{Q:Value->Shared->Prop}(I:Inv X pins σ H s)(hg:Gl X x)(hm:X.mg x=some u)(h:Q u s)
  (hd:(x == ("__debug__":Str))=false:=by decide):wpAny (model X.prog X.w) X.A (eval (.Name x pos) X.env) Q E s:=
 Calls.Name_function_global I.ok.kind hg (Calls.loadGlobal_global (by rw[I.ok.glob];exact I.mod.glob.keeps I.bk) hm h) hd
theorem jX {E:Value->Shared->Prop}{pins:List (Addr×Obj)}{s:Shared}{σ:St}{H:Hp}{x:Str}{u:Value}{pos:Pos}{Q:Value->Shared->Prop}(I:Inv X pins σ H s)(hg:Gl X x)(hm:X.mg x=none)(hv:bootBuiltins x=some u)(h:Q u s)
  (hn:x≠"__name__":=by decide) (hd:(x == ("__debug__":Str))=false:=by decide):wpAny (model X.prog X.w) X.A (eval (.Name x pos) X.env) Q E s:=by
 obtain⟨mb,h1,h2⟩:=I.mod.blt
 exact Calls.Name_function_global I.ok.kind hg (Calls.loadGlobal_builtin (by rw[I.ok.glob];exact I.mod.glob.keeps I.bk) hm (by rw[I.ok.blt];exact h1.keeps I.bk) ((h2 x hn).trans hv) h) hd
theorem bA {x:Str}{v:V}{u:Value}{pos:Pos}(hg:Gl X x)(hm:X.mg x=some u)(r:RelV v u)(hd:(x == ("__debug__":Str))=false:=by decide):PE X (.Name x pos) (tC v):=
 fun _ _ _ H _ I h=>dZ I hg hm ⟨v,H,I,r,h⟩ hd
variable {a b:Expr}{ta tb:TE}{pos:Pos}
def PC (X:Cx)(op:CmpOp)(a b:Expr)(t:TE):Prop:=
 ∀ (pins:List (Addr×Obj))(s:Shared)(σ:St)(H:Hp)(Q:VK),Inv X pins σ H s->t σ H Q->
  wpAny (model X.prog X.w) X.A (eval a X.env) (fun v s₁=>wpAny (model X.prog X.w) X.A (eval b X.env) (fun u s₂=>wpAny (model X.prog X.w) X.A (compareOp op v u) (EP X pins σ Q) X.xe s₂) X.xe s₁) X.xe s
def tB (t:TE):TT:=fun σ H Q=>t σ H fun x H1=>∃c,x= .bl c/\Q c H1
theorem a7C {op:CmpOp}{t:TE}(h:PC X op a b t)(h1:behindInMarks op b=false:=by first | exact nobehind _ (by decide) (by decide) | rfl):PT X (.Compare a [op] [b] pos) (tB t):=by
 intro pins s σ H Q I hw
 refine wpAny_isTrue_Compare1 (thn (h pins s σ H _ I hw) fun v s1 h1=>thn h1 fun u s2 h2=>thn h2 fun c s3 hz9=>?_) h1
 obtain⟨x,H1,I1,r1,q1⟩:=hz9
 obtain⟨d,rfl,q⟩:=q1
 cases r1
 exact Xd ⟨H1,I1,q⟩
theorem a3X {e:Expr}{t:TE}(h:PE X e t)(he:∀whole,isTrue e X.env whole=(do let v<-whole;standAt e.pos;holding [v] (truthy v)):=by intro _;rfl):PT X e (tB t):=by
 intro pins s σ H Q I hw
 refine isTrue_plain (thn (h pins s σ H _ I hw) fun v s1 hz9=>?_) (he _)
 obtain⟨x,H1,I1,r1,q1⟩:=hz9
 obtain⟨d,rfl,q⟩:=q1
 cases r1
 exact Xd ⟨H1,I1,q⟩
variable {tA tB':TT}{rest:List Expr}
def tAnd (t u:TT):TT:=fun σ H Q=>t σ H fun c H1=>if c=true then u σ H1 Q else Q false H1
def tOr (t u:TT):TT:=fun σ H Q=>t σ H fun c H1=>if c=true then Q true H1 else u σ H1 Q
def tNot (t:TT):TT:=fun σ H Q=>t σ H fun c H1=>Q (!c) H1
theorem eU (ha:PT X a tA):PW X (.BoolOp .And [a] pos) tA:=by
 intro wh pins s σ H Q I h
 refine isTrue_and (thn (ha pins s σ H Q I h) fun c s1 e=>?_)
 cases c with
 |true=>exact isTrue_and_nil e
 |false=>exact e
theorem jP (ha:PT X a tA):PW X (.BoolOp .Or [a] pos) tA:=by
 intro wh pins s σ H Q I h
 refine isTrue_or (thn (ha pins s σ H Q I h) fun c s1 e=>?_)
 cases c with
 |false=>exact isTrue_or_nil e
 |true=>exact e
theorem fO (ha:PT X a tA)(hb:PW X (.BoolOp .And (b::rest) pos) tB'):PW X (.BoolOp .And (a::b::rest) pos) (tAnd tA tB'):=by
 intro wh pins s σ H Q I h
 refine isTrue_and (thn (ha pins s σ H _ I h) fun c s1 hz9=>?_)
 obtain⟨H1,I1,q1⟩:=hz9
 cases c with
 |true=>exact hb wh pins s1 σ H1 Q I1 q1
 |false=>exact⟨H1,I1,q1⟩
theorem lL (ha:PT X a tA)(hb:PW X (.BoolOp .Or (b::rest) pos) tB'):PW X (.BoolOp .Or (a::b::rest) pos) (tOr tA tB'):=by
 intro wh pins s σ H Q I h
 refine isTrue_or (thn (ha pins s σ H _ I h) fun c s1 hz9=>?_)
 obtain⟨H1,I1,q1⟩:=hz9
 cases c with
 |true=>exact⟨H1,I1,q1⟩
 |false=>exact hb wh pins s1 σ H1 Q I1 q1
theorem dN (ha:PT X a tA):PT X (.UnaryOp .Not a pos) (tNot tA):=by
 intro pins s σ H Q I h
 exact isTrue_not (ha pins s σ H (fun c H1=>Q (!c) H1) I h)
def tAndV (ta tb:TE):TE:=fun σ H Q=>ta σ H fun x H1=>∃c,x= .bl c/\if c=true then tb σ H1 Q else Q (.bl false) H1
def tNotV (ta:TE):TE:=fun σ H Q=>ta σ H fun x H1=>∃c,x= .bl c/\Q (.bl (!c)) H1
theorem xK {op}{t:TE}(h:PE X a t):PE X (.BoolOp op [a] pos) t:=fun pins s σ H Q I hw=>BoolOp_one (h pins s σ H Q I hw)
theorem a4C (ha:PE X a ta)(hb:PE X (.BoolOp .And (b::rest) pos) tb):PE X (.BoolOp .And (a::b::rest) pos) (tAndV ta tb):=by
 intro pins s σ H Q I h
 refine BoolOp_and (thn (ha pins s σ H _ I h) fun v s1 hz9=>?_)
 obtain⟨x,H1,I1,r1,q1⟩:=hz9
 obtain⟨c,rfl,q1⟩:=q1
 cases r1
 refine Xd ?_
 cases c with
 |true=>exact hb pins s1 σ H1 Q I1 q1
 |false=>exact⟨.bl false,H1,I1,rfl,q1⟩
theorem a4A (ha:PE X a ta):PE X (.UnaryOp .Not a pos) (tNotV ta):=by
 intro pins s σ H Q I h
 refine UnaryOp_ (thn (ha pins s σ H _ I h) fun v s1 hz9=>?_)
 obtain⟨x,H1,I1,r1,q1⟩:=hz9
 obtain⟨c,rfl,q1⟩:=q1
 cases r1
 exact not_of (Xd ⟨.bl (!c),H1,I1,rfl,q1⟩)
def tIf (t:TT)(ta tb:TE):TE:=fun σ H Q=>t σ H fun c H1=>if c=true then ta σ H1 Q else tb σ H1 Q
theorem cL {c:Expr}(hc:PT X c tA)(ha:PE X a ta)(hb:PE X b tb):PE X (.IfExp c a b pos) (tIf tA ta tb):=by
 intro pins s σ H Q I h
 refine wpAny_IfExp (thn (hc pins s σ H _ I h) fun d s1 hz9=>?_)
 obtain⟨H1,I1,q1⟩:=hz9
 cases d with
 |true=>exact ha pins s1 σ H1 Q I1 q1
 |false=>exact hb pins s1 σ H1 Q I1 q1
end
end L2
namespace L2
open PySem PySem.Spec PyProof.Rows
def SqL (K:W.Frag)(H:Hp)(a:Addr)(xs:List V):Prop:=
 Rd H a (.lst xs)\/
  ∃(o:Obj)(its:Array Value)(n:Nat),K.lookup a=some o/\o.cls= .type "list"/\o.dict=none/\o.data= .seq its n/\its.size<=sizeLine/\Vals xs its.toList
def SqT (K:W.Frag)(H:Hp)(a:Addr)(xs:List V):Prop:=
 Rd H a (.tup xs)\/
  ∃(o:Obj)(its:Array Value)(n:Nat),K.lookup a=some o/\o.cls= .type "tuple"/\o.data= .seq its n/\its.size<=sizeLine/\Vals xs its.toList
def absV:Value->Option V
 |.none=>some .non
 |.bool b=>some (.bl b)
 |.int i _=>some (.int i)
 |.str x _=>some (.str x)
 |.bytes b _=>some (.byt b)
 |.float b _=>some (.flt b)
 |.ref a=>some (.ref a)
 |.type n=>some (.ty n)
 |_=>none
theorem RelV.abs {x:V}{u:Value}(r:RelV x u):absV u=some x:=by
 cases x with
 |non=>cases r;rfl
 |bl _=>cases r;rfl
 |int _=>obtain⟨t,rfl⟩:=r;rfl
 |str _=>obtain⟨t,rfl⟩:=r;rfl
 |byt _=>obtain⟨t,rfl⟩:=r;rfl
 |flt _=>obtain⟨t,rfl⟩:=r;rfl
 |ref _=>cases r;rfl
 |ty _=>cases r;rfl
theorem RelV.inj {x y:V}{u:Value}(r:RelV x u)(q:RelV y u):x=y:=Yt (r.abs.symm.trans q.abs)
theorem Vals.inj:∀{xs ys:List V}{us:List Value},Vals xs us->Vals ys us->xs=ys
 |_,_,_,.nil,.nil=>rfl
 |_,_,_,.cons r t,.cons r' t'=>by rw[r.inj r',Vals.inj t t']
section
variable {X:Cx}{pins:List (Addr×Obj)}{σ:St}{H:Hp}{s:Shared}{a:Addr}{xs ys:List V}
theorem SqL.of {K:W.Frag}(h:H a=some (.lst xs)):SqL K H a xs:= .inl (.inl h)
theorem SqT.of {K:W.Frag}(h:H a=some (.tup xs)):SqT K H a xs:= .inl (.inl h)
theorem Inv.list (I:Inv X pins σ H s)(h:SqL X.K H a xs):∃its:List Value,Vals xs its/\PlainL s.heap a its.toArray/\xs.length<=sizeLine:=by
 rcases h with h | ⟨o,its,n,hk,hc,hd,hs,hz,r⟩
 ·obtain⟨z,its,n,r,e⟩:=h.ok I.hok
  exact⟨its,r,⟨_,n,e,rfl,rfl,rfl⟩,z⟩
 ·refine⟨its.toList,r,⟨o,n,I.kIn a o hk,hc,hd,by simpa using hs⟩,?_⟩
  have e:=r.length
  simp only[XN]at e
  omega
theorem Inv.tuple (I:Inv X pins σ H s)(h:SqT X.K H a xs):∃its:List Value,Vals xs its/\IsTup s.heap a its.toArray/\xs.length<=sizeLine:=by
 rcases h with h | ⟨o,its,n,hk,hc,hs,hz,r⟩
 ·obtain⟨z,its,r,p⟩:=h.ok I.hok
  exact⟨its,r,p,z⟩
 ·refine⟨its.toList,r,⟨o,I.kIn a o hk,hc,n,by simpa using hs⟩,?_⟩
  have e:=r.length
  simp only[XN]at e
  omega
theorem Inv.list_inj (I:Inv X pins σ H s)(h:SqL X.K H a xs)(h':SqL X.K H a ys):xs=ys:=by
 obtain⟨its,r,⟨o,n,e,_,_,d⟩,_⟩:=I.list h
 obtain⟨its',r',⟨o',n',e',_,_,d'⟩,_⟩:=I.list h'
 rw[e]at e';cases e'
 rw[d]at d'
 injection d' with d1 _
 have:its=its':=by simpa using YF Array.toList d1
 subst this
 exact r.inj r'
theorem Inv.tuple_inj (I:Inv X pins σ H s)(h:SqT X.K H a xs)(h':SqT X.K H a ys):xs=ys:=by
 obtain⟨its,r,⟨o,e,_,n,d⟩,_⟩:=I.tuple h
 obtain⟨its',r',⟨o',e',_,n',d'⟩,_⟩:=I.tuple h'
 rw[e]at e';cases e'
 rw[d]at d'
 injection d' with d1 _
 have:its=its':=by simpa using YF Array.toList d1
 subst this
 exact r.inj r'
end
abbrev Cx.wish (X:Cx)(E:Value->Shared->Prop):Cx:={ X with xe:=E }
abbrev Cx.nox (X:Cx):Cx:=X.wish fun _ _=>False
theorem Cx.Ok.wish {X:Cx}(ok:X.Ok)(E:Value->Shared->Prop):(X.wish E).Ok:=
 ⟨ok.mod,ok.kind,ok.glob,ok.blt,ok.above,ok.inj,ok.has,ok.cab,ok.hd,ok.frames,ok.stk,ok.exf,ok.bs,ok.bsz,ok.noex,ok.exfs,ok.funs,ok.frf⟩
theorem Cx.Ok.unwish {X:Cx}{E:Value->Shared->Prop}(ok:(X.wish E).Ok):X.Ok:=
 ⟨ok.mod,ok.kind,ok.glob,ok.blt,ok.above,ok.inj,ok.has,ok.cab,ok.hd,ok.frames,ok.stk,ok.exf,ok.bs,ok.bsz,ok.noex,ok.exfs,ok.funs,ok.frf⟩
section
variable {X:Cx}{pins:List (Addr×Obj)}{σ:St}{H:Hp}{s:Shared}{E:Value->Shared->Prop}
theorem Inv.wish (I:Inv X pins σ H s)(E:Value->Shared->Prop):Inv (X.wish E) pins σ H s:=⟨I.ok.wish E,I.os,I.bare,I.base,I.loc,I.cell,I.free,I.freeC,I.pin,I.hok,I.len⟩
theorem Inv.unwish (I:Inv (X.wish E) pins σ H s):Inv X pins σ H s:=⟨I.ok.unwish,I.os,I.bare,I.base,I.loc,I.cell,I.free,I.freeC,I.pin,I.hok,I.len⟩
theorem SP.unwish {D:Ends}{f:Flow}{s':Shared}(h:SP (X.wish E) pins D f s'):SP X pins D f s':=by
 cases f with
 |next=>obtain⟨σ',H',I,q⟩:=h;exact⟨σ',H',I.unwish,q⟩
 |brk=>obtain⟨σ',H',I,q⟩:=h;exact⟨σ',H',I.unwish,q⟩
 |cont=>obtain⟨σ',H',I,q⟩:=h;exact⟨σ',H',I.unwish,q⟩
 |ret u=>obtain⟨v,σ',H',I,r,q⟩:=h;exact⟨v,σ',H',I.unwish,r,q⟩
theorem PSs.nox {st:List Stmt}{t:TS}(h:PSs X.nox st t):PSs X st t:=fun pins s σ H D I hw=>
 Y8 (h pins s σ H D (I.wish _) hw) (fun _ _ q=>q.unwish) fun _ _ z=>False.elim z
end
section
variable {X:Cx}{st:Stmt}{rest:List Stmt}{t u:TS}{e:Expr}{te:TE}{pos:Pos}
def tNext:TS:=fun D σ H=>D.nx σ H
def tSeq (t u:TS):TS:=fun D σ H=>t { D with nx:=u D } σ H
theorem aV:PSs X [] tNext:=fun _ _ σ H _ I h=>Jf ⟨σ,H,I,h⟩
theorem aF (h1:PS X st t)(h2:PSs X rest u):PSs X (st::rest) (tSeq t u):=by
 intro pins s σ H D I h
 refine wpAny_execs_cons (thn (h1 pins s σ H { D with nx:=u D } I h) fun f s1 q=>?_)
 cases f with
 | next=>
  obtain⟨σ',H',I',q⟩:=q
  exact h2 pins s1 σ' H' D I' q
 |ret v=>exact q
 |brk=>exact q
 |cont=>exact q
theorem aG (h1:PS X st t):PSs X [st] t:=by
 intro pins s σ H D I h
 refine wpAny_execs_cons (thn (h1 pins s σ H D I h) fun f s1 q=>?_)
 cases f with
 |next=>exact Jf q
 |ret v=>exact q
 |brk=>exact q
 |cont=>exact q
theorem Inv.quiet {pins:List (Addr×Obj)}{σ:St}{H:Hp}{s:Shared}(I:Inv X pins σ H s):interactive X.env=false:=by simp[interactive,I.ok.kind]
def tDrop (te:TE):TS:=fun D σ H=>te σ H fun _ H1=>D.nx σ H1
theorem aZ (he:PE X e te)(hs:swapsWith e none pos.line X.env=pure false:=by rfl):PS X (.Expr e pos) (tDrop te):=by
 intro pins s σ H D I h
 exact wpAny_Expr_any (thn (he pins s σ H _ I h) fun v s1 ⟨x,H1,I1,r1,q1⟩=>⟨σ,H1,I1,q1⟩) I.quiet hs
def tRet (te:TE):TS:=fun D σ H=>te σ H D.rt
theorem aM (he:PE X e te):PS X (.Return (some e) pos) (tRet te):=by
 intro pins s σ H D I h
 exact wpAny_Return_some (thn (he pins s σ H _ I h) fun v s1 ⟨x,H1,I1,r1,q1⟩=>⟨x,σ,H1,I1,r1,q1⟩)
def tIfS (c:TT)(t u:TS):TS:=fun D σ H=>c σ H fun b H1=>if b=true then t D σ H1 else u D σ H1
theorem bF {c:Expr}{a b:List Stmt}{tc:TT}(hc:PT X c tc)(ha:PSs X a t)(hb:PSs X b u):PS X (.If c a b pos) (tIfS tc t u):=by
 intro pins s σ H D I h
 refine wpAny_If (thn (hc pins s σ H _ I h) fun d s1 hz9=>?_)
 obtain⟨H1,I1,q1⟩:=hz9
 cases d with
 |true=>exact ha pins s1 σ H1 D I1 q1
 |false=>exact hb pins s1 σ H1 D I1 q1
end
abbrev TG:=V->St->Hp->(St->Hp->Prop)->Prop
abbrev TGs:=List V->St->Hp->(St->Hp->Prop)->Prop
def PG (X:Cx)(target:Expr)(t:TG):Prop:=
 ∀ (pins:List (Addr×Obj))(s:Shared)(σ:St)(H:Hp)(v:V)(u:Value)(Q:St->Hp->Prop),Inv X pins σ H s->RelV v u->t v σ H Q->
  wpAny (model X.prog X.w) X.A (assign target X.env u) (fun _ s'=>∃σ' H',Inv X pins σ' H' s'/\Q σ' H') X.xe s
def PGs (X:Cx)(ts:List Expr)(t:TGs):Prop:=
 ∀ (pins:List (Addr×Obj))(s:Shared)(σ:St)(H:Hp)(vs:List V)(us:List Value)(Q:St->Hp->Prop),Inv X pins σ H s->Vals vs us->t vs σ H Q->
  wpAny (model X.prog X.w) X.A (assignInOrder ((assignEach ts X.env).map (·.2)) us) (fun _ s'=>∃σ' H',Inv X pins σ' H' s'/\Q σ' H') X.xe s
section
variable {X:Cx}{pos:Pos}
def gName (i:Nat):TG:=fun v σ H Q=>Q (σ.set i (some v)) H
theorem cC {i:Nat}{x:Str}(hN:X.N.Nodup)(hi:X.N[i]? =some x)(hx:Loc X.env.scope x)(hf:X.fn x=true\/X.env.scope.names.lookup x=some .local:=by first | exact .inl rfl | exact .inr rfl | assumption):PG X (.Name x pos) (gName i):=by
 intro pins s σ H v u Q I r h
 exact wpAny_assign_Name (jM I hN hi hx r (fun s' I'=>⟨_,H,I',h⟩) hf)
def gNil:TGs:=fun vs σ H Q=>vs= []/\Q σ H
def gCons (t:TG)(u:TGs):TGs:=fun vs σ H Q=>∃v r,vs=v::r/\t v σ H fun σ' H'=>u r σ' H' Q
theorem a1M:PGs X [] gNil:=by
 intro pins s σ H vs us Q I r h
 obtain⟨e,h⟩:=h
 subst e
 cases r
 exact assignInOrder_nil ⟨σ,H,I,h⟩
theorem oR {e:Expr}{es:List Expr}{t:TG}{u:TGs}(h1:PG X e t)(h2:PGs X es u)
  (hs:(assignEach (e::es) X.env).map (·.2)=assign e X.env::(assignEach es X.env).map (·.2):=by rfl):PGs X (e::es) (gCons t u):=by
 intro pins s σ H vs us Q I r h
 obtain⟨v,vr,e1,h⟩:=h
 subst e1
 cases r with
 | cons r rr=>
  rw[hs]
  refine assignInOrder_cons (thn (h1 pins s σ H _ _ _ I r h) fun _ s1 hz9=>?_)
  obtain⟨σ1,H1,I1,q1⟩:=hz9
  exact h2 pins s1 σ1 H1 _ _ Q I1 rr q1
def gTup (K:W.Frag)(n:Nat)(t:TGs):TG:=fun v σ H Q=>∃a xs,v= .ref a/\SqT K H a xs/\xs.length=n/\t xs σ H Q
theorem a3Z {es:List Expr}{k:Nat}{t:TGs}{n:Nat}(hc:X.calm=true)(h:PGs X es t)
  (hn:(assignEach es X.env).length=n:=by rfl) (hst:(assignEach es X.env).findIdx? (·.1)=none:=by rfl):PG X (.Tuple es k pos) (gTup X.K n t):=by
 intro pins s σ H v u Q I r hw
 obtain⟨a,xs,e1,hq,hl,hw⟩:=hw
 subst e1
 cases r
 obtain⟨its,rv,ht,hz⟩:=I.tuple hq
 refine assign_Tuple_tuple (I.ok.hd hc) ht (by simp[hn,<-hl,rv.length]) hst fun h' hx=>?_
 have I1:Inv X pins σ H { s with heap:=h' }:=I.kept (t':=s.toks) fun b o e=>hx b o (YO (Yq e)) e
 exact h pins _ σ H xs _ Q I1 (by simpa using rv) hw
def tAsg (te:TE)(g:TG):TS:=fun D σ H=>te σ H fun x H1=>g x σ H1 D.nx
theorem aW {i:Nat}{x:Str}{e:Expr}{te:TE}{pos':Pos}(hN:X.N.Nodup)(hi:X.N[i]? =some x)(hx:Loc X.env.scope x)(he:PE X e te)(hs:swapsWith e (some (.Name x pos')) pos.line X.env=pure false:=by rfl)(hf:X.fn x=true\/X.env.scope.names.lookup x=some .local:=by first | exact .inl rfl | exact .inr rfl | assumption) :
  PS X (.Assign [.Name x pos'] e pos) (tAsg te (gName i)):=by
 intro pins s σ H D I h
 refine wpAny_Assign_Name (thn (he pins s σ H _ I h) fun v s1 hz9=>?_) hs
 obtain⟨y,H1,I1,r1,q1⟩:=hz9
 exact jM I1 hN hi hx r1 (fun s2 I2=>⟨_,H1,I2,q1⟩) hf
end
section
variable {X:Cx}{pos:Pos}
def tWhile (c:TT)(tb:TS):TS:=fun D σ H=>∃W:Nat->St->Hp->Prop,(∃m,W m σ H)/\∀m σ H,W m σ H->
 c σ H fun b H1=>if b=true then ∃N:St->Hp->Prop,(∀σ' H',N σ' H'->∃m',m'<m/\W m' σ' H')/\tb { D with nx:=N,ct:=N,bk:=D.nx } σ H1 else D.nx σ H1
theorem jQ {c:Expr}{body:List Stmt}{tc:TT}{tb:TS}(hp:PassesOwn (model X.prog X.w) X.A X.env X.xe)(hc:PT X c tc)(hb:PSs X body tb):PS X (.While c body [] pos) (tWhile tc tb):=by
 intro pins s σ H D I h
 obtain⟨W,⟨m0,w0⟩,turn⟩:=h
 refine wpAny_While (codeAny_whileLoop (fun n s'=>∃σ' H',Inv X pins σ' H' s'/\W n σ' H') ?_ m0 ⟨σ,H,I,w0⟩)
 rintro n s1 ⟨σ1,H1,I1,w1⟩
 refine XE hp (thn (hc pins s1 σ1 H1 _ I1 (turn n σ1 H1 w1)) fun b s2 hz9=>?_)
 obtain⟨H2,I2,q2⟩:=hz9
 cases b with
 | true=>
  obtain⟨N,hN,q2⟩:=q2
  rw[if_pos rfl]
  refine XE hp (thn (hb pins s2 σ1 H2 _ I2 q2) fun f s3 q3=>?_)
  cases f with
  | next=>
   obtain⟨σ3,H3,I3,n3⟩:=q3
   obtain⟨m',hm,w3⟩:=hN σ3 H3 n3
   exact⟨m',hm,σ3,H3,I3,w3⟩
  | cont=>
   obtain⟨σ3,H3,I3,n3⟩:=q3
   obtain⟨m',hm,w3⟩:=hN σ3 H3 n3
   exact⟨m',hm,σ3,H3,I3,w3⟩
  |brk=>exact q3
  |ret v=>exact q3
 | false=>
  rw[if_neg Yn]
  exact Jf ⟨σ1,H2,I2,q2⟩
end
structure It where
 go:Nat->Hp->Prop
 yld:Nat->Hp->V->Hp->Prop
 stop:Nat->Hp->Prop
def FpOk (X:Cx)(pins:List (Addr×Obj))(H:Hp)(b:Addr):Prop:=
 H b=none/\b≠X.env.locals/\b∉X.fs/\(b∈X.ex\/X.s₀.heap.objs.size<=b)/\(∀x c,X.env.cells.lookup x=some c->c≠b)/\∀p∈X.pn++pins,p.1≠b
theorem Inv.fpOk {X:Cx}{pins:List (Addr×Obj)}{σ:St}{H H':Hp}{s:Shared}{b:Addr}(I:Inv X pins σ H s)(hb:s.heap.objs.size<=b)(hn:H' b=none):FpOk X pins H' b:=by
 refine⟨hn,Nat.ne_of_gt (Yh I.lt hb),I.nofs hb,.inr (Y4 I.sz hb),fun x c e z=>?_,fun p hp z=>?_⟩
 ·obtain⟨v,q⟩:=I.cell x c e
  exact absurd (Yh q.lt (by rw[z];exact hb)) (YX _)
 ·exact absurd (Yh (Yq (I.pin p hp).1) (by rw[z];exact hb)) (YX _)
structure Turn (P:Program)(w:World)(K:W.Frag)(tg:Expr)(J:It)(fp:List Addr)(it:Addr)(tn:Nat->Heap->Prop):Prop where
 mem:it∈fp
 obj:∀i h,tn i h->∀b∈fp,∃o,h.get? b=some o/\∀v,o.data≠ .cell v
 keep:∀i h h',tn i h->(∀b∈fp,∀o,h.get? b=some o->h'.get? b=some o)->tn i h'
 item :∀(X:Cx),X.prog=P->X.w=w->X.K=K->X.calm=true->∀(i:Nat)(pins:List (Addr×Obj))(s:Shared)(σ:St)(H:Hp)(E:Value->Shared->Prop),Inv X pins σ H s->(∀b∈fp,FpOk X pins H b)->tn i s.heap->J.go i H->
  wpAny (model P w) X.A (pyNext (.ref it)) (fun r s1=>∃u,r=some u/\
   wpAny (model P w) X.A (letOwnedTupleGo tg (.ref it) u) (fun _ s2=>∃x H',Inv X pins σ H' s2/\RelV x u/\J.yld i H x H'/\tn (i+1) s2.heap/\∀b∈fp,H' b=none) E s1) E s
 done:∀(X:Cx),X.prog=P->X.w=w->X.K=K->X.calm=true->∀(i:Nat)(pins:List (Addr×Obj))(s:Shared)(σ:St)(H:Hp)(E:Value->Shared->Prop),Inv X pins σ H s->(∀b∈fp,FpOk X pins H b)->tn i s.heap->J.stop i H->
  wpAny (model P w) X.A (pyNext (.ref it)) (fun r s1=>r=none/\Inv X pins σ H s1) E s
 self:∀(A:Around)(i:Nat)(s:Shared)(Q:Value->Shared->Prop)(E:Value->Shared->Prop),tn i s.heap->Q (.ref it) s->wpAny (model P w) A (pyIter (.ref it)) Q E s
abbrev TI:=St->Hp->(It->Hp->Prop)->Prop
def PIE (X:Cx)(pins:List (Addr×Obj))(σ:St)(tg:Expr)(R:It->Hp->Prop)(itv:Value)(s2:Shared):Prop:=
 ∃(it:Addr)(fp:List Addr)(tn:Nat->Heap->Prop)(J:It)(H':Hp),itv= .ref it/\Inv X pins σ H' s2/\Turn X.prog X.w X.K tg J fp it tn/\tn 0 s2.heap/\(∀b∈fp,FpOk X pins H' b)/\R J H'
def PI (X:Cx)(tg iter:Expr)(wi:TI):Prop:=
 ∀ (pins:List (Addr×Obj))(s:Shared)(σ:St)(H:Hp)(R:It->Hp->Prop),Inv X pins σ H s->wi σ H R->
  wpAny (model X.prog X.w) X.A (eval iter X.env) (fun v s1=>wpAny (model X.prog X.w) X.A (pyIter v) (PIE X pins σ tg R) X.xe s1) X.xe s
theorem zJ {M:Model}{A:Around}{E:Value->Shared->Prop}{s:Shared}{tg:Expr}{it:Addr}{u:Value}{o:Obj}{n:String}{vs:Array Value}{Q:Unit->Shared->Prop}(ho:s.heap.get? it=some o)(hc:o.cls= .type n)(hd:o.data= .fields vs)
    (hn:["enumerate","zip","dict_itemiterator","dict_reverseitemiterator","odict_iterator","itertools.zip_longest","itertools.pairwise"].contains n=false) (hQ:Q () s):wpAny M A (letOwnedTupleGo tg (.ref it) u) Q E s:=by
  unfold letOwnedTupleGo
  cases tg <;> first
    |exact Y9 hQ
    | (cases u <;> first
        |exact Y9 hQ
        | (refine YC (wpAny_load ho ?_)
           rw[hc,hd]
           show wpAny M A (if (["enumerate","zip","dict_itemiterator","dict_reverseitemiterator","odict_iterator","itertools.zip_longest","itertools.pairwise"].contains n && vs[0]? == some (rawInt _))=true then _ else _) Q E s
           rw[if_neg (by intro h;rw[hn,Bool.false_and]at h;cases h)]
           exact Y9 hQ))
def Itl (K:W.Frag)(a:Addr):It:=
 ⟨fun i H=>∃xs x,SqL K H a xs/\xs[i]? =some x,fun i H x H'=>H'=H/\∀xs,SqL K H a xs->xs[i]? =some x,fun i H=>∃xs,SqL K H a xs/\xs.length<=i⟩
def Itt (K:W.Frag)(a:Addr):It:=
 ⟨fun i H=>∃xs x,SqT K H a xs/\xs[i]? =some x,fun i H x H'=>H'=H/\∀xs,SqT K H a xs->xs[i]? =some x,fun i H=>∃xs,SqT K H a xs/\xs.length<=i⟩
def Itr (lo:Int)(n:Nat):It:=⟨fun i _=>i<n,fun i H x H'=>H'=H/\x= .int (lo+i),fun i _=>n<=i⟩
theorem lF {P:Program}{w:World}{K:W.Frag}{tg:Expr}(a it:Addr):Turn P w K tg (Itl K a) [it] it (fun i h=>h.IsListIter it a i) where
 mem:=by simp
 obj:=fun i h st b hb=>by
  have e:b=it:=by simpa using hb
  subst e
  obtain⟨o,e,c,d⟩:=st
  exact⟨o,e,fun v z=>by rw[d]at z;cases z⟩
 keep:=fun i h h' st k=>st.at fun o e=>k it (by simp) o e
 item:=by
  intro X hP hw hK hc i pins s σ H E I hf st hg
  subst hP hw hK
  obtain⟨xs,x,hq,hx⟩:=hg
  obtain⟨its,rv,p,hz⟩:=I.list hq
  obtain⟨u,hu,ru⟩:=rv.get hx
  obtain⟨f0,f1,f2,f3,f4,f5⟩:=hf it (by simp)
  refine wpAny_pyNext_list_item st p.isList (x:=u) (by simpa using hu) fun h' st' sb=>?_
  have I1:Inv X pins σ H { s with heap:=h' }:=I.turned (t':=s.toks) (fun b o hb e=>(sb.2 b hb).trans e) f0 f1 f3 f4 f5
  obtain⟨o,e,c,d⟩:=id st'
  exact⟨u,rfl,zJ (s:={ s with heap:=h' }) e c d (by decide) ⟨x,H,I1,ru,⟨rfl,fun ys hy=>by rw[I.list_inj hy hq];exact hx⟩,st',fun b hb=>(hf b hb).1⟩⟩
 done:=by
  intro X hP hw hK hc i pins s σ H E I hf st hg
  subst hP hw hK
  obtain⟨xs,hq,hx⟩:=hg
  obtain⟨its,rv,p,hz⟩:=I.list hq
  obtain⟨f0,f1,f2,f3,f4,f5⟩:=hf it (by simp)
  have hl:=rv.length
  exact wpAny_pyNext_list_end (I.ok.hd hc) st p.isList (by simp;omega) fun h' eb=>⟨rfl,I.turned (t':=s.toks) (fun b o hb e=>eb b o hb e) f0 f1 f3 f4 f5⟩
 self:=fun _ _ _ _ _ st h=>wpAny_pyIter_listiter st h
theorem qG {P:Program}{w:World}{K:W.Frag}{tg:Expr}(a it:Addr):Turn P w K tg (Itt K a) [it] it (fun i h=>h.IsTupleIter it a i) where
 mem:=by simp
 obj:=fun i h st b hb=>by
  have e:b=it:=by simpa using hb
  subst e
  obtain⟨o,e,c,d⟩:=st
  exact⟨o,e,fun v z=>by rw[d]at z;cases z⟩
 keep:=fun i h h' st k=>st.at fun o e=>k it (by simp) o e
 item:=by
  intro X hP hw hK hc i pins s σ H E I hf st hg
  subst hP hw hK
  obtain⟨xs,x,hq,hx⟩:=hg
  obtain⟨its,rv,p,hz⟩:=I.tuple hq
  obtain⟨u,hu,ru⟩:=rv.get hx
  obtain⟨f0,f1,f2,f3,f4,f5⟩:=hf it (by simp)
  refine wpAny_pyNext_tuple_item st (show s.heap.IsTuple a its.toArray from p) (x:=u) (by simpa using hu) fun h' st' sb=>?_
  have I1:Inv X pins σ H { s with heap:=h' }:=I.turned (t':=s.toks) (fun b o hb e=>(sb.2 b hb).trans e) f0 f1 f3 f4 f5
  obtain⟨o,e,c,d⟩:=id st'
  exact⟨u,rfl,zJ (s:={ s with heap:=h' }) e c d (by decide) ⟨x,H,I1,ru,⟨rfl,fun ys hy=>by rw[I.tuple_inj hy hq];exact hx⟩,st',fun b hb=>(hf b hb).1⟩⟩
 done:=by
  intro X hP hw hK hc i pins s σ H E I hf st hg
  subst hP hw hK
  obtain⟨xs,hq,hx⟩:=hg
  obtain⟨its,rv,p,hz⟩:=I.tuple hq
  obtain⟨f0,f1,f2,f3,f4,f5⟩:=hf it (by simp)
  have hl:=rv.length
  exact wpAny_pyNext_tuple_end (I.ok.hd hc) st (show s.heap.IsTuple a its.toArray from p) (by simp;omega) fun h' eb=>⟨rfl,I.turned (t':=s.toks) (fun b o hb e=>eb b o hb e) f0 f1 f3 f4 f5⟩
 self:=fun _ _ _ _ _ st h=>wpAny_pyIter_tupleiter st h
theorem qH {P:Program}{w:World}{K:W.Frag}{tg:Expr}(it:Addr)(lo:Int)(n:Nat):Turn P w K tg (Itr lo n) [it] it (fun i h=>IsRangeIter h it (lo+(i:Nat)*1) ((n:Int)-(i:Nat)) 1) where
 mem:=by simp
 obj :=fun i h st b hb=>by
  have e:b=it:=by simpa using hb
  subst e
  exact⟨_,st,fun v z=>by
   have z':Data.fields _=Data.cell v:=z
   cases z'⟩
 keep:=fun i h h' st k=>k it (by simp) _ st
 item:=by
  intro X hP hw hK hc i pins s σ H E I hf st hg
  subst hP hw hK
  obtain⟨f0,f1,f2,f3,f4,f5⟩:=hf it (by simp)
  have W:=Walks.range (prog:=X.prog) (w:=X.w) (I.ok.hd hc) it lo 1 n
  refine W.item i s _ _ hg st fun v h' tk hv st' kk=>?_
  obtain⟨t,rfl⟩:=hv
  have I1:Inv X pins σ H { s with heap:=h',toks:=tk }:=I.turned (fun b o hb e=>kk b o (by simpa using hb) e) f0 f1 f3 f4 f5
  refine⟨_,rfl,zJ (s:={ s with heap:=h',toks:=tk }) (n:="range_iterator") st' rfl rfl (by decide) ⟨.int (lo+i),H,I1,⟨t,?_⟩,⟨rfl,rfl⟩,st',fun b hb=>(hf b hb).1⟩⟩
  rw[Int.mul_one]
 done:=by
  intro X hP hw hK hc i pins s σ H E I hf st hg
  subst hP hw hK
  obtain⟨f0,f1,f2,f3,f4,f5⟩:=hf it (by simp)
  exact wpAny_pyNext_range_end (I.ok.hd hc) st (by have:n<=i:=hg;omega) fun h' eb=>⟨rfl,I.turned (t':=s.toks) (fun b o hb e=>eb b o hb e) f0 f1 f3 f4 f5⟩
 self:=fun _ _ _ _ _ st h=>wpAny_pyIter_rangeiter st h
end L2
namespace L2
open PySem PySem.Spec PyProof.Rows
section
variable {X:Cx}{tg:Expr}
def iList (K:W.Frag)(tl:TE):TI:=fun σ H R=>tl σ H fun x H1=>∃a,x= .ref a/\(∃xs,SqL K H1 a xs)/\R (Itl K a) H1
theorem a1L {l:Expr}{tl:TE}(hl:PE X l tl):PI X tg l (iList X.K tl):=by
 intro pins s σ H R I h
 refine thn (hl pins s σ H _ I h) fun v s1 hz9=>?_
 obtain⟨x,H1,I1,r1,q1⟩:=hz9
 obtain⟨a,e,⟨xs,hq⟩,q⟩:=q1
 subst e
 cases r1
 obtain⟨its,rv,p,hz⟩:=I1.list hq
 refine wpAny_pyIter_list p.isList ?_
 refine⟨s1.heap.objs.size, [s1.heap.objs.size],_,_,H1,rfl,I1.kept (t':=s1.toks) fun b o e=>Yr _ e,lF a _,⟨_,YL _ rfl,rfl,rfl⟩,fun b hb=>?_,q⟩
 have e:b=s1.heap.objs.size:=by simpa using hb
 subst e
 exact I1.fpOk (Yd _) (I1.hok.fresh (Yd _))
theorem oO {pins:List (Addr×Obj)}{σ:St}{H:Hp}{s:Shared}{R:It->Hp->Prop}{E:Value->Shared->Prop}{lo hi:Int}{t u v:Tok}{tk:Nat}(I:Inv X pins σ H s)(h1: -(2 ^ 62)<=lo)(h2:lo<2 ^ 62)(h3: -(2 ^ 62)<=hi)(h4:hi<2 ^ 62)
  (q:R (Itr lo (hi-lo).toNat) H):wpAny (model X.prog X.w) X.A (pyIter (.ref s.heap.objs.size)) (PIE X pins σ tg R) E { s with heap:=s.heap.push { cls:= .type "range",data:= .fields #[.int lo t,.int hi u,.int 1 v] },toks:=tk }:=by
 refine wpAny_pyIter_range (IsRange.new ..) (small_one h1 h2 h3 h4) ?_
 have I1:Inv X pins σ H { s with heap:=s.heap.push { cls:= .type "range",data:= .fields #[.int lo t,.int hi u,.int 1 v] },toks:=tk }:=I.kept fun b o e=>Yr _ e
 refine⟨(s.heap.push { cls:= .type "range",data:= .fields #[.int lo t,.int hi u,.int 1 v] }).objs.size, [(s.heap.push { cls:= .type "range",data:= .fields #[.int lo t,.int hi u,.int 1 v] }).objs.size],_,_,H,rfl,
  I1.kept (t':=tk) fun b o e=>Yr _ e,qH _ lo (hi-lo).toNat,?_,fun b hb=>?_,q⟩
 ·have e1:lo+((0:Nat):Int)*1=lo:=by simp
  have e2:(((hi-lo).toNat:Nat):Int)-((0:Nat):Int)=Builtin.Range.rangeSize lo hi 1:=by rw[rangeSize_one];split <;> omega
  show IsRangeIter _ _ (lo+((0:Nat):Int)*1) ((((hi-lo).toNat:Nat):Int)-((0:Nat):Int)) 1
  rw[e1,e2]
  exact YL _ rfl
 ·have e:b=(s.heap.push { cls:= .type "range",data:= .fields #[.int lo t,.int hi u,.int 1 v] }).objs.size:=by simpa using hb
  subst e
  exact I1.fpOk (Yd _) (I1.hok.fresh (Yd _))
def iRng1 (ta:TA):TI:=fun σ H R=>ta σ H fun vs H1=>∃j:Int,vs= [.int j]/\ -(2 ^ 62)<=j/\j<2 ^ 62/\R (Itr 0 j.toNat) H1
def iRng2 (ta:TA):TI:=fun σ H R=>ta σ H fun vs H1=>∃i j:Int,vs= [.int i,.int j]/\(-(2 ^ 62)<=i/\i<2 ^ 62/\ -(2 ^ 62)<=j/\j<2 ^ 62)/\R (Itr i (j-i).toNat) H1
theorem uI {a:Expr}{ta:TA}{p pos:Pos}(hg:Gl X "range")(hm:X.mg "range"=none)(ha:PA X [a] ta)(hs:starEach [a] X.env= [(false,eval a X.env)]:=by rfl):PI X tg (.Call (.Name "range" p) [a] [] pos) (iRng1 ta):=by
 intro pins s σ H R I h
 refine Call_ (jX I hg hm boot_range (XC (thn (ha pos pins s σ H _ I h) fun us s1 hz9=>?_) hs rfl))
 obtain⟨vs,H1,I1,r1,q1⟩:=hz9
 obtain⟨j,e,q1,q2,q⟩:=q1
 subst e
 cases r1 with
 | cons r rr=>
  cases rr
  obtain⟨t,rfl⟩:=r
  exact call_range_1 (oO I1 (by omega) (by omega) q1 q2 (by simpa using q))
theorem uH {a b:Expr}{ta:TA}{p pos:Pos}(hg:Gl X "range")(hm:X.mg "range"=none)(ha:PA X [a,b] ta)(hs:starEach [a,b] X.env= [(false,eval a X.env),(false,eval b X.env)]:=by rfl)(hs2:starEach [b] X.env= [(false,eval b X.env)]:=by rfl) :
  PI X tg (.Call (.Name "range" p) [a,b] [] pos) (iRng2 ta):=by
 intro pins s σ H R I h
 refine Call_ (jX I hg hm boot_range (XC (thn (ha pos pins s σ H _ I h) fun us s1 hz9=>?_) (by rw[hs,hs2]) (by rw[hs2];rfl)))
 obtain⟨vs,H1,I1,r1,q1⟩:=hz9
 obtain⟨i,j,e,⟨q1,q2,q3,q4⟩,q⟩:=q1
 subst e
 cases r1 with
 | cons r rr=>
  cases rr with
  | cons r' rr=>
   cases rr
   obtain⟨t,rfl⟩:=r
   obtain⟨t',rfl⟩:=r'
   exact call_range_2 (oO I1 q1 q2 q3 q4 q)
def tFor (wi:TI)(g:TG)(tb:TS):TS:=fun D σ H=>wi σ H fun J H1=>∃W:Nat->Nat->St->Hp->Prop,(∃m,W 0 m σ H1)/\∀i m σ H,W i m σ H->
 (J.stop i H/\D.nx σ H)\/(J.go i H/\∃N:St->Hp->Prop,(∀σ' H',N σ' H'->∃m',m'<m/\W (i+1) m' σ' H')/\∀x H',J.yld i H x H'->g x σ H' fun σ2 H2=>tb { D with nx:=N,ct:=N,bk:=D.nx } σ2 H2)
def pinsAt (fp:List Addr)(h:Heap):List (Addr×Obj):=fp.filterMap fun b=>(h.get? b).map fun o=>(b,o)
theorem eV {fp:List Addr}{h:Heap}{b:Addr}{o:Obj}(hb:b∈fp)(e:h.get? b=some o):(b,o)∈pinsAt fp h:=YV.mpr ⟨b,hb,by rw[e];rfl⟩
theorem uK {fp:List Addr}{h:Heap}{p:Addr×Obj}(hp:p∈pinsAt fp h):p.1∈fp/\h.get? p.1=some p.2:=by
 obtain⟨b,hb,e⟩:=YV.mp hp
 cases q:h.get? b with
 |none=>rw[q]at e;cases e
 | some o=>
  rw[q]at e
  have e':(b,o)=p:=Yt e
  subst e'
  exact⟨hb,q⟩
theorem Inv.pinned {pins:List (Addr×Obj)}{σ:St}{H:Hp}{s:Shared}{fp:List Addr}(I:Inv X pins σ H s)(hf:∀b∈fp,FpOk X pins H b)(ho:∀b∈fp,∃o,s.heap.get? b=some o/\∀v,o.data≠ .cell v):Inv X (pins++pinsAt fp s.heap) σ H s:=
 I.pins_of fun p hp=>(YI.mp hp).elim (fun z=>I.pin p (YQ _ z)) fun z=>by
  obtain⟨hb,e⟩:=uK z
  obtain⟨f0,f1,f2,_⟩:=hf p.1 hb
  obtain⟨o,e',d⟩:=ho p.1 hb
  rw[e]at e';cases e'
  exact⟨e,f0,f1,f2,d⟩
theorem Inv.unpinned {pins pl:List (Addr×Obj)}{σ:St}{H:Hp}{s:Shared}(I:Inv X (pins++pl) σ H s):Inv X pins σ H s:=I.pins_of fun p hp=>I.pin p (YQ _ (X5 _ hp))
theorem cO {iter:Expr}{body:List Stmt}{wi:TI}{g:TG}{tb:TS}{pos:Pos}(hp:PassesOwn (model X.prog X.w) X.A X.env X.xe)(hc:X.calm=true)(hi:PI X tg iter wi)(hg:PG X tg g)(hb:PSs X body tb)
  (hs:∀x,foldedSetIterable iter X.env x=pure x:=by intro _;rfl):PS X (.For tg iter body [] pos) (tFor wi g tb):=by
 intro pins s σ H D I h
 refine wpAny_For (thn (hi pins s σ H _ I h) fun v s1 h1=>thn h1 fun itv s2 h2=>?_) hs
 obtain⟨it,fp,tn,J,H2,e,I2,T,st2,f2,W,⟨m0,w0⟩,turn⟩:=h2
 subst e
 have stat:∀{H':Hp},(∀b∈fp,H' b=none)->∀b∈fp,FpOk X pins H' b:=fun hn b hb=>⟨hn b hb,(f2 b hb).2⟩
 refine codeAny_forLoop_any (fun n s'=>∃i σ' H',Inv X pins σ' H' s'/\tn i s'.heap/\(∀b∈fp,H' b=none)/\W i n σ' H') ?_ m0 ⟨0,σ,H2,I2,st2,fun b hb=>(f2 b hb).1,w0⟩
 rintro n s3 ⟨i,σ3,H3,I3,st3,fr3,w3⟩
 rcases turn i n σ3 H3 w3 with ⟨stop,qn⟩ | ⟨go,N,hN,step⟩
 ·refine XE hp (thn (T.done X rfl rfl rfl hc i pins s3 σ3 H3 X.xe I3 (stat fr3) st3 stop) fun r s4 ⟨hr,I4⟩=>?_)
  subst hr
  exact Jf ⟨σ3,H3,I4,qn⟩
 ·refine XE hp (thn (T.item X rfl rfl rfl hc i pins s3 σ3 H3 X.xe I3 (stat fr3) st3 go) fun r s4 hz9=>?_)
  obtain⟨u,hr,h4⟩:=hz9
  subst hr
  refine XE hp (thn h4 fun _ s5 hz9=>?_)
  obtain⟨x,H5,I5,r5,y5,st5,fr5⟩:=hz9
  have I5':=I5.pinned (stat fr5) (T.obj _ _ st5)
  refine XE hp (thn (hg _ s5 σ3 H5 x u _ I5' r5 (step x H5 y5)) fun _ s6 hz9=>?_)
  obtain⟨σ6,H6,I6,q6⟩:=hz9
  refine XE hp (thn (hb _ s6 σ6 H6 _ I6 q6) fun f s7 q7=>?_)
  have again:∀{σ7:St}{H7:Hp},Inv X (pins++pinsAt fp s5.heap) σ7 H7 s7->N σ7 H7->∃m,m<n/\∃i σ' H',Inv X pins σ' H' s7/\tn i s7.heap/\(∀b∈fp,H' b=none)/\W i m σ' H':=fun {σ7 H7} I7 n7=>by
   obtain⟨m',hm,w7⟩:=hN σ7 H7 n7
   refine⟨m',hm,i+1,σ7,H7,I7.unpinned,T.keep _ _ _ st5 fun b hb o e=>(I7.pin (b,o) (YQ _ (YQ _ (eV hb e)))).1,fun b hb=>?_,w7⟩
   obtain⟨o,e,d⟩:=T.obj _ _ st5 b hb
   exact(I7.pin (b,o) (YQ _ (YQ _ (eV hb e)))).2.1
  cases f with
  |next=>obtain⟨σ7,H7,I7,n7⟩:=q7;exact again I7 n7
  |cont=>obtain⟨σ7,H7,I7,n7⟩:=q7;exact again I7 n7
  |brk=>obtain⟨σ7,H7,I7,q7⟩:=q7;exact⟨σ7,H7,I7.unpinned,q7⟩
  |ret v=>obtain⟨x7,σ7,H7,I7,r7,q7⟩:=q7;exact⟨x7,σ7,H7,I7.unpinned,r7,q7⟩
end
theorem eN {K:W.Frag}{a:Addr}{xs:List V}{g:TG}{tb:TS}{D:Ends}{σ:St}{H:Hp}(Pv:Nat->St->Hp->Prop)(h0:Pv 0 σ H)(hl:∀i σ H,i<=xs.length->Pv i σ H->SqL K H a xs)
  (hs:∀i x σ H,xs[i]? =some x->Pv i σ H->g x σ H fun σ2 H2=>tb { D with nx:=Pv (i+1),ct:=Pv (i+1),bk:=D.nx } σ2 H2) (hd:∀σ H,Pv xs.length σ H->D.nx σ H) :
  ∃ W:Nat->Nat->St->Hp->Prop,(∃m,W 0 m σ H)/\∀i m σ H,W i m σ H->
   ((Itl K a).stop i H/\D.nx σ H)\/((Itl K a).go i H/\∃N:St->Hp->Prop,(∀σ' H',N σ' H'->∃m',m'<m/\W (i+1) m' σ' H')/\∀x H',(Itl K a).yld i H x H'->g x σ H' fun σ2 H2=>tb { D with nx:=N,ct:=N,bk:=D.nx } σ2 H2):=by
 refine⟨fun i m σ H=>m=xs.length-i/\i<=xs.length/\Pv i σ H,⟨xs.length,by simp,Xx _,h0⟩,?_⟩
 rintro i m σ H ⟨rfl,hi,p⟩
 have q:=hl i σ H hi p
 by_cases hlt:i<xs.length
 ·refine .inr ⟨⟨xs,xs[i],q,by simp[hlt]⟩,Pv (i+1),fun σ' H' p'=>⟨xs.length-(i+1),by omega,rfl,hlt,p'⟩,fun x H' y=>?_⟩
  obtain⟨e,y⟩:=y
  subst e
  exact hs i x σ _ (y xs q) p
 ·have e:i=xs.length:=by omega
  subst e
  exact .inl ⟨⟨xs,q,Yd _⟩,hd σ H p⟩
theorem cT {lo:Int}{n:Nat}{g:TG}{tb:TS}{D:Ends}{σ:St}{H:Hp}(Pv:Nat->St->Hp->Prop)(h0:Pv 0 σ H)
  (hs:∀i σ H,i<n->Pv i σ H->g (.int (lo+i)) σ H fun σ2 H2=>tb { D with nx:=Pv (i+1),ct:=Pv (i+1),bk:=D.nx } σ2 H2) (hd:∀σ H,Pv n σ H->D.nx σ H) :
  ∃ W:Nat->Nat->St->Hp->Prop,(∃m,W 0 m σ H)/\∀i m σ H,W i m σ H->
   ((Itr lo n).stop i H/\D.nx σ H)\/((Itr lo n).go i H/\∃N:St->Hp->Prop,(∀σ' H',N σ' H'->∃m',m'<m/\W (i+1) m' σ' H')/\∀x H',(Itr lo n).yld i H x H'->g x σ H' fun σ2 H2=>tb { D with nx:=N,ct:=N,bk:=D.nx } σ2 H2):=by
 refine⟨fun i m σ H=>m=n-i/\i<=n/\Pv i σ H,⟨n,by simp,Xx _,h0⟩,?_⟩
 rintro i m σ H ⟨rfl,hi,p⟩
 by_cases hlt:i<n
 ·refine .inr ⟨hlt,Pv (i+1),fun σ' H' p'=>⟨n-(i+1),by omega,rfl,hlt,p'⟩,fun x H' y=>?_⟩
  obtain⟨e,y⟩:=y
  subst e y
  exact hs i σ _ hlt p
 ·have e:i=n:=by omega
  subst e
  exact .inl ⟨Yd _,hd σ H p⟩
end L2
namespace L2
open PySem PySem.Spec PyProof.Rows
abbrev R2:=V->V->Hp->VK->Prop
def OpR (X:Cx)(f:Value->Value->Sem Value)(r:R2):Prop:=
 ∀ (pins:List (Addr×Obj))(s:Shared)(σ:St)(H:Hp)(x y:V)(v u:Value)(Q:VK),Inv X pins σ H s->RelV x v->RelV y u->r x y H Q->
  wpAny (model X.prog X.w) X.A (f v u) (EP X pins σ Q) X.xe s
def UnR (X:Cx)(f:Value->Sem Value)(r:V->Hp->VK->Prop):Prop:=
 ∀ (pins:List (Addr×Obj))(s:Shared)(σ:St)(H:Hp)(x:V)(v:Value)(Q:VK),Inv X pins σ H s->RelV x v->r x H Q->
  wpAny (model X.prog X.w) X.A (f v) (EP X pins σ Q) X.xe s
def CallR (X:Cx)(f:Value)(r:List V->Hp->VK->Prop):Prop:=
 ∀ (pins:List (Addr×Obj))(s:Shared)(σ:St)(H:Hp)(xs:List V)(us:List Value)(Q:VK),Inv X pins σ H s->Vals xs us->r xs H Q->
  wpAny (model X.prog X.w) X.A (call f us) (EP X pins σ Q) X.xe s
def tOp (r:R2)(ta tb:TE):TE:=fun σ H Q=>ta σ H fun x H1=>tb σ H1 fun y H2=>r x y H2 Q
def tUn (r:V->Hp->VK->Prop)(ta:TE):TE:=fun σ H Q=>ta σ H fun x H1=>r x H1 Q
def rI (C:Int->Int->Prop)(g:Int->Int->V):R2:=fun x y H Q=>∃i j,x= .int i/\y= .int j/\C i j/\Q (g i j) H
def rI0 (g:Int->Int->V):R2:=fun x y H Q=>∃i j,x= .int i/\y= .int j/\Q (g i j) H
def rU (g:Int->V):V->Hp->VK->Prop:=fun x H Q=>∃i,x= .int i/\Q (g i) H
section
variable {X:Cx}{a b c:Expr}{ta tb tc:TE}{pos:Pos}
theorem a5O (ha:PE X a ta)(hb:PE X b tb){pins:List (Addr×Obj)}{s:Shared}{σ:St}{H:Hp}{R:V->V->Hp->Prop}(I:Inv X pins σ H s)
  (h:ta σ H fun x H1=>tb σ H1 fun y H2=>R x y H2) {Q:Value->Shared->Prop} {f:Value->Value->Sem Value}
  (hf:∀v u s2 x y H2,Inv X pins σ H2 s2->RelV x v->RelV y u->R x y H2->wpAny (model X.prog X.w) X.A (f v u) Q X.xe s2) :
  wpAny (model X.prog X.w) X.A (eval a X.env) (fun v s₁=>wpAny (model X.prog X.w) X.A (eval b X.env) (fun u s₂=>wpAny (model X.prog X.w) X.A (f v u) Q X.xe s₂) X.xe s₁) X.xe s:=by
 refine thn (ha pins s σ H _ I h) fun v s1 hz9=>?_
 obtain⟨x,H1,I1,r1,q1⟩:=hz9
 refine thn (hb pins s1 σ H1 _ I1 q1) fun u s2 hz9=>?_
 obtain⟨y,H2,I2,r2,q2⟩:=hz9
 exact hf v u s2 x y H2 I2 r1 r2 q2
theorem aU {op:Operator}{r:R2}(ho:OpR X (binaryOp op) r)(ha:PE X a ta)(hb:PE X b tb):PE X (.BinOp a op b pos) (tOp r ta tb):=by
 intro pins s σ H Q I h
 exact wpAny_BinOp (a5O ha hb I h fun v u s2 x y H2 I2 rx ry q=>ho pins s2 σ H2 x y v u Q I2 rx ry q)
theorem a3B {op:UnaryOp}{r:V->Hp->VK->Prop}(ho:UnR X (unaryOp op) r)(ha:PE X a ta):PE X (.UnaryOp op a pos) (tUn r ta):=by
 intro pins s σ H Q I h
 exact UnaryOp_ (thn (ha pins s σ H _ I h) fun v s1 ⟨x,H1,I1,r1,q1⟩=>ho pins s1 σ H1 x v Q I1 r1 q1)
theorem opI {f:Value->Value->Sem Value}{C:Int->Int->Prop}{g:Int->Int->Int}
  (rule:∀(i j:Int)(t u:Tok)(s:Shared)(Q:Value->Shared->Prop)(E:Value->Shared->Prop),C i j->Q (.int (g i j) s.toks) { s with toks:=s.toks+1 }->wpAny (model X.prog X.w) X.A (f (.int i t) (.int j u)) Q E s) :
  OpR X f (rI C fun i j=> .int (g i j)):=by
 intro pins s σ H x y v u Q I rx ry h
 obtain⟨i,j,rfl,rfl,hc,q⟩:=h
 obtain⟨t,rfl⟩:=rx
 obtain⟨t',rfl⟩:=ry
 exact rule i j t t' s _ _ hc ⟨.int (g i j),H,I.tok _,⟨_,rfl⟩,q⟩
theorem a1T {f:Value->Value->Sem Value}{g:Int->Int->Int}
  (rule:∀(i j:Int)(t u:Tok)(s:Shared)(Q:Value->Shared->Prop)(E:Value->Shared->Prop),Q (.int (g i j) s.toks) { s with toks:=s.toks+1 }->wpAny (model X.prog X.w) X.A (f (.int i t) (.int j u)) Q E s) :
  OpR X f (rI0 fun i j=> .int (g i j)):=by
 intro pins s σ H x y v u Q I rx ry h
 obtain⟨i,j,rfl,rfl,q⟩:=h
 obtain⟨t,rfl⟩:=rx
 obtain⟨t',rfl⟩:=ry
 exact rule i j t t' s _ _ ⟨.int (g i j),H,I.tok _,⟨_,rfl⟩,q⟩
theorem a1U {f:Value->Value->Sem Value}{g:Int->Int->Bool}
  (rule:∀(i j:Int)(t u:Tok)(s:Shared)(Q:Value->Shared->Prop)(E:Value->Shared->Prop),Q (.bool (g i j)) s->wpAny (model X.prog X.w) X.A (f (.int i t) (.int j u)) Q E s) :
  OpR X f (rI0 fun i j=> .bl (g i j)):=by
 intro pins s σ H x y v u Q I rx ry h
 obtain⟨i,j,rfl,rfl,q⟩:=h
 obtain⟨t,rfl⟩:=rx
 obtain⟨t',rfl⟩:=ry
 exact rule i j t t' s _ _ ⟨.bl (g i j),H,I,rfl,q⟩
def CDiv (i j:Int):Prop:=0<j/\j<1073741824
theorem qD (k:Nat):(0:Int)<=2 ^ k:=by
 rw[two_pow_cast]
 exact Int.natCast_nonneg _
theorem a4O:OpR X (binaryOp .Add) (rI0 fun i j=> .int (i+j)):=a1T fun _ _ _ _ _ _ _ q=>add_int q
theorem a4H:OpR X (binaryOp .Sub) (rI0 fun i j=> .int (i-j)):=a1T fun _ _ _ _ _ _ _ q=>sub_int q
theorem a1S:OpR X (binaryOp .FloorDiv) (rI CDiv fun i j=> .int (i / j)):=opI fun i j _ _ _ _ _ hc q=>by
 have h1:(0:Int)<j:=hc.1
 have h2:j<1073741824:=hc.2
 exact floordiv_int (by omega) (by rw[Int.fdiv_eq_ediv_of_nonneg i (by omega)];exact q) (.inl (PyProof.noPylong_small (by omega)))
theorem a4K:OpR X (binaryOp .Mod) (rI (fun _ j=>0<j) fun i j=> .int (i % j)):=opI fun i j _ _ _ _ _ hc q=>by
 have h1:(0:Int)<j:=hc
 exact mod_int' (by omega) (by rw[Int.fmod_eq_emod_of_nonneg i (by omega)];exact q)
theorem a4I:OpR X (binaryOp .RShift) (rI (fun _ j=>0<=j) fun i j=> .int (i / 2 ^ j.toNat)):=opI fun i j _ _ _ _ _ hc q=>
 rshift_int hc (by rw[Int.fdiv_eq_ediv_of_nonneg i (qD _)];exact q)
theorem a4N:OpR X (binaryOp .BitAnd) (rI0 fun i j=> .int (Builtin.bitAnd i j)):=a1T fun _ _ _ _ _ _ _ q=>and_int q
theorem a4G:OpR X (binaryOp .BitXor) (rI0 fun i j=> .int (Builtin.bitXor i j)):=a1T fun _ _ _ _ _ _ _ q=>xor_int q
theorem unI {f:Value->Sem Value}{g:Int->Int}
  (rule:∀(i:Int)(t:Tok)(s:Shared)(Q:Value->Shared->Prop)(E:Value->Shared->Prop),Q (.int (g i) s.toks) { s with toks:=s.toks+1 }->wpAny (model X.prog X.w) X.A (f (.int i t)) Q E s) :
  UnR X f (rU fun i=> .int (g i)):=by
 intro pins s σ H x v Q I rx h
 obtain⟨i,rfl,q⟩:=h
 obtain⟨t,rfl⟩:=rx
 exact rule i t s _ _ ⟨.int (g i),H,I.tok _,⟨_,rfl⟩,q⟩
theorem a3N:UnR X (unaryOp .USub) (rU fun i=> .int (-i)):=unI fun _ _ _ _ _ q=>neg_int q
end
def scal:V->V->Bool
 |.non,.non=>true | .non,.int _=>true | .int _,.non=>true | .non,.bl _=>true | .bl _,.non=>true | .non,.str _=>true | .str _,.non=>true
 |.int _,.int _=>true | .bl _,.bl _=>true | .str _,.str _=>true | .byt _,.byt _=>true
 |.int _,.str _=>true | .str _,.int _=>true | .bl _,.str _=>true | .str _,.bl _=>true
 |_,_=>false
def rEq:R2:=fun x y H Q=>scal x y=true/\Q (.bl (decide (x=y))) H
def rNe:R2:=fun x y H Q=>scal x y=true/\Q (.bl (!decide (x=y))) H
theorem tL {i j:Int}:decide (V.int i=V.int j)=(i == j):=by
 rw[X7]
 simp
theorem zZ {i j:Bool}:decide (V.bl i=V.bl j)=(i == j):=by
 rw[X7]
 simp
theorem tK {i j:Str}:decide (V.str i=V.str j)=(i == j):=by
 rw[X7]
 simp
theorem tM {i j:Array UInt8}:decide (V.byt i=V.byt j)=(i.toList == j.toList):=by
 rw[X7]
 cases i
 cases j
 simp
section
variable {X:Cx}{a b c:Expr}{ta tb tc:TE}{pos:Pos}
theorem bM {pins:List (Addr×Obj)}{σ:St}{H:Hp}{s:Shared}{Q:VK}{k k':Bool}(I:Inv X pins σ H s)(q:Q (.bl k) H)(e:k=k'):EP X pins σ Q (.bool k') s:=by
 subst e
 exact⟨.bl k,H,I,rfl,q⟩
theorem a6J:OpR X (compareOp .Eq) rEq:=by
 intro pins s σ H x y v u Q I rx ry h
 obtain⟨hs,q⟩:=h
 cases x with
 | non=>
  cases rx
  cases y with
  |non=>cases ry;exact PySem.EqNone.eq_none_none (bM I q (by simp))
  |bl j=>cases ry;exact PySem.EqNone.eq_none_bool (bM I q (by simp))
  |int j=>obtain⟨t',rfl⟩:=ry;exact PySem.EqNone.eq_none_int (bM I q (by simp))
  |str j=>obtain⟨t',rfl⟩:=ry;exact PySem.EqNone.eq_none_str (bM I q (by simp))
  |_=>exact absurd (show false=true from hs) Yn
 | bl i=>
  cases rx
  cases y with
  |non=>cases ry;exact PySem.EqNone.eq_bool_none (bM I q (by simp))
  |bl j=>cases ry;exact eq_bool (bM I q zZ)
  |str j=>obtain⟨t',rfl⟩:=ry;exact PySem.EqMixed.eq_bool_str (bM I q (by simp))
  |_=>exact absurd (show false=true from hs) Yn
 | int i=>
  obtain⟨t,rfl⟩:=rx
  cases y with
  |non=>cases ry;exact PySem.EqNone.eq_int_none (bM I q (by simp))
  |int j=>obtain⟨t',rfl⟩:=ry;exact eq_int (bM I q tL)
  |str j=>obtain⟨t',rfl⟩:=ry;exact PySem.EqMixed.eq_int_str (bM I q (by simp))
  |_=>exact absurd (show false=true from hs) Yn
 | str i=>
  obtain⟨t,rfl⟩:=rx
  cases y with
  |non=>cases ry;exact PySem.EqNone.eq_str_none (bM I q (by simp))
  |bl j=>cases ry;exact PySem.EqMixed.eq_str_bool (bM I q (by simp))
  |int j=>obtain⟨t',rfl⟩:=ry;exact PySem.EqMixed.eq_str_int (bM I q (by simp))
  |str j=>obtain⟨t',rfl⟩:=ry;exact eq_str (bM I q tK)
  |_=>exact absurd (show false=true from hs) Yn
 | byt i=>
  obtain⟨t,rfl⟩:=rx
  cases y with
  |byt j=>obtain⟨t',rfl⟩:=ry;exact W.eq_bytes (bM I q tM)
  |_=>exact absurd (show false=true from hs) Yn
 |_=>cases y <;> exact absurd (show false=true from hs) Yn
theorem a6E:OpR X (compareOp .NotEq) rNe:=by
 intro pins s σ H x y v u Q I rx ry h
 obtain⟨hs,q⟩:=h
 cases x with
 | non=>
  cases rx
  cases y with
  |non=>cases ry;exact PySem.EqNone.ne_none_none (bM I q (by simp))
  |bl j=>cases ry;exact PySem.EqNone.ne_none_bool (bM I q (by simp))
  |int j=>obtain⟨t',rfl⟩:=ry;exact PySem.EqNone.ne_none_int (bM I q (by simp))
  |str j=>obtain⟨t',rfl⟩:=ry;exact PySem.EqNone.ne_none_str (bM I q (by simp))
  |_=>exact absurd (show false=true from hs) Yn
 | bl i=>
  cases rx
  cases y with
  |non=>cases ry;exact PySem.EqNone.ne_bool_none (bM I q (by simp))
  |bl j=>cases ry;exact ne_bool (bM I q (YF not zZ))
  |str j=>obtain⟨t',rfl⟩:=ry;exact PySem.EqMixed.ne_bool_str (bM I q (by simp))
  |_=>exact absurd (show false=true from hs) Yn
 | int i=>
  obtain⟨t,rfl⟩:=rx
  cases y with
  |non=>cases ry;exact PySem.EqNone.ne_int_none (bM I q (by simp))
  |int j=>obtain⟨t',rfl⟩:=ry;exact ne_int (bM I q (YF not tL))
  |str j=>obtain⟨t',rfl⟩:=ry;exact PySem.EqMixed.ne_int_str (bM I q (by simp))
  |_=>exact absurd (show false=true from hs) Yn
 | str i=>
  obtain⟨t,rfl⟩:=rx
  cases y with
  |non=>cases ry;exact PySem.EqNone.ne_str_none (bM I q (by simp))
  |bl j=>cases ry;exact PySem.EqMixed.ne_str_bool (bM I q (by simp))
  |int j=>obtain⟨t',rfl⟩:=ry;exact PySem.EqMixed.ne_str_int (bM I q (by simp))
  |str j=>obtain⟨t',rfl⟩:=ry;exact ne_str (bM I q (YF not tK))
  |_=>exact absurd (show false=true from hs) Yn
 | byt i=>
  obtain⟨t,rfl⟩:=rx
  cases y with
  |byt j=>obtain⟨t',rfl⟩:=ry;exact W.ne_bytes (bM I q (YF not tM))
  |_=>exact absurd (show false=true from hs) Yn
 |_=>cases y <;> exact absurd (show false=true from hs) Yn
theorem a6F:OpR X (compareOp .Lt) (rI0 fun i j=> .bl (decide (i<j))):=a1U fun _ _ _ _ _ _ _ q=>lt_int q
theorem a6G:OpR X (compareOp .LtE) (rI0 fun i j=> .bl (decide (i<=j))):=a1U fun _ _ _ _ _ _ _ q=>le_int q
theorem a6H:OpR X (compareOp .Gt) (rI0 fun i j=> .bl (decide (j<i))):=a1U fun _ _ _ _ _ _ _ q=>gt_int q
theorem a6I:OpR X (compareOp .GtE) (rI0 fun i j=> .bl (decide (j<=i))):=a1U fun _ _ _ _ _ _ _ q=>ge_int q
theorem a4L:OpR X (compareOp .Is) (fun x y H Q=>y= .non/\Q (.bl (decide (x= .non))) H):=by
 intro pins s σ H x y v u Q I rx ry h
 obtain⟨rfl,q⟩:=h
 cases ry
 refine is_none_gen (bM I q ?_)
 cases x <;> first
  |(cases rx;rfl)
  |(obtain⟨t,rfl⟩:=rx;rfl)
theorem aR (b:Expr){op:CmpOp}(h:op≠ .In:=by decide)(h2:op≠ .NotIn:=by decide):behindInMarks op b=false:=by
 have e1:(op == CmpOp.In)=false:=by cases op <;> first | rfl | exact absurd rfl h
 have e2:(op == CmpOp.NotIn)=false:=by cases op <;> first | rfl | exact absurd rfl h2
 cases b <;> simp[behindInMarks,e1,e2]
theorem cD {op:CmpOp}{r:R2}(ho:OpR X (compareOp op) r)(ha:PE X a ta)(hb:PE X b tb)(hm:behindInMarks op b=false):PE X (.Compare a [op] [b] pos) (tOp r ta tb):=by
 intro pins s σ H Q I h
 exact wpAny_Compare1 (a5O ha hb I h fun v u s2 x y H2 I2 rx ry q=>ho pins s2 σ H2 x y v u Q I2 rx ry q) hm
def tTest (t:TE):TT:=fun σ H Q=>t σ H fun x H'=>∃k,x= .bl k/\Q k H'
theorem a1D {op:CmpOp}{r:R2}(ho:OpR X (compareOp op) r)(ha:PE X a ta)(hb:PE X b tb)(hm:behindInMarks op b=false):PT X (.Compare a [op] [b] pos) (tTest (tOp r ta tb)):=by
 intro pins s σ H Q I h
 refine wpAny_isTrue_Compare1 (thn (ha pins s σ H _ I h) fun v s1 ⟨x,H1,I1,r1,q1⟩=>thn (hb pins s1 σ H1 _ I1 q1) fun u s2 ⟨y,H2,I2,r2,q2⟩=>
  thn (ho pins s2 σ H2 x y v u _ I2 r1 r2 q2) fun c s3 ⟨z,H3,I3,r3,k,e,q3⟩=>?_) hm
 subst e
 cases r3
 exact Xd ⟨H3,I3,q3⟩
def tChain (r r':R2)(ta tb tc:TE):TE:=fun σ H Q=>ta σ H fun x H1=>tb σ H1 fun y H2=>r x y H2 fun z H3=>∃k,z= .bl k/\
 (if k=true then tc σ H3 fun w' H4=>r' y w' H4 Q else Q (.bl false) H3)
theorem xR {op op':CmpOp}{r r':R2}(ho:OpR X (compareOp op) r)(ho':OpR X (compareOp op') r')(ha:PE X a ta)(hb:PE X b tb)(hc:PE X c tc)
  (hm:lastMarks [op,op'] [b,c]=false:=by with_unfolding_all rfl):PE X (.Compare a [op,op'] [b,c] pos) (tChain r r' ta tb tc):=by
 intro pins s σ H Q I h
 refine Compare_chain (thn (ha pins s σ H _ I h) fun v s1 ⟨x,H1,I1,r1,q1⟩=>chain_link (thn (hb pins s1 σ H1 _ I1 q1) fun u s2 ⟨y,H2,I2,r2,q2⟩=>
  thn (ho pins s2 σ H2 x y v u _ I2 r1 r2 q2) fun d s3 ⟨z,H3,I3,r3,k,e,q3⟩=>?_)) hm
 subst e
 cases r3
 refine Xd ?_
 cases k with
 |false=>exact ite_ff ⟨.bl false,H3,I3,rfl,q3⟩
 |true=>exact ite_tt (chain_last (thn (hc pins s3 σ H3 _ I3 q3) fun w' s4 ⟨z',H4,I4,r4,q4⟩=>ho' pins s4 σ H4 y z' u w' Q I4 r2 r4 q4))
theorem xG {op op':CmpOp}{r r':R2}(ho:OpR X (compareOp op) r)(ho':OpR X (compareOp op') r')(ha:PE X a ta)(hb:PE X b tb)(hc:PE X c tc)
  (hm:lastMarks [op,op'] [b,c]=false:=by with_unfolding_all rfl):PT X (.Compare a [op,op'] [b,c] pos) (tTest (tChain r r' ta tb tc)):=by
 intro pins s σ H Q I h
 refine isTrue_chain (thn (ha pins s σ H _ I h) fun v s1 ⟨x,H1,I1,r1,q1⟩=>test_link (thn (hb pins s1 σ H1 _ I1 q1) fun u s2 ⟨y,H2,I2,r2,q2⟩=>
  thn (ho pins s2 σ H2 x y v u _ I2 r1 r2 q2) fun d s3 ⟨z,H3,I3,r3,k,e,q3⟩=>?_)) hm
 subst e
 cases r3
 refine Xd ?_
 cases k with
 | false=>
  obtain⟨k',e',q'⟩:=q3
  cases e'
  exact ite_ff ⟨H3,I3,q'⟩
 | true=>
  refine ite_tt (test_last (thn (hc pins s3 σ H3 _ I3 q3) fun w' s4 ⟨z',H4,I4,r4,q4⟩=>thn (ho' pins s4 σ H4 y z' u w' _ I4 r2 r4 q4) fun d' s5 ⟨z2,H5,I5,r5,k2,e2,q5⟩=>?_))
  subst e2
  cases r5
  exact Xd ⟨H5,I5,q5⟩
theorem qO:(sizeLine:Nat)<2 ^ 63:=by rw[sizeLine_eq];decide
theorem vals1 {x:V}{us:List Value}(r:Vals [x] us):∃u,us= [u]/\RelV x u:=by
 cases r with
 |cons r1 r2=>cases r2;exact⟨_,rfl,r1⟩
theorem vals2 {x y:V}{us:List Value}(r:Vals [x,y] us):∃u w',us= [u,w']/\RelV x u/\RelV y w':=by
 cases r with
 | cons r1 r2=>
  cases r2 with
  |cons r3 r4=>cases r4;exact⟨_,_,rfl,r1,r3⟩
theorem vX (hc:X.calm=true):CallR X (.builtin "max") (fun xs H Q=>∃i j,xs= [.int i,.int j]/\Q (.int (if j > i then j else i)) H):=by
 intro pins s σ H xs us Q I r h
 obtain⟨i,j,rfl,q⟩:=h
 obtain⟨u,w',rfl,⟨t,rfl⟩,⟨t',rfl⟩⟩:=vals2 r
 refine max_two_ints (I.ok.hd hc) fun h' tk k=>⟨_,H,I.kept k,?_,q⟩
 by_cases hj:j > i
 ·rw[if_pos hj,if_pos hj];exact⟨_,rfl⟩
 ·rw[if_neg hj,if_neg hj];exact⟨_,rfl⟩
theorem vY:CallR X (.type "int") (fun xs H Q=>(∃i,xs= [.int i]/\Q (.int i) H)\/∃k,xs= [.bl k]/\Q (.int (if k then 1 else 0)) H):=by
 intro pins s σ H xs us Q I r h
 rcases h with ⟨i,rfl,q⟩ | ⟨k,rfl,q⟩
 ·obtain⟨u,rfl,t,rfl⟩:=vals1 r
  exact call_int_int ⟨.int i,H,I,⟨_,rfl⟩,q⟩
 ·obtain⟨u,rfl,r1⟩:=vals1 r
  cases r1
  exact call_int_bool ⟨.int (if k then 1 else 0),H,I.tok _,⟨_,rfl⟩,q⟩
end
end L2
namespace L2
open PySem PySem.Spec PyProof.Rows
structure ObjM (h:Heap)(x dx C:Addr)(mA:Str->Option Value):Prop where
 obj:h.get? x=some (W.instObj C dx)
 ns:h.Ns1 dx mA
 ne:dx≠x
theorem uW {h:Heap}{dx:Addr}{mA:Str->Option Value}(n:h.Ns1 dx mA):∃od,h.get? dx=some od/\∀name,W.lookIn name od=some (mA name):=by
 obtain⟨o,es,ep,ho,hd,hk,_,hm⟩:=n
 refine⟨o,ho,fun name=>?_⟩
 have e:=hm name
 unfold nsFind findBy at e
 rw[<-Array.find?_toList]at e
 unfold W.lookIn
 rw[hd]
 dsimp only
 split
 ·rename_i y q
  rw[q]at e
  exact YF some e
 ·rename_i q
  rw[q]at e
  have a:es.toList.any (·.refKey)=false:=by
   rw[List.any_eq_false]
   intro y hy
   obtain⟨z,t,hkey⟩:=hk y (Array.mem_toList_iff.mp hy)
   simp[DictEntry.refKey,hkey]
  have a':¬ es.toList.any (·.refKey)=true:=by rw[a];exact Yn
  rw[if_neg a']
  exact YF some e
theorem ObjM.look {h:Heap}{x dx C:Addr}{mA:Str->Option Value}(I:ObjM h x dx C mA):∃od,W.InstAt h x (W.instObj C dx) C (some od)/\∀name,W.lookIn name od=some (mA name):=
 let ⟨od,ho,hl⟩:=uW I.ns
 ⟨od,⟨I.obj,rfl,rfl,ho⟩,hl⟩
section
variable {prog:Program}{w:World}{A:Around}{E:Value->Shared->Prop}{s:Shared}{K:W.Frag}{x dx C f:Addr}{mA:Str->Option Value}{name:Str}{v:Value}
theorem a2F {expr:Bool}{Q:Value->Shared->Prop}(X:K.In s.heap)(I:ObjM s.heap x dx C mA)(hg:W.plainGet K C name=true)(hh:W.hasDictIn K C=true)
  (ha:W.findIn K (.ref C) name=some none) (hv:mA name=some v) (hv':W.handedIn v=true) (h:Q v { s with toks:=s.toks+1 }) :
  wpAny (model prog w) A (getAttr (.ref x) name expr) Q E s:=by
 obtain⟨od,J,hl⟩:=I.look
 exact W.get_value X J (W.plainGet_of hg).1 (W.findObj_own hh ha rfl (by rw[hl,hv])) hv' h
theorem zK {pl:Sem Bool}{Q:Value×List Value->Shared->Prop}(X:K.In s.heap)(I:ObjM s.heap x dx C mA)(hg:W.plainGet K C name=true)
  (hf:W.findIn K (.ref C) name=some (some (.ref f))) (ht:W.isFn K (.ref f)=true) (hv:mA name=none) (h:Q (.ref f, [.ref x]) s) :
  wpAny (model prog w) A (getMethod (.ref x) name pl) Q E s:=by
 obtain⟨od,J,hl⟩:=I.look
 exact W.method_fn X J (W.plainGet_of hg).1 (W.plainGet_of hg).2 hf (XF.mp ht) (by show (W.lookIn name od).map (·.isSome)=some false;rw[hl,hv];rfl) h
theorem a0Y {ns:List Str}{Q:Unit->Shared->Prop}(X:K.In s.heap)(I:ObjM s.heap x dx C mA)
  (hs:W.findIn K (.ref C) "__setattr__"=some (some (.builtin "object.__setattr__"))) (hp:W.plainOver K C=true) (ht:W.takerIn K C name=some none) (hh:W.hasDictIn K C=true)
  (hw:PySem.Within mA ns) (hsz:ns.length<=sizeLine)
  (h:∀h',ObjM h' x dx C (fun y=>if y=name then some v else mA y)->Heap.SameBut dx s.heap h'->Q () { s with heap:=h',toks:=s.toks+2 }) :
  wpAny (model prog w) A (setAttr (.ref x) name v) Q E s:=by
 obtain⟨od,J,hl⟩:=I.look
 refine W.set_plain X J hs (W.osa_open (s:={ s with toks:=s.toks+1 }) (r:=none) X J hp ht fun b=>?_)
 obtain⟨cd,hc,hd'⟩:=W.any_some hh
 have hx:s.heap.get? x=some ⟨.ref C,some dx,.plain, #[]⟩:=I.obj
 refine YC (Y9 (YC (YC (wpAny_loadPart hx (YC (W.Looks.here (s:={ s with toks:=s.toks+1 }) (W.looks_clsIn X hc) ?_))))))
 rw[hd']
 refine Y9 (a:=some dx) (YC (Y9 (YC ?_)))
 refine wpAny_nsSet1 (s:={ s with toks:=s.toks+1 }) I.ns fun h' hn2 hs2=>?_
 obtain⟨oD,esD,epD,hoD,hdD,hcD⟩:=hn2.count (PySem.Within.cons name v hw)
 refine YC (wpAny_lookBehind hoD (by rw[hdD];exact pastItsLine_dict (Y4 hcD (by rw[YW];omega))) ?_)
 exact Y9 (h _ ⟨(hs2.2 _ (Ne.symm I.ne)).trans I.obj,hn2,I.ne⟩ hs2)
theorem yM {R:Result->Shared->Prop}{vs:List Value}{kw:List (Str×Value)}(X:K.In s.heap)(hm:W.makesIn K C=true)
  (hi:W.findIn K (.ref C) "__init__"=some (some (.ref f))) (hf:W.typeIn K (.ref f)=some (.type "function"))
  (h :codeAny (model prog w) (A.under (.builtin "type.__call__" ⟨.ref C::vs,kw⟩)) (.call (.ref f) ⟨.ref (s.heap.objs.size+1)::vs,kw⟩) (W.InitBack (s.heap.objs.size+1) R)
   { s with heap:=(s.heap.push W.emptyDict).push (W.instObj C s.heap.objs.size) }) :
  codeAny (model prog w) A (.call (.ref C) ⟨vs,kw⟩) R s:=by
 obtain⟨hh,g,d,t,os⟩:=s
 exact W.make_core (W.makes_of X hm) (W.looks_findIn X hi) (fun self=>W.bind_fn X self hf) (.inl rfl) h
theorem uT {R:Result->Shared->Prop}(X:K.In s.heap)(hm:W.makesIn K C=true)
  (hi:W.findIn K (.ref C) "__init__"=some (some (.builtin "object.__init__")))
  (hb:∀self,W.Looks (model prog w) s.heap (bindSpecial (.builtin "object.__init__") self) (.builtin "object.__init__", [self]))
  (h :codeAny (model prog w) (A.under (.builtin "type.__call__" ⟨[.ref C], []⟩)) (.call (.builtin "object.__init__") ⟨[.ref (s.heap.objs.size+1)], []⟩) (W.InitBack (s.heap.objs.size+1) R)
   { s with heap:=(s.heap.push W.emptyDict).push (W.instObj C s.heap.objs.size) }) :
  codeAny (model prog w) A (.call (.ref C) ⟨[], []⟩) R s:=by
 obtain⟨hh,g,d,t,os⟩:=s
 exact W.make_core (W.makes_of X hm) (W.looks_findIn X hi) hb (.inr ⟨rfl,rfl⟩) h
end
def putF (f:Str)(v:V):List (Str×V)->List (Str×V)
 |[]=>[(f,v)]
 |(g,x)::r=>if g=f then (g,v)::r else (g,x)::putF f v r
theorem iM (f g:Str)(v:V):∀fs:List (Str×V),(putF f v fs).lookup g=if g=f then some v else fs.lookup g
 | [] =>by
  show List.lookup g [(f,v)]=_
  by_cases h:g=f
  ·have hb:(g == f)=true:=XF.mpr h
   simp only[List.lookup,hb,if_pos h]
  ·have hb:(g == f)=false:=XM.mpr h
   simp only[List.lookup,hb,if_neg h]
 | (k, x)::r=>by
  have ih:=iM f g v r
  rw[show putF f v ((k,x)::r)=(if k=f then (k,v)::r else (k,x)::putF f v r) from rfl]
  by_cases hk:k=f
  ·rw [if_pos hk]
   by_cases h:g=k
   ·have hb:(g == k)=true:=XF.mpr h
    simp only[List.lookup,hb,if_pos (h.trans hk)]
   ·have hb:(g == k)=false:=XM.mpr h
    simp only[List.lookup,hb,if_neg (fun e:g=f=>h (e.trans hk.symm))]
  ·rw [if_neg hk]
   by_cases h:g=k
   ·have hb:(g == k)=true:=XF.mpr h
    simp only[List.lookup,hb,if_neg (fun e:g=f=>hk (h.symm.trans e))]
   ·have hb:(g == k)=false:=XM.mpr h
    simp only[List.lookup,hb]
    exact ih
theorem iI (f:Str)(v:V):∀fs:List (Str×V),f∈(putF f v fs).map (·.1)/\∀g,g∈fs.map (·.1)->g∈(putF f v fs).map (·.1)
 |[]=>⟨by simp[putF],fun g h=>by simp at h⟩
 | (k, x)::r=>by
  obtain⟨i1,i2⟩:=iI f v r
  rw[show putF f v ((k,x)::r)=(if k=f then (k,v)::r else (k,x)::putF f v r) from rfl]
  by_cases hk:k=f
  ·rw[if_pos hk]
   subst hk
   exact⟨by simp,fun g h=>by simpa using h⟩
  ·rw [if_neg hk]
   refine⟨?_,fun g h=>?_⟩
   ·rw[YE]
    exact Yv _ i1
   ·rw[YE]at h ⊢
    rcases YK.mp h with e | e
    ·exact YK.mpr (.inl e)
    ·exact Yv _ (i2 g e)
theorem iR (f:Str)(v:V):∀fs:List (Str×V),(putF f v fs).length<=fs.length+1
 |[]=>by simp[putF]
 | (k,x)::r=>by
  have ih:=iR f v r
  rw[show putF f v ((k,x)::r)=(if k=f then (k,v)::r else (k,x)::putF f v r) from rfl]
  by_cases hk:k=f
  ·rw[if_pos hk,YW,YW];omega
  ·rw[if_neg hk,YW,YW];omega
theorem RelO.some_of {v:V}{o:Option Value}(r:RelO (some v) o):∃u,o=some u/\RelV v u:=by
 cases o with
 |none=>exact(show False from r).elim
 |some u=>exact⟨u,rfl,r⟩
theorem RelO.none_of {o:Option Value}(r:RelO none o):o=none:=by
 cases o with
 |none=>rfl
 |some u=>exact(show False from r).elim
theorem vL {v:V}{u:Value}(r:RelV v u):W.handedIn u=true:=by
 cases v with
 |non=>cases (show u=Value.none from r);rfl
 |bl b=>cases (show u=Value.bool b from r);rfl
 |int i=>obtain⟨t,e⟩:=(show ∃t,u=Value.int i t from r);cases e;rfl
 |str x=>obtain⟨t,e⟩:=(show ∃t,u=Value.str x t from r);cases e;rfl
 |byt b=>obtain⟨t,e⟩:=(show ∃t,u=Value.bytes b t from r);cases e;rfl
 |flt b=>obtain⟨t,e⟩:=(show ∃t,u=Value.float b t from r);cases e;rfl
 |ref a=>cases (show u=Value.ref a from r);rfl
 |ty n=>cases (show u=Value.type n from r);rfl
section
variable {P:Program}{w:World}{H H':Hp}{h h':Heap}{a C dx:Addr}{fs fs':List (Str×V)}
theorem nC (hok:HOk P w H h)(e:H a=some (.ins C dx fs)):∃mA,ObjM h a dx C mA/\(∀f,RelO (fs.lookup f) (mA f))/\PySem.Within mA (fs.map (·.1))/\fs.length<=1000/\H dx=some (.own a):=by
 obtain⟨d,z,ne,ob,mA,n,r,q⟩:=(show ObjOk P w H h a (.ins C dx fs) from hok a _ e)
 exact⟨mA,⟨ob,n,ne⟩,r,q,z,d⟩
end
structure Cls (K:W.Frag)(C:Addr):Prop where
 pg:W.plainGet K C Str.empty=true
 hd:W.hasDictIn K C=true
 po:W.plainOver K C=true
 sa:W.findIn K (.ref C) "__setattr__"=some (some (.builtin "object.__setattr__"))
theorem Cls.get {K:W.Frag}{C:Addr}(c:Cls K C)(f:Str):W.plainGet K C f=true:=c.pg
def NoAttr (K:W.Frag)(C:Addr)(f:Str):Prop:=W.findIn K (.ref C) f=some none
theorem NoAttr.taker {K:W.Frag}{C:Addr}{f:Str}(n:NoAttr K C f):W.takerIn K C f=some none:=by
 unfold W.takerIn
 rw[show W.findIn K (.ref C) f=some none from n]
 rfl
structure Con (K:W.Frag)(C:Addr)(f:Str)(v:V)(u:Value):Prop where
 at_:W.findIn K (.ref C) f=some (some u)
 rel:RelV v u
 get:W.specialIn K u "__get__"=some none
 cp:W.copiedNames.contains f=false
structure Meth (K:W.Frag)(C:Addr)(m:Str)(f:Addr):Prop where
 at_:W.findIn K (.ref C) m=some (some (.ref f))
 fn:W.isFn K (.ref f)=true
 kp:W.keepIn K (.ref f)=true
section
variable {X:Cx}{pins:List (Addr×Obj)}{σ:St}{H:Hp}{s:Shared}{a C dx:Addr}{fs:List (Str×V)}{f:Str}{v:V}{A:Around}{E:Value->Shared->Prop}
theorem qX {b:Bool}{Q:Value->Shared->Prop}(I:Inv X pins σ H s)(e:H a=some (.ins C dx fs))(c:Cls X.K C)(n:NoAttr X.K C f)(l:fs.lookup f=some v)
  (h:∀u s',Inv X pins σ H s'->RelV v u->Q u s'):wpAny (model X.prog X.w) A (getAttr (.ref a) f b) Q E s:=by
 obtain⟨mA,O,r,_,_,_⟩:=nC I.hok e
 obtain⟨u,hu,ru⟩:=RelO.some_of (v:=v) (o:=mA f) (by rw[<-l];exact r f)
 exact a2F I.kIn O (c.get f) c.hd n hu (vL ru) (h u _ (I.tok _) ru)
theorem cP {m:Str}{g:Addr}{pl:Sem Bool}{Q:Value×List Value->Shared->Prop}(I:Inv X pins σ H s)(e:H a=some (.ins C dx fs))(c:Cls X.K C)(k:Meth X.K C m g)(l:fs.lookup m=none)
  (h:Q (.ref g, [.ref a]) s):wpAny (model X.prog X.w) A (getMethod (.ref a) m pl) Q E s:=by
 obtain⟨mA,O,r,_,_,_⟩:=nC I.hok e
 have hn:mA m=none:=RelO.none_of (by rw[<-l];exact r m)
 exact zK I.kIn O (c.get m) k.at_ k.fn hn h
theorem qI {y:V}{u:Value}{Q:Unit->Shared->Prop}(I:Inv X pins σ H s)(e:H a=some (.ins C dx fs))(c:Cls X.K C)(n:NoAttr X.K C f)(hl:fs.length<1000)(ry:RelV y u)
  (h:∀s',Inv X pins σ (upd H a (.ins C dx (putF f y fs))) s'->Q () s'):wpAny (model X.prog X.w) A (setAttr (.ref a) f u) Q E s:=by
 obtain⟨mA,O,r,wi,_,ho⟩:=nC I.hok e
 have hz:(fs.map (·.1)).length<=sizeLine:=by rw[Ya,sizeLine_eq];omega
 refine a0Y I.kIn O c.sa c.po n.taker c.hd wi hz fun h' O' sb=>h _ ?_
 have hd:∃o,h'.get? dx=some o:=let ⟨o,_,_,e',_⟩:=O'.ns;⟨o,e'⟩
 refine I.write (x:=a) (e:=dx) (by rw[e];exact True.intro) (.inr ho) (fun b q hb z=>(sb.2 b hb).trans z) hd ?_
 refine⟨by rw[aL O.ne];exact ho,?_,O.ne,O'.obj,_,O'.ns,fun g=>?_,fun g hg=>?_⟩
 ·have:=iR f y fs;omega
 ·show RelO ((putF f y fs).lookup g) (if g=f then some u else mA g)
  rw[iM]
  by_cases q:g=f
  ·rw[if_pos q,if_pos q];exact ry
  ·rw[if_neg q,if_neg q];exact r g
 ·by_cases q:g=f
  ·rw[q];exact(iI f y fs).1
  ·refine(iI f y fs).2 g (wi g fun z=>hg ?_)
   show (if g=f then some u else mA g)=none
   rw[if_neg q];exact z
theorem Inv.made (I:Inv X pins σ H s):Inv X pins σ (upd (upd H s.heap.objs.size (.own (s.heap.objs.size+1))) (s.heap.objs.size+1) (.ins C s.heap.objs.size []))
  { s with heap:=(s.heap.push W.emptyDict).push (W.instObj C s.heap.objs.size) }:=by
 have e1:(s.heap.push W.emptyDict).get? s.heap.objs.size=some W.emptyDict:=YL s.heap rfl
 have e2:((s.heap.push W.emptyDict).push (W.instObj C s.heap.objs.size)).get? (s.heap.objs.size+1)=some (W.instObj C s.heap.objs.size):=by
  have:=YL (s.heap.push W.emptyDict) (o:=W.instObj C s.heap.objs.size) rfl
  rwa [Heap.size_push]at this
 have e3:(s.heap.push W.emptyDict).Ns s.heap.objs.size (fun _=>none):=⟨W.emptyDict, #[],_,e1,rfl,(fun e he=>absurd he (by simp)),fun _=>rfl⟩
 have I1:=I.laid (a:=s.heap.objs.size) (o:= .own (s.heap.objs.size+1)) (h':=s.heap.push W.emptyDict) (t':=s.toks) (fun b u q=>Yr _ q) (Yd _) ⟨_,e1⟩
 refine I1.laid (a:=s.heap.objs.size+1) (o:= .ins C s.heap.objs.size []) (t':=s.toks) (fun b u q=>Yr _ q) (Nat.le_of_eq (Heap.size_push _ _)) ?_
 have ne:s.heap.objs.size≠s.heap.objs.size+1:=YO (Xf _)
 refine⟨by rw[aL ne,aB],Xx _,ne,e2,fun _=>none,(Heap.Ns1.of_empty e3).at fun o q=>Yr _ q,fun _=>True.intro,fun y hy=>absurd rfl hy⟩
theorem a2S {prog:Program}{w:World}{env:Env}{e:Expr}{f:Str}{pos:Pos}{s:Shared}{Q:Value->Shared->Prop}(hb:attributeBase e f env (eval e env)=eval e env)
  (h:wpAny (model prog w) A (eval e env) (fun o s₁=>wpAny (model prog w) A (getAttr o f true) Q E s₁) E s):wpAny (model prog w) A (eval (.Attribute e f pos) env) Q E s:=
 Attribute_any_ h (by rw[arm_eval_Attribute,hb])
end
def tFld (K:W.Frag)(ta:TE)(f:Str):TE:=fun σ H Q=>ta σ H fun x H1=>∃a C dx fs v,x= .ref a/\H1 a=some (.ins C dx fs)/\Cls K C/\NoAttr K C f/\fs.lookup f=some v/\Q v H1
def sFld (K:W.Frag)(ta tv:TE)(f:Str):TS:=fun D σ H=>tv σ H fun y H1=>ta σ H1 fun x H2=>∃a C dx fs,x= .ref a/\H2 a=some (.ins C dx fs)/\Cls K C/\NoAttr K C f/\fs.length<1000/\
 D.nx σ (upd H2 a (.ins C dx (putF f y fs)))
section
variable {X:Cx}{o e value:Expr}{f:Str}{pos pos' tpos:Pos}{ta tv:TE}
theorem xO (he:PE X e ta)(hb:attributeBase e f X.env (eval e X.env)=eval e X.env):PE X (.Attribute e f pos) (tFld X.K ta f):=by
 intro pins s σ H Q I h
 refine a2S hb (thn (he pins s σ H _ I h) fun u s1 hz9=>?_)
 obtain⟨x,H1,I1,rx,a,C,dx,fs,v,ex,ea,c,n,l,q⟩:=hz9
 subst ex
 obtain rfl:u=Value.ref a:=rx
 exact qX I1 ea c n l fun u' s2 I2 ru=>⟨v,H1,I2,ru,q⟩
theorem xH (ha:PE X o ta)(hv:PE X value tv)(hs:swapsWith value (some (.Attribute o f pos')) pos.line X.env=pure false):PS X (.Assign [.Attribute o f pos'] value pos) (sFld X.K ta tv f):=by
 intro pins s σ H D I h
 refine plainObj_wpAny_Assign_Attribute (thn (hv pins s σ H _ I h) fun u s1 ⟨y,H1,I1,ry,q⟩=>thn (ha pins s1 σ H1 _ I1 q) fun ov s2 ⟨x,H2,I2,rx,a,C,dx,fs,ex,ea,c,n,l,q2⟩=>?_) hs
 subst ex
 obtain rfl:ov=Value.ref a:=rx
 exact qI I2 ea c n l ry fun s3 I3=>⟨σ,_,I3,q2⟩
theorem a3D {pl:Sem Bool}{m:Str}{apos:Pos}{args:List Expr}{pins:List (Addr×Obj)}{s:Shared}{σ:St}{H:Hp}{Q:Value->Shared->Prop}{te:TE}(he:PE X e te)(I:Inv X pins σ H s)
  (h :te σ H fun x H1=>∃a C dx fs g,x= .ref a/\H1 a=some (.ins C dx fs)/\Cls X.K C/\Meth X.K C m g/\fs.lookup m=none/\
   ∀s1,Inv X pins σ H1 s1->wpAny (model X.prog X.w) X.A (callWith pos (.ref g) [.ref a] (backTo pos (starEach args X.env)) (backToKw pos (keywordEach [] X.env))) Q X.xe s1)
  (ht:eval (.Call (.Attribute e m apos) args [] pos) X.env=(do
   let ov<-eval e X.env
   standAt apos.atName
   let (f,first)<-holding [ov] (getMethod ov m pl)
   callWith pos f first (backTo pos (starEach args X.env)) (backToKw pos (keywordEach [] X.env)))) :
  wpAny (model X.prog X.w) X.A (eval (.Call (.Attribute e m apos) args [] pos) X.env) Q X.xe s:=by
 refine Xr (pl:=pl) (thn (he pins s σ H _ I h) fun u s1 hz9=>?_) ht
 obtain⟨x,H1,I1,rx,a,C,dx,fs,g,ex,ea,c,k,l,q⟩:=hz9
 subst ex
 obtain rfl:u=Value.ref a:=rx
 exact cP I1 ea c k l (q s1 I1)
end
section
variable {X:Cx}{pins:List (Addr×Obj)}{σ:St}{H:Hp}{s:Shared}{A:Around}{E:Value->Shared->Prop}{Q:Value->Shared->Prop}{c:Value}{b:Bool}
inductive TyOf (K:W.Frag)(H:Hp):V->Value->Prop where
  |non:TyOf K H .non (.type "NoneType")
  |bl (x:Bool):TyOf K H (.bl x) (.type "bool")
  |int (i:Int):TyOf K H (.int i) (.type "int")
  |str (x:Str):TyOf K H (.str x) (.type "str")
  |flt (x:UInt64):TyOf K H (.flt x) (.type "float")
  |lst {a:Addr} {xs:List V} (e:H a=some (.lst xs)):TyOf K H (.ref a) (.type "list")
  |frz {a:Addr} {o:Obj} {xs:List V} (e:H a=some (.frz o (.lst xs))):TyOf K H (.ref a) (.type "list")
  |tup {a:Addr} {xs:List V} (e:H a=some (.tup xs)):TyOf K H (.ref a) (.type "tuple")
  |dK {a:Addr} {kvs:List (Key×V)} (e:H a=some (.dK kvs)):TyOf K H (.ref a) (.type "dict")
  |dT {a:Addr} {kvs:List (List Key×V)} (e:H a=some (.dT kvs)):TyOf K H (.ref a) (.type "dict")
  | ins {a C dx:Addr} {fs:List (Str×V)} (e:H a=some (.ins C dx fs)) (cl:Cls K C) (ha:W.findIn K (.ref C) "__class__"=some (some (.builtin "object.__class__")))
      (hn:W.specialIn K (.builtin "object.__class__") "__get__"=some (some (.builtin "getset_descriptor.__get__"))) (htk:W.takesIn K (.builtin "object.__class__")=some true)
      (hm:W.mroIn K C (.type "object")=some true):TyOf K H (.ref a) (.ref C)
end
end L2
namespace L2
open PySem PySem.Spec PyProof.Rows
structure Room (k:Nat)(A:Around):Prop where
 hd:A.handled=none
 dp:A.depth+3*k+5<recursionLimit
 un:A.units+16*k+200<cLine
theorem Room.mono {j k:Nat}{A:Around}(r:Room k A)(h:j<=k):Room j A:=⟨r.hd,by have:=r.dp;omega,by have:=r.un;omega⟩
theorem Room.deeper {k:Nat}{A:Around}(r:Room (k+1) A)(env:Env):Room k (A.deeper env):=
 ⟨r.hd,by have:=r.dp;show A.depth+1+3*k+5<_;omega,by have:=r.un;show A.units+3+16*k+200<_;omega⟩
theorem qN {A:Around}{C:Addr}{us:List Value}{kw:List (Str×Value)}:(A.under (.builtin "type.__call__" ⟨.ref C::us,kw⟩)).depth=A.depth+1:=by
 first | rfl | simp[Around.under,Code.weight,Code.isCreation,Code.isGuard,Code.isCaller,Code.frames,Code.isFrame,guardIds]
theorem qM {A:Around}{C:Addr}{us:List Value}{kw:List (Str×Value)}:(A.under (.builtin "type.__call__" ⟨.ref C::us,kw⟩)).units=A.units+1:=by
 first | rfl | simp[Around.under,Code.cUnits,Code.frames,Code.isFrame]
theorem Room.make {k:Nat}{A:Around}(r:Room (k+1) A)(C:Addr)(us:List Value)(kw:List (Str×Value)):Room k (A.under (.builtin "type.__call__" ⟨.ref C::us,kw⟩)):=
 ⟨r.hd,by have:=r.dp;rw[qN];omega,by have:=r.un;rw[qM];omega⟩
theorem Room.depth {k:Nat}{A:Around}(r:Room k A):A.depth<recursionLimit:=by have:=r.dp;omega
theorem Room.units {k:Nat}{A:Around}(r:Room k A):A.units+64<cLine:=by have:=r.un;omega
def tNil:TA:=fun _ H Q=>Q [] H
def tCons (ta:TE)(tr:TA):TA:=fun σ H Q=>ta σ H fun x H1=>tr σ H1 fun xs H2=>Q (x::xs) H2
section
variable {X:Cx}{e:Expr}{es:List Expr}{te:TE}{t:TA}{pos:Pos}
theorem aD:PA X [] tNil:=fun _ _ _ _ H Q I h=>Calls.spliced_nil ⟨[],H,I,.nil,h⟩
theorem aA (ha:PE X e te)(hr:PA X es t)(hs:starEach (e::es) X.env=(false,eval e X.env)::starEach es X.env:=by rfl):PA X (e::es) (tCons te t):=by
 intro pos pins s σ H Q I h
 rw[hs]
 show wpAny _ _ (spliced ((false,eval e X.env)::backTo pos (starEach es X.env))) _ _ s
 refine Calls.spliced_cons (thn (ha pins s σ H _ I h) fun u s1 hz9=>?_)
 obtain⟨x,H1,I1,r1,q1⟩:=hz9
 exact thn (hr pos pins s1 σ H1 _ I1 q1) fun us s2 ⟨xs,H2,I2,r2,q2⟩=>⟨x::xs,H2,I2,.cons r1 r2,q2⟩
def tTup (t:TA):TE:=fun σ H Q=>t σ H fun xs H1=>xs.length<=sizeLine/\∀p,H1 p=none->Q (.ref p) (upd H1 p (.tup xs))
def tLst (t:TA):TE:=fun σ H Q=>t σ H fun xs H1=>xs.length<=sizeLine/\∀p,H1 p=none->Q (.ref p) (upd H1 p (.lst xs))
theorem bQ {x1}(h:PA X es t):PE X (.Tuple es x1 pos) (tTup t):=by
 intro pins s σ H Q I hq
 refine wpAny_Tuple_spliced (thn (h pos pins s σ H _ I hq) fun us s1 ⟨xs,H1,I1,r,z,q⟩=>⟨by rw[<-r.length];exact z,?_⟩)
 have hf:H1 s1.heap.objs.size=none:=I1.hok.fresh (Yd _)
 refine⟨.ref s1.heap.objs.size,upd H1 s1.heap.objs.size (.tup xs),I1.laid (t':=s1.toks) (fun b u e=>Yr _ e) (Yd _) ?_,rfl,q _ hf⟩
 exact⟨z,us,r,⟨_,YL _ rfl,rfl,_,rfl⟩⟩
theorem bN (h:PA X es t):PE X (.List es pos) (tLst t):=by
 intro pins s σ H Q I hq
 refine wpAny_List_spliced (thn (h pos pins s σ H _ I hq) fun us s1 ⟨xs,H1,I1,r,z,q⟩=>⟨by rw[<-r.length];exact z,?_⟩)
 have hf:H1 s1.heap.objs.size=none:=I1.hok.fresh (Yd _)
 refine⟨.ref s1.heap.objs.size,upd H1 s1.heap.objs.size (.lst xs),I1.laid (t':=s1.toks) (fun b u e=>Yr _ e) (Yd _) ?_,rfl,q _ hf⟩
 exact⟨z,us,0,r,YL _ rfl⟩
end
abbrev Sp:=List V->Hp->VK->XK->Prop
abbrev CXT:=List Env->Hp->Shared->XK->Value->Shared->Prop
structure Env0 (P:Program)(w:World)(K:W.Frag)(mg:Str->Option Value)(base:Heap)(A:Around)(outer:List Env)(s:Shared)(H:Hp):Prop where
 frames:A.frames=some outer
 mod:Mod K mg base
 bs:∀b o,base.get? b=some o->s.heap.get? b=some o/\H b=none
 bsz:base.objs.size<=s.heap.objs.size
 funs:s.heap.FunFrames base outer
 frf:∀b∈frs outer,H b=none
 hok:HOk P w H s.heap
 bare:AllBare s.gens
def CE (outer:List Env)(P:Program)(w:World)(H:Hp)(s:Shared)(Q:VK)(u:Value)(s':Shared):Prop:=
 ∃v H',s'.os=s.os/\AllBare s'.gens/\Un (frs outer) [] H H' s.heap s'.heap/\HOk P w H' s'.heap/\RelV v u/\Q v H'
def CR (CX:CXT)(outer:List Env)(P:Program)(w:World)(H:Hp)(s:Shared)(Q:VK)(E:XK)(r:Result)(s':Shared):Prop:=
 match r with
 |.ok (.ret u)=>CE outer P w H s Q u s'
 |.ok _=>False
 |.error e=>CX outer H s E e s'
structure FnOk (P:Program)(w:World)(K:W.Frag)(mg:Str->Option Value)(base:Heap)(CX:CXT)(k:Nat)(f:Addr)(fd:FuncData)(ps:List Str)(sp:Sp):Prop where
 len:∀vs H Q E,sp vs H Q E->vs.length=ps.length
 run:∀(A:Around)(outer:List Env)(s:Shared)(H:Hp)(args:Args)(us:List Value)(vs:List V)(Q:VK)(E:XK),Room k A->Env0 P w K mg base A outer s H->BindsTo s fd args (ps.zip us)->Vals vs us->sp vs H Q E->
  codeAny (model P w) A (.call (.ref f) args) (CR CX outer P w H s Q E) s
theorem FnOk.mono {P:Program}{w:World}{K:W.Frag}{mg:Str->Option Value}{base:Heap}{CX:CXT}{j k:Nat}{f:Addr}{fd:FuncData}{ps:List Str}{sp:Sp}(F:FnOk P w K mg base CX j f fd ps sp)(h:j<=k) :
  FnOk P w K mg base CX k f fd ps sp:=⟨F.len,fun A outer s H args us vs Q E hr=>F.run A outer s H args us vs Q E (hr.mono h)⟩
theorem Env0.make {P:Program}{w:World}{K:W.Frag}{mg:Str->Option Value}{base:Heap}{A:Around}{outer:List Env}{s:Shared}{H:Hp}(e:Env0 P w K mg base A outer s H)(C:Addr)(us:List Value)(kw:List (Str×Value)) :
  Env0 P w K mg base (A.under (.builtin "type.__call__" ⟨.ref C::us,kw⟩)) outer s H:=⟨by first | exact e.frames | (simpa [Around.under,Code.envs,Code.isFrame,pushEnvs] using e.frames),e.mod,e.bs,e.bsz,e.funs,e.frf,e.hok,e.bare⟩
section
variable {X:Cx}{pins:List (Addr×Obj)}{σ:St}{H:Hp}{s s':Shared}
theorem Inv.env0 (I:Inv X pins σ H s):Env0 X.prog X.w X.K X.mg X.base X.A X.stack s H:=
 ⟨I.ok.frames,I.ok.mod,I.bs,Y4 I.ok.bsz I.sz,I.stack,I.stkFree,I.hok,I.bare⟩
theorem Inv.after {Q:VK}{u:Value}(I:Inv X pins σ H s)(h:CE X.stack X.prog X.w H s Q u s'):EP X pins σ Q u s':=by
 obtain⟨v,H',os,bare,un,hok,r,q⟩:=h
 obtain⟨hh,g,d,t,os'⟩:=s'
 obtain rfl:os'=s.os:=os
 exact⟨v,H',I.call (h':=hh) (g':=g) (d':=d) (t':=t) (ch:=[]) un hok bare (fun b z=>absurd z (by simp)),r,q⟩
end
def tCall (sp:Sp)(dvs:List V)(E:XK)(t:TA):TE:=fun σ H Q=>t σ H fun vs H1=>sp (vs++dvs) H1 Q E
def tMeth (C:Addr)(m:Str)(sp:Sp)(dvs:List V)(E:XK)(ta:TE)(t:TA):TE:=fun σ H Q=>ta σ H fun x H1=>∃a dx fs,x= .ref a/\H1 a=some (.ins C dx fs)/\fs.lookup m=none/\
 t σ H1 fun vs H2=>sp (x::(vs++dvs)) H2 Q E
def tMake (C:Addr)(sp:Sp)(dvs:List V)(E:XK)(t:TA):TE:=fun σ H Q=>t σ H fun vs H1=>∀x dx,H1 x=none->H1 dx=none->dx≠x->
 sp (.ref x::(vs++dvs)) (upd (upd H1 dx (.own x)) x (.ins C dx [])) (fun v H2=>v= .non/\Q (.ref x) H2) E
def Binds (K:W.Frag)(fd:FuncData)(ps:List Str)(ds:List Value):Prop:=
 ∀(s:Shared)(us:List Value),K.In s.heap->(us++ds).length=ps.length->BindsTo s fd ⟨us, []⟩ (ps.zip (us++ds))
theorem Binds.all {K:W.Frag}{fd:FuncData}{ps:List Str}(h:∀us:List Value,us.length=ps.length->bindArgs fd ⟨us, []⟩=pure (ps.zip us)):Binds K fd ps []:=fun s us _ hl=>by
 rw[YJ]at hl ⊢
 exact .of_eq (h us hl)
def Passes (CX:CXT)(X:Cx)(E:XK):Prop:=∀(pins:List (Addr×Obj))(σ:St)(H:Hp)(s:Shared)(e:Value)(s':Shared),Inv X pins σ H s->CX X.stack H s E e s'->X.xe e s'
section
variable {X:Cx}{CX:CXT}{k:Nat}{f C:Addr}{fd:FuncData}{ps:List Str}{sp:Sp}{dvs:List V}{ds:List Value}{E:XK}{x m:Str}{p pos apos:Pos}{e o:Expr}{es:List Expr}{ta:TE}{t:TA}
theorem fM {pins:List (Addr×Obj)}{σ:St}{H:Hp}{s:Shared}{Q:VK}{us:List Value}{vs:List V}(F:FnOk X.prog X.w X.K X.mg X.base CX k f fd ps sp)(hr:Room k X.A)(hb:Binds X.K fd ps ds)(hd:Vals dvs ds)(hx:Passes CX X E)
  (I:Inv X pins σ H s) (r:Vals vs us) (h:sp (vs++dvs) H Q E):wpAny (model X.prog X.w) X.A (call (.ref f) us) (EP X pins σ Q) X.xe s:=by
 have r2:Vals (vs++dvs) (us++ds):=r.append hd
 have hl:(us++ds).length=ps.length:=by rw[<-r2.length];exact F.len _ _ _ _ h
 refine wpAny_call (Jg (F.run X.A X.stack s H ⟨us, []⟩ (us++ds) (vs++dvs) Q E hr I.env0 (hb s us I.kIn hl) r2 h) fun r s' hq=>?_)
 cases r with
 |error e=>exact hx pins σ H s e s' I hq
 | ok fl=>
  cases fl with
  |ret u=>exact I.after hq
  |next=>exact False.elim hq
  |brk=>exact False.elim hq
  |cont=>exact False.elim hq
theorem aP (F:FnOk X.prog X.w X.K X.mg X.base CX k f fd ps sp)(hr:Room k X.A)(hg:Gl X x)(hm:X.mg x=some (.ref f))(hk:W.keepIn X.K (.ref f)=true)(hb:Binds X.K fd ps ds)(hd:Vals dvs ds)(hx:Passes CX X E)
  (ha:PA X (e::es) t) (hdb:(x == ("__debug__":Str))=false:=by decide) (he:starEach (e::es) X.env=(false,eval e X.env)::starEach es X.env:=by rfl) (hpl:(backTo pos (starEach es X.env)).any (·.1)=false:=by rfl) :
  PE X (.Call (.Name x p) (e::es) [] pos) (tCall sp dvs E t):=by
 intro pins s σ H Q I h
 refine Xh (dZ I hg hm ?_ hdb)
 refine X6 (h₀:=X.base) I.ok.mod.kin hk (thn (ha pos pins s σ H _ I h) fun us s1 ⟨vs,H1,I1,r,q⟩=>⟨I1.kIn,?_⟩) he hpl
 exact fM F hr hb hd hx I1 r q
theorem oU (F:FnOk X.prog X.w X.K X.mg X.base CX k f fd ps sp)(hr:Room k X.A)(hg:Gl X x)(hm:X.mg x=some (.ref f))(hk:W.keepIn X.K (.ref f)=true)(hb:Binds X.K fd ps ds)(hd:Vals dvs ds)(hx:Passes CX X E)
  (hdb:(x == ("__debug__":Str))=false:=by decide):PE X (.Call (.Name x p) [] [] pos) (tCall sp dvs E tNil):=by
 intro pins s σ H Q I h
 refine Xh (dZ I hg hm ?_ hdb)
 exact W.callWith_K0 I.kIn hk (fM (us:=[]) F hr hb hd hx I .nil h)
theorem a1N {pl:Sem Bool}(he:PE X o ta)(c:Cls X.K C)(hm:Meth X.K C m f)(F:FnOk X.prog X.w X.K X.mg X.base CX k f fd ps sp)(hr:Room k X.A)(hb:Binds X.K fd ps ds)(hd:Vals dvs ds)(hx:Passes CX X E)(ha:PA X (e::es) t)
  (hst:starEach (e::es) X.env=(false,eval e X.env)::starEach es X.env:=by rfl) (hpl:(backTo pos (starEach es X.env)).any (·.1)=false:=by rfl)
  (ht:eval (.Call (.Attribute o m apos) (e::es) [] pos) X.env=(do
   let ov<-eval o X.env
   standAt apos.atName
   let (f,first)<-holding [ov] (getMethod ov m pl)
   callWith pos f first (backTo pos (starEach (e::es) X.env)) (backToKw pos (keywordEach [] X.env))):=by rfl) :
  PE X (.Call (.Attribute o m apos) (e::es) [] pos) (tMeth C m sp dvs E ta t):=by
 intro pins s σ H Q I h
 refine Xr (pl:=pl) (thn (he pins s σ H _ I h) fun u s1 hz9=>?_) ht
 obtain⟨x,H1,I1,rx,a,dx,fs,ex,ea,l,q⟩:=hz9
 subst ex
 obtain rfl:u=Value.ref a:=rx
 refine cP I1 ea c hm l ?_
 refine X6 (first:=[.ref a]) (h₀:=X.base) I.ok.mod.kin hm.kp (thn (ha pos pins s1 σ H1 _ I1 q) fun us s2 ⟨vs,H2,I2,r,q2⟩=>⟨I2.kIn,?_⟩) hst hpl
 exact fM (us:= .ref a::us) (vs:= .ref a::vs) F hr hb hd hx I2 (.cons rfl r) q2
theorem xM {pl:Sem Bool}(he:PE X o ta)(c:Cls X.K C)(hm:Meth X.K C m f)(F:FnOk X.prog X.w X.K X.mg X.base CX k f fd ps sp)(hr:Room k X.A)(hb:Binds X.K fd ps ds)(hd:Vals dvs ds)(hx:Passes CX X E)
  (ht:eval (.Call (.Attribute o m apos) [] [] pos) X.env=(do
   let ov<-eval o X.env
   standAt apos.atName
   let (f,first)<-holding [ov] (getMethod ov m pl)
   callWith pos f first (backTo pos (starEach [] X.env)) (backToKw pos (keywordEach [] X.env))):=by rfl) :
  PE X (.Call (.Attribute o m apos) [] [] pos) (tMeth C m sp dvs E ta tNil):=by
 intro pins s σ H Q I h
 refine Xr (pl:=pl) (thn (he pins s σ H _ I h) fun u s1 hz9=>?_) ht
 obtain⟨x,H1,I1,rx,a,dx,fs,ex,ea,l,q⟩:=hz9
 subst ex
 obtain rfl:u=Value.ref a:=rx
 refine cP I1 ea c hm l ?_
 exact W.callWith_K0 (first:=[.ref a]) I1.kIn hm.kp (fM (us:=[.ref a]) (vs:=[.ref a]) F hr hb hd hx I1 (.cons rfl .nil) q)
structure Mk (K:W.Frag)(C f:Addr):Prop where
 makes:W.makesIn K C=true
 init:W.findIn K (.ref C) "__init__"=some (some (.ref f))
 fn:W.isFn K (.ref f)=true
 kp:W.keepIn K (.ref C)=true
theorem oK {pins:List (Addr×Obj)}{σ:St}{H:Hp}{s:Shared}{Q:VK}{us:List Value}{vs:List V}(M:Mk X.K C f)(F:FnOk X.prog X.w X.K X.mg X.base CX k f fd ps sp)(hr:Room (k+1) X.A)(hb:Binds X.K fd ps ds)(hd:Vals dvs ds)
  (hx:Passes CX X E) (I:Inv X pins σ H s) (r:Vals vs us)
  (h:∀x dx,H x=none->H dx=none->dx≠x->sp (.ref x::(vs++dvs)) (upd (upd H dx (.own x)) x (.ins C dx [])) (fun v H2=>v= .non/\Q (.ref x) H2) E) :
  wpAny (model X.prog X.w) X.A (call (.ref C) us) (EP X pins σ Q) X.xe s:=by
 have hq:=h (s.heap.objs.size+1) s.heap.objs.size (I.hok.fresh (Xn _)) (I.hok.fresh (Yd _)) (YO (Xf _))
 have I2:=Inv.made (C:=C) I
 have r2:Vals (V.ref (s.heap.objs.size+1)::(vs++dvs)) (Value.ref (s.heap.objs.size+1)::(us++ds)):= .cons rfl (r.append hd)
 have hl:(Value.ref (s.heap.objs.size+1)::us++ds).length=ps.length:=by
  have e:=r2.length
  rw[F.len _ _ _ _ hq]at e
  exact e.symm
 refine wpAny_call (yM (f:=f) I.kIn M.makes M.init (XF.mp M.fn) (Jg (F.run _ X.stack _ _ ⟨Value.ref (s.heap.objs.size+1)::us, []⟩ (Value.ref (s.heap.objs.size+1)::(us++ds)) _ _ E (hr.make C us [])
  (I2.env0.make C us []) (hb _ (Value.ref (s.heap.objs.size+1)::us) I2.kIn hl) r2 hq) fun r s' hq'=>?_))
 cases r with
 |error e=>exact hx pins σ _ _ e s' I2 hq'
 | ok fl=>
  cases fl with
  | ret u=>
   obtain⟨v,H',I3,rv,ev,q3⟩:=I2.after hq'
   subst ev
   exact⟨rv,⟨V.ref (s.heap.objs.size+1),H',I3,rfl,q3⟩⟩
  |next=>exact False.elim hq'
  |brk=>exact False.elim hq'
  |cont=>exact False.elim hq'
theorem cA (M:Mk X.K C f)(F:FnOk X.prog X.w X.K X.mg X.base CX k f fd ps sp)(hr:Room (k+1) X.A)(hg:Gl X x)(hm:X.mg x=some (.ref C))(hb:Binds X.K fd ps ds)(hd:Vals dvs ds)(hx:Passes CX X E)
  (ha:PA X (e::es) t) (hdb:(x == ("__debug__":Str))=false:=by decide) (he:starEach (e::es) X.env=(false,eval e X.env)::starEach es X.env:=by rfl) (hpl:(backTo pos (starEach es X.env)).any (·.1)=false:=by rfl) :
  PE X (.Call (.Name x p) (e::es) [] pos) (tMake C sp dvs E t):=by
 intro pins s σ H Q I h
 refine Xh (dZ I hg hm ?_ hdb)
 refine X6 (h₀:=X.base) I.ok.mod.kin M.kp (thn (ha pos pins s σ H _ I h) fun us s1 ⟨vs,H1,I1,r,q⟩=>⟨I1.kIn,?_⟩) he hpl
 exact oK M F hr hb hd hx I1 r q
theorem gO (M:Mk X.K C f)(F:FnOk X.prog X.w X.K X.mg X.base CX k f fd ps sp)(hr:Room (k+1) X.A)(hg:Gl X x)(hm:X.mg x=some (.ref C))(hb:Binds X.K fd ps ds)(hd:Vals dvs ds)(hx:Passes CX X E)
  (hdb:(x == ("__debug__":Str))=false:=by decide):PE X (.Call (.Name x p) [] [] pos) (tMake C sp dvs E tNil):=by
 intro pins s σ H Q I h
 refine Xh (dZ I hg hm ?_ hdb)
 exact W.callWith_K0 I.kIn M.kp (oK (us:=[]) M F hr hb hd hx I .nil h)
end
section
variable {X:Cx}{CX:CXT}{k:Nat}{f C:Addr}{fd:FuncData}{ps ks:List Str}{sp:Sp}{E:XK}{x m:Str}{p pos apos kpos:Pos}{e o:Expr}{es:List Expr}{kws:List Keyword}{te ta:TE}{t tk:TA}{nm:Option Str}
structure KBinds (K:W.Frag)(fd:FuncData)(ps ks:List Str)(g:List Value->List Value->List Value)(gV:List V->List V->List V):Prop where
 to:∀(s:Shared)(us ws:List Value),K.In s.heap->(g us ws).length=ps.length->BindsTo s fd ⟨us,ks.zip ws⟩ (ps.zip (g us ws))
 rel:∀{vs:List V}{us:List Value}{zs:List V}{ws:List Value},Vals vs us->Vals zs ws->Vals (gV vs zs) (g us ws)
variable {g:List Value->List Value->List Value}{gV:List V->List V->List V}
end
structure FnScope (N P:List Str)(sc:Scope):Prop where
 kind:sc.kind= .function
 co:sc.isCoroutine=false
 gen:sc.isGenerator=false
 nd:N.Nodup
 pre:N.take P.length=P
 par:∀x∈P,sc.names.lookup x=some .local\/sc.names.lookup x=some .cell
 nofree:∀y∈sc.names,y.2≠ .free
theorem lZ {kindOf:Str->Option NameKind}{x:Str}:∀{binds:List (Str×Value)}{m:Str->Option Value},(∀v,(x,v)∉binds)->bindL kindOf binds m x=m x
 |[],_,_=>rfl
 | (n,v)::r,m,h=>by
  unfold bindL
  rw[lZ fun w hw=>h w (Yv _ hw)]
  split
  ·have:x≠n:=by rintro rfl;exact h v YN
   simp[this]
  ·rfl
theorem mF {kindOf:Str->Option NameKind}{x:Str}:∀{binds:List (Str×Value)}{m:Str->Option Value},(∀v,(x,v)∉binds)->bindC kindOf binds m x=m x
 |[],_,_=>rfl
 | (n,v)::r,m,h=>by
  unfold bindC
  rw[mF fun w hw=>h w (Yv _ hw)]
  split
  ·rfl
  ·have:x≠n:=by rintro rfl;exact h v YN
   simp[this]
theorem mD {kindOf:Str->Option NameKind}{x:Str}{v:Value}:∀{P:List Str}{vs:List Value}{i:Nat}{m:Str->Option Value},P.Nodup->P[i]? =some x->vs[i]? =some v->kindOf x=some .local->
  bindL kindOf (P.zip vs) m x=some v
 |[],_,_,_,_,h,_,_=>by simp at h
 |_::_, [],_,_,_,_,h,_=>by simp at h
 | p::P,w::vs,0,m,nd,h1,h2,hk=>by
  simp at h1 h2;subst h1;subst h2
  show bindL kindOf ((p,w)::P.zip vs) m p=_
  unfold bindL
  rw[lZ fun v hv=>(YS.mp nd).1 (List.of_mem_zip hv).1,if_pos hk]
  simp
 | p::P,w::vs,i+1,m,nd,h1,h2,hk=>by
  show bindL kindOf ((p,w)::P.zip vs) m x=_
  unfold bindL
  exact mD (i:=i) (YS.mp nd).2 (by simpa using h1) (by simpa using h2) hk
theorem mG {kindOf:Str->Option NameKind}{x:Str}{v:Value}:∀{P:List Str}{vs:List Value}{i:Nat}{m:Str->Option Value},P.Nodup->P[i]? =some x->vs[i]? =some v->kindOf x≠some .local->
  bindC kindOf (P.zip vs) m x=some v
 |[],_,_,_,_,h,_,_=>by simp at h
 |_::_, [],_,_,_,_,h,_=>by simp at h
 | p::P,w::vs,0,m,nd,h1,h2,hk=>by
  simp at h1 h2;subst h1;subst h2
  show bindC kindOf ((p,w)::P.zip vs) m p=_
  unfold bindC
  rw[mF fun v hv=>(YS.mp nd).1 (List.of_mem_zip hv).1,if_neg hk]
  simp
 | p::P,w::vs,i+1,m,nd,h1,h2,hk=>by
  show bindC kindOf ((p,w)::P.zip vs) m x=_
  unfold bindC
  exact mG (i:=i) (YS.mp nd).2 (by simpa using h1) (by simpa using h2) hk
def start (N:List Str)(vs:List V):St:=vs.map some++List.replicate (N.length-vs.length) none
def cxOf (CX:CXT)(P:Program)(w:World)(K:W.Frag)(mg:Str->Option Value)(base:Heap)(N:List Str)(qual:Str)(scope:Scope)(f:Addr)(cd:Value)(A:Around)(outer:List Env)(s:Shared)(H:Hp)(E:XK):Cx where
 prog:=P
 w:=w
 K:=K
 mg:=mg
 base:=base
 A:=A.deeper (envOfC qual scope s.heap.objs.size f cd)
 N:=N
 s₀:=s
 H₀:=H
 env:=envOfC qual scope s.heap.objs.size f cd
 outer:=outer
 stack:=envOfC qual scope s.heap.objs.size f cd::outer
 ex:=[]
 calm:=true
 fn:=fun _=>true
 pn:=[]
 xe:=fun e s'=>wpAny (model P w) (A.deeper (envOfC qual scope s.heap.objs.size f cd)) (leaving (envOfC qual scope s.heap.objs.size f cd) e) (fun _ s''=>CX outer H s E e s'') (fun e' s''=>CX outer H s E e' s'') s'
theorem pX {sc:Scope}{n:Nat}{x:Str}(h:sc.names.lookup x=some .cell):∃c,(cellsFrom n sc.names []).lookup x=some c:=by
 have q:=W.cellsFrom_some sc.names n [] (.inl h)
 exact Option.isSome_iff_exists.mp q
theorem vG {CX:CXT}{P:Program}{w:World}{K:W.Frag}{mg:Str->Option Value}{base:Heap}{N ps:List Str}{qual:Str}{scope:Scope}{f:Addr}{cd:Value}{A:Around}{outer:List Env}{s s1:Shared}{H:Hp}{E:XK}{us:List Value}{vs:List V}
  (S:FnScope N ps scope) (hd:A.handled=none) (e0:Env0 P w K mg base A outer s H) (hl:vs.length=ps.length) (r:Vals vs us)
  (x:InCallC s s.heap.objs.size (bindL (envOfC qual scope s.heap.objs.size f cd).kindOf (ps.zip us) fun _=>none) (cellsFrom (s.heap.objs.size+1) scope.names []) (bindC (envOfC qual scope s.heap.objs.size f cd).kindOf (ps.zip us) fun _=>none) s1) :
  Inv (cxOf CX P w K mg base N qual scope f cd A outer s H E) [] (start N vs) H s1:=by
 have hpl:ps.length<=N.length:=by have:=YF List.length S.pre;rw[Yo]at this;omega
 obtain⟨h1,tk,rfl,hk⟩:=x.done
 have noA:∀b:Addr,b∉(cxOf CX P w K mg base N qual scope f cd A outer s H E).ex:=fun b z=>absurd (show b∈([]:List Addr) from z) (by simp)
 refine⟨⟨e0.mod,S.kind,rfl,rfl,Yd _,fun y z c h1 h2=>?_,fun y hy=>?_,fun y c _ h=>?_,fun _=>hd,Around.frames_deeper e0.frames,.inr ⟨rfl,rfl⟩,fun b z=>absurd z (noA b),e0.bs,e0.bsz,fun b _ _=>noA b,fun b z=>absurd z (noA b),e0.funs,e0.frf⟩,
  rfl,e0.bare,Un.kept hk,⟨_,x.toInCall.ns,fun i y v h1 h2 h3=>?_⟩,fun y c h=>⟨_,x.cell y c h⟩,e0.hok.fresh (Yd _),fun y c h=>?_,fun p hp=>absurd (show p∈([]:List (Addr×Obj)) from hp) (by simp),e0.hok.kept hk,?_⟩
 ·exact name_of_addr x.apart (XO h1) (XO h2)
 ·have hy:scope.names.lookup y=some .cell\/scope.names.lookup y=some .free:=hy
  rcases hy with hy | hy
  ·exact pX hy
  ·exact absurd rfl (S.nofree _ (XO hy))
 ·exact Xz (x.above y c (XO h))
 ·have hi:i<vs.length:=by
   unfold start at h2
   by_cases hi:i<vs.length
   ·exact hi
   ·rw[Yz (by simpa using hi)]at h2
    rw[XU]at h2
    split at h2 <;> cases h2
  have ha:vs[i]? =some v:=by
   unfold start at h2
   rw[YH (by simpa using hi),Yj]at h2
   cases e:vs[i]? with
   |none=>rw[e]at h2;cases h2
   |some a=>rw[e]at h2;cases h2;rfl
  obtain⟨u,hu,rv⟩:=r.get ha
  have hp:ps[i]? =some y:=by
   rw[<-S.pre,XQ (by omega)];exact h1
  have ndP:ps.Nodup:=by rw[<-S.pre];exact S.nd.sublist (List.take_sublist _ _)
  refine⟨u,rv,?_⟩
  rcases S.par y (Yw hp) with k | k
  ·exact .inl ⟨k,mD ndP hp hu k⟩
  ·obtain⟨c,e⟩:=pX (n:=s.heap.objs.size+1) k
   refine .inr ⟨.inl k,c,e,?_⟩
   have q:=x.cell y c e
   rw[mG ndP hp hu (by show scope.names.lookup y≠_;rw[k];decide)]at q
   exact q
 ·exact e0.hok.fresh (Xz (x.above y c (XO h)))
 ·unfold start
  show _=N.length
  rw[Yc,Ya,YA]
  omega
theorem a3G {CX:CXT}{P:Program}{w:World}{K:W.Frag}{mg:Str->Option Value}{base:Heap}{k:Nat}{f:Addr}{name qual:Str}{params:Arguments}{body:List Stmt}{scope:Scope}{dV kV doc pm cdv ct oc:Value}{an od:Option Addr}
  {osl:Array (Option Value)} {N ps:List Str} {sp:Sp} (lk:K.lookup f=some ⟨oc,od,.func (W.fnOf name qual params body scope dV kV doc pm an cdv ct),osl⟩) (hcd:W.codeIn K cdv qual=true) (S:FnScope N ps scope)
  (len:∀vs H Q E,sp vs H Q E->vs.length=ps.length)
  (hbody:∀(A:Around)(outer:List Env)(s:Shared)(H:Hp)(vs:List V)(Q:VK)(E:XK),Room k (A.deeper (envOfC qual scope s.heap.objs.size f cdv))->sp vs H Q E->
   ∃t,PSs (cxOf CX P w K mg base N qual scope f cdv A outer s H E) body t/\t { nx:=fun _ H'=>Q .non H',rt:=Q } (start N vs) H) :
  FnOk P w K mg base CX (k+1) f (W.fnOf name qual params body scope dV kV doc pm an cdv ct) ps sp:=by
 refine⟨len,fun A outer s H args us vs Q E hr e0 hb r hsp=>?_⟩
 have hl:=len _ _ _ _ hsp
 have KX:K.In s.heap:=e0.mod.kin.keeps fun b o e=>(e0.bs b o e).1
 have lim:s.heap.NoLimit:=e0.mod.nolimit.keeps fun b o e=>(e0.bs b o e).1
 have hkind:∀y∈ps.zip us,scope.names.lookup y.1=some .local\/(scope.names.lookup y.1=some .cell/\((cellsFrom (s.heap.objs.size+1) scope.names []).lookup y.1).isSome=true):=fun ⟨n,v⟩ hy=>by
  rcases S.par n (List.of_mem_zip hy).1 with q | q
  ·exact .inl q
  ·exact .inr ⟨q,W.cellsFrom_some _ _ _ (.inl q)⟩
 refine codeAny_call_function hr.depth (KX _ _ lk) rfl S.co S.gen rfl (W.codeRec_of KX hcd) (hb _ _ _ _ ?_)
 refine wpAny_newFunctionEnv_cells S.kind hkind fun env he s1 x=>?_
 subst he
 refine⟨lim.keeps x.toInCall.keep,codeAny_func ?_⟩
 obtain⟨t,ht,hq⟩:=hbody A outer s H vs Q E (hr.deeper _) hsp
 have I:Inv (cxOf CX P w K mg base N qual scope f cdv A outer s H E) [] (start N vs) H s1:=vG S hr.hd e0 hl r x
 refine Y8 (ht [] s1 (start N vs) H _ I hq) (fun fl s' hs=>?_) fun e s' hs=>hs
 have fin:∀{σ':St}{H':Hp}{v:V}{u:Value},Inv (cxOf CX P w K mg base N qual scope f cdv A outer s H E) [] σ' H' s'->RelV v u->Q v H'->CE outer P w H s Q u s':=
  fun {σ' H' v u} J rv q=>⟨v,H',J.os,J.bare,J.base,J.hok,rv,q⟩
 cases fl with
 | ret u=>
  obtain⟨v,σ',H',J,rv,q⟩:=hs
  exact fin J rv q
 | next=>
  obtain⟨σ',H',J,q⟩:=hs
  exact fin (v:=V.non) (u:=Value.none) J rfl q
 | brk=>
  obtain⟨_,_,_,q⟩:=hs
  exact False.elim q
 | cont=>
  obtain⟨_,_,_,q⟩:=hs
  exact False.elim q
end L2
namespace L2
open PySem PySem.Spec PyProof.Rows
section
variable {X:Cx}{x:Str}{p pos:Pos}{e:Expr}{es:List Expr}{t:TA}{id T:String}{r:List V->Hp->VK->Prop}
def tCB (r:List V->Hp->VK->Prop)(t:TA):TE:=fun σ H Q=>t σ H fun vs H1=>r vs H1 Q
theorem bB (hc:CallR X (.builtin id) r)(hg:Gl X x)(hm:X.mg x=none)(hv:bootBuiltins x=some (.builtin id))(ha:PA X (e::es) t)(hn:x≠"__name__":=by decide)(hdb:(x == ("__debug__":Str))=false:=by decide)
  (he:starEach (e::es) X.env=(false,eval e X.env)::starEach es X.env:=by rfl) (hpl:(backTo pos (starEach es X.env)).any (·.1)=false:=by rfl):PE X (.Call (.Name x p) (e::es) [] pos) (tCB r t):=by
 intro pins s σ H Q I h
 refine Xh (jX I hg hm hv ?_ hn hdb)
 exact PyProof.Rows.callWith_builtin1 (thn (ha pos pins s σ H _ I h) fun us s1 ⟨vs,H1,I1,r1,q1⟩=>hc pins s1 σ H1 vs us Q I1 r1 q1) he hpl
theorem cR (hc:CallR X (.type T) r)(hg:Gl X x)(hm:X.mg x=none)(hv:bootBuiltins x=some (.type T))(ha:PA X (e::es) t)(hn:x≠"__name__":=by decide)(hdb:(x == ("__debug__":Str))=false:=by decide)
  (he:starEach (e::es) X.env=(false,eval e X.env)::starEach es X.env:=by rfl) (hpl:(backTo pos (starEach es X.env)).any (·.1)=false:=by rfl):PE X (.Call (.Name x p) (e::es) [] pos) (tCB r t):=by
 intro pins s σ H Q I h
 refine Xh (jX I hg hm hv ?_ hn hdb)
 exact XC (thn (ha pos pins s σ H _ I h) fun us s1 ⟨vs,H1,I1,r1,q1⟩=>hc pins s1 σ H1 vs us Q I1 r1 q1) he hpl
end
end L2
namespace HT
open PySem PyProof.Rows
section
open PySem.SeqAt
open PySem.AutoSeq1 (wpAny_loadPart')
open PySem.MeetsSeq PySem.MeetsSeq2 PySem.MeetsSeq3
end
section
variable {prog:Program}{w:World}{A:Around}{E:Value->Shared->Prop}{s:Shared}
def sIx (n d:Nat):Option Int->Nat
 |none=>d
 |some v=>if v<0 then (v+(n:Int)).toNat else min v.toNat n
theorem sIx_none (n d:Nat):sIx n d none=d:=rfl
theorem sIx_nat (n d k:Nat):sIx n d (some (k:Int))=min k n:=by
 show (if (k:Int)<0 then ((k:Int)+(n:Int)).toNat else min (k:Int).toNat n)=min k n
 rw[if_neg (by omega),YD]
end
end HT
namespace L2
open PySem PySem.Spec PyProof.Rows
abbrev TO:=St->Hp->(Option Int->Hp->Prop)->Prop
def PO (X:Cx)(e:Option Expr)(t:TO):Prop:=
 ∀ (pins:List (Addr×Obj))(s:Shared)(σ:St)(H:Hp)(Q:Option Int->Hp->Prop),Inv X pins σ H s->t σ H Q->
  wpAny (model X.prog X.w) X.A (evalPart e X.env) (fun u s'=>∃o H',Inv X pins σ H' s'/\IsPart u o/\Q o H') X.xe s
def tNoPart:TO:=fun _ H Q=>Q none H
def tPart (t:TE):TO:=fun σ H Q=>t σ H fun x H1=>∃i,x= .int i/\Q (some i) H1
theorem intsAre_of {ns:List Int}:∀{us:List Value},Vals (ns.map V.int) us->IntsAre us ns:=by
 induction ns with
 |nil=>intro us r;rw[List.map_nil]at r;cases r;exact .nil
 | cons n ns ih=>
  intro us r
  rw[YE]at r
  cases r with
  | cons r1 r2=>
   obtain⟨t,e⟩:=r1
   subst e
   exact .cons n t (ih r2)
section
variable {X:Cx}{e:Expr}{te:TE}{lo hi:Option Expr}{tl th:TO}{pos p2:Pos}
theorem rT:PO X none tNoPart:=by
 intro pins s σ H Q I h
 rw[evalPart_none]
 exact Y9 ⟨none,H,I,.none,h⟩
theorem a1K (h:PE X e te):PO X (some e) (tPart te):=by
 intro pins s σ H Q I hw
 rw[evalPart_some]
 refine thn (h pins s σ H _ I hw) fun u s1 hz9=>?_
 obtain⟨x,H1,I1,r1,q1⟩:=hz9
 obtain⟨i,rfl,q⟩:=q1
 obtain⟨t,rfl⟩:=r1
 exact⟨some i,H1,I1,.int i t,q⟩
def SlR (X:Cx)(r:V->Option Int->Option Int->Hp->VK->Prop):Prop:=
 ∀ (pins:List (Addr×Obj))(s:Shared)(σ:St)(H:Hp)(x:V)(v vl vu:Value)(lo hi:Option Int)(sl:Addr)(Q:VK),Inv X pins σ H s->RelV x v->s.heap.IsSliceOf sl vl vu .none->IsPart vl lo->IsPart vu hi->r x lo hi H Q->
  ∃T id,typeLookup (.type T) "__getitem__"=pure (some (.builtin id))/\s.TypeIs v T/\wpAny (model X.prog X.w) X.A (getItem v (.ref sl)) (EP X pins σ Q) X.xe s
def tSl (r:V->Option Int->Option Int->Hp->VK->Prop)(te:TE)(tl th:TO):TE:=fun σ H Q=>te σ H fun x H1=>tl σ H1 fun l H2=>th σ H2 fun u H3=>r x l u H3 Q
theorem fP {r:V->Option Int->Option Int->Hp->VK->Prop}(hr:SlR X r)(he:PE X e te)(hl:PO X lo tl)(hu:PO X hi th):PE X (.Subscript e (.Slice lo hi none p2) pos) (tSl r te tl th):=by
 intro pins s σ H Q I h
 refine Subscript_ (thn (he pins s σ H _ I h) fun v s1 hz9=>?_)
 obtain⟨x,H1,I1,r1,q1⟩:=hz9
 refine wpAny_Slice (thn (hl pins s1 σ H1 _ I1 q1) fun vl s2 ⟨l,H2,I2,pl,q2⟩=>thn (hu pins s2 σ H2 _ I2 q2) fun vu s3 ⟨u,H3,I3,pu,q3⟩=>?_)
 rw[evalPart_none]
 refine Y9 ?_
 have I4:Inv X pins σ H3 { s3 with heap:=s3.heap.push { cls:= .type "slice",data:= .fields #[vl,vu,.none] } }:=I3.kept (t':=s3.toks) fun b ob q=>Yr _ q
 obtain⟨T,id,hT,ht,hg⟩:=hr pins { s3 with heap:=s3.heap.push { cls:= .type "slice",data:= .fields #[vl,vu,.none] } } σ H3 x v vl vu l u s3.heap.objs.size Q I4 r1 (Heap.IsSliceOf.new ..) pl pu q3
 show wpAny (model X.prog X.w) X.A (subscriptTail e (.Slice lo hi none p2) v (.ref s3.heap.objs.size)) (EP X pins σ Q) X.xe { s3 with heap:=s3.heap.push { cls:= .type "slice",data:= .fields #[vl,vu,.none] } }
 exact tail_any (ops:=[.ref s3.heap.objs.size,v]) ht hT hg (by with_unfolding_all rfl)
def cutV (xs:List V)(lo hi:Option Int):List V:=(xs.drop (HT.sIx xs.length 0 lo)).take (HT.sIx xs.length xs.length hi-HT.sIx xs.length 0 lo)
theorem pW (xs:List V)(lo hi:Option Int):(cutV xs lo hi).length<=xs.length:=by
 unfold cutV
 rw[Yo,Xu]
 omega
end
end L2
namespace L2
open PySem PySem.Spec PyProof.Rows
def ixN (n:Nat)(i:Int):Option Nat:=if 0<=i then (if i<n then some i.toNat else none) else if -(n:Int)<=i then some (i+n).toNat else none
def atI {α:Type}(xs:List α)(i:Int):Option α:=(ixN xs.length i).bind fun j=>xs[j]?
theorem a2E {n:Nat}{i:Int}{j:Nat}(h:ixN n i=some j):seqIndex? i n=some j/\j<n/\ -(n:Int)<=i/\i<n:=by
 unfold ixN at h
 by_cases h0:0<=i
 ·rw [if_pos h0]at h
  by_cases h1:i<n
  ·rw[if_pos h1]at h
   have e:i.toNat=j:=Yt h
   exact⟨by rw[seqIndex_of h0 h1,e],by omega,by omega,h1⟩
  ·rw[if_neg h1]at h;cases h
 ·rw [if_neg h0]at h
  by_cases h1: -(n:Int)<=i
  ·rw[if_pos h1]at h
   have e:(i+n).toNat=j:=Yt h
   exact⟨by rw[seqIndex_neg (by omega) h1,e],by omega,h1,by omega⟩
  ·rw[if_neg h1]at h;cases h
theorem tW {α:Type}{xs:List α}{i:Int}{v:α}(h:atI xs i=some v):∃j,seqIndex? i xs.length=some j/\xs[j]? =some v/\j<xs.length/\ -(xs.length:Int)<=i/\i<xs.length:=by
 unfold atI at h
 cases e:ixN xs.length i with
 |none=>rw[e]at h;cases h
 | some j=>
  rw[e]at h
  obtain⟨h1,h2,h3,h4⟩:=a2E e
  exact⟨j,h1,h,h2,h3,h4⟩
theorem bV {α:Type}{xs:List α}{j:Nat}{v:α}(h:xs[j]? =some v):atI xs (j:Int)=some v:=by
 have hj:j<xs.length:=(Yg.mp h).1
 have e:ixN xs.length (j:Int)=some j:=by
  unfold ixN
  rw[if_pos (by omega),if_pos (by omega)];simp
 unfold atI;rw[e];exact h
def PlainIx (b:Expr):Prop:=∀o i,subscripted b false o i=operate [o,i] (getItem o i)
def IxR (X:Cx)(r:R2):Prop:=
 ∀ (value slice:Expr)(pins:List (Addr×Obj))(s:Shared)(σ:St)(H:Hp)(x y:V)(v u:Value)(Q:VK),Inv X pins σ H s->RelV x v->RelV y u->r x y H Q->
  subscripted slice false v u=operate [v,u] (getItem v u)->wpAny (model X.prog X.w) X.A (subscriptTail value slice v u) (EP X pins σ Q) X.xe s
def MtR (X:Cx)(id:String)(r:V->List V->Hp->VK->Prop):Prop:=
 ∀ (pins:List (Addr×Obj))(s:Shared)(σ:St)(H:Hp)(x:V)(xs:List V)(v:Value)(us:List Value)(Q:VK),Inv X pins σ H s->RelV x v->Vals xs us->r x xs H Q->
  wpAny (model X.prog X.w) X.A (call (.builtin id) (v::us)) (EP X pins σ Q) X.xe s
section
variable {X:Cx}{a b:Expr}{ta tb:TE}{pos:Pos}
theorem bG {r:R2}(hr:IxR X r)(ha:PE X a ta)(hb:PE X b tb)(hs:PlainIx b):PE X (.Subscript a b pos) (tOp r ta tb):=by
 intro pins s σ H Q I h
 exact Subscript_ (a5O ha hb I h fun v u s2 x y H2 I2 rx ry q=>hr a b pins s2 σ H2 x y v u Q I2 rx ry q (hs _ _))
def rIxL (K:W.Frag):R2:=fun x y H Q=>∃p xs i v,x= .ref p/\y= .int i/\SqL K H p xs/\atI xs i=some v/\Q v H
def rIxT (K:W.Frag):R2:=fun x y H Q=>∃p xs i v,x= .ref p/\y= .int i/\SqT K H p xs/\atI xs i=some v/\Q v H
theorem a2D:IxR X (rIxL X.K):=by
 intro value slice pins s σ H x y v u Q I rx ry h hs
 obtain⟨p,xs,i,z,rfl,rfl,hq,he,q⟩:=h
 cases rx
 obtain⟨t,rfl⟩:=ry
 obtain⟨its,r,pl,hz⟩:=I.list hq
 obtain⟨j,h1,h2,h3,h4,h5⟩:=tW he
 obtain⟨w,ew,rw'⟩:=r.get h2
 have hl:=r.length
 have hn:=qO
 have fin:EP X pins σ Q w s:=⟨z,H,I,rw',q⟩
 by_cases h0:0<=i
 ·have hj:i.toNat=j:=by
   rw[seqIndex_of h0 h5]at h1
   exact Yt h1
  exact item_listR pl.isList h0 (by omega) (by rw[hj];simpa using ew) fin hs
 ·have hj:(i+(its.toArray.size:Int)).toNat=j:=by
   rw[seqIndex_neg (by omega) h4]at h1
   rw[Yx,<-hl]
   exact Yt h1
  exact subscriptTail_builtinR (x:=w) pl.isList.typeIs slot_list_getitem.lookup
   (wpAny_getItem_list_neg (Q:=fun r s'=>r=w/\EP X pins σ Q r s') pl.isList (by omega) (by rw[Yx] <;> omega) (by omega) (by rw[hj];simpa using ew) ⟨rfl,fin⟩) hs
theorem a4Z:IxR X (rIxT X.K):=by
 intro value slice pins s σ H x y v u Q I rx ry h hs
 obtain⟨p,xs,i,z,rfl,rfl,hq,he,q⟩:=h
 cases rx
 obtain⟨t,rfl⟩:=ry
 obtain⟨its,r,pl,hz⟩:=I.tuple hq
 obtain⟨j,h1,h2,h3,h4,h5⟩:=tW he
 obtain⟨w,ew,rw'⟩:=r.get h2
 have hl:=r.length
 have hn:=qO
 have fin:EP X pins σ Q w s:=⟨z,H,I,rw',q⟩
 exact subscriptTail_builtinR (x:=w) pl.typeIs slot_tuple_getitem.lookup
  (getItem_tuple (j:=j) (Q:=fun r s'=>r=w/\EP X pins σ Q r s') pl (by omega) (by omega) (by rw[Yx,<-hl];exact h1) (by simpa using ew) ⟨rfl,fin⟩) hs
theorem mL (lo hi:Option Int)(n:Nat):(sliceBounds lo hi none n).1=((HT.sIx n 0 lo:Nat):Int)/\(sliceBounds lo hi none n).2.1=((HT.sIx n n hi:Nat):Int)/\(sliceBounds lo hi none n).2.2=1:=by
 refine⟨?_,?_,rfl⟩
 ·cases lo with
  |none=>simp[sliceBounds,HT.sIx]
  | some i=>
   simp only[sliceBounds,HT.sIx,Option.getD_none,show (1:Int) > 0 by decide,if_true]
   by_cases h:i<0
   ·simp only[h,if_true] <;> omega
   ·simp only[h,if_false] <;> omega
 ·cases hi with
  |none=>simp[sliceBounds,HT.sIx]
  | some i=>
   simp only[sliceBounds,HT.sIx,Option.getD_none,show (1:Int) > 0 by decide,if_true]
   by_cases h:i<0
   ·simp only[h,if_true] <;> omega
   ·simp only[h,if_false] <;> omega
theorem lB (its:List Value)(lo hi:Option Int):slicePick its.toArray lo hi none=((its.drop (HT.sIx its.length 0 lo)).take (HT.sIx its.length its.length hi-HT.sIx its.length 0 lo)).toArray:=by
 obtain⟨h1,h2,h3⟩:=mL lo hi its.toArray.size
 unfold slicePick
 rw[h1,h2,h3]
 simp only[sliceRange_one,pick_run,Yx] <;> rfl
def rSlL (K:W.Frag):V->Option Int->Option Int->Hp->VK->Prop:=fun x lo hi H Q=>∃a xs,x= .ref a/\SqL K H a xs/\∀p,H p=none->Q (.ref p) (upd H p (.lst (cutV xs lo hi)))
theorem a0X:SlR X (rSlL X.K):=by
 intro pins s σ H x v vl vu lo hi sl Q I rx hs pl pu h
 obtain⟨a,xs,rfl,hx,q⟩:=h
 cases rx
 obtain⟨its,r,ht,hz⟩:=I.list hx
 have hlen:=r.length
 refine⟨"list",_,slot_list_getitem.lookup,ht.isList.typeIs,?_⟩
 refine wpAny_getItem_list_slice ht.isList hs pl pu .none (by simp) ?_ (by rw[Yx] <;> omega)
 rw[lB,<-hlen]
 refine⟨.ref s.heap.objs.size,_,I.laid (t':=s.toks) (o:= .lst (cutV xs lo hi)) (fun b ob q=>Yr _ q) (Yd _) ?_,rfl,q _ (I.hok.fresh (Yd _))⟩
 exact⟨Y4 (pW xs lo hi) hz,_,0,(r.drop (HT.sIx xs.length 0 lo)).take (HT.sIx xs.length xs.length hi-HT.sIx xs.length 0 lo),YL _ rfl⟩
def flatV:V->Bool
 |.non=>true
 |.bl _=>true
 |.int _=>true
 |.str _=>true
 |_=>false
def eqV:V->V->Bool
 |.non,.non=>true
 |.bl a,.bl b=>a == b
 |.bl a,.int b=>(if a then 1 else 0) == b
 |.int a,.bl b=>a == (if b then 1 else 0)
 |.int a,.int b=>a == b
 |.str a,.str b=>a == b
 |_,_=>false
theorem a5E {A:Around}{s:Shared}{y x:V}{u v:Value}(ry:RelV y u)(rx:RelV x v)(fy:flatV y=true)(fx:flatV x=true):SeqAt.EqAt A s u v (eqV y x):=by
 cases y with
 | non=>
  cases ry
  cases x with
  |non=>cases rx;exact SeqAt.EqAt.same _
  |bl b=>cases rx;exact SeqAt.EqAt.none_bool b
  |int b=>obtain⟨t,rfl⟩:=rx;exact SeqAt.EqAt.none_int b t
  |str b=>obtain⟨t,rfl⟩:=rx;exact SeqAt.EqAt.none_str b t
  |_=>exact absurd (show false=true from fx) Yn
 | bl a=>
  cases ry
  cases x with
  |non=>cases rx;exact SeqAt.EqAt.bool_none a
  |bl b=>cases rx;exact SeqAt.EqAt.bool_bool a b
  |int b=>obtain⟨t,rfl⟩:=rx;exact SeqAt.EqAt.bool_int a b t
  |str b=>obtain⟨t,rfl⟩:=rx;exact SeqAt.EqAt.bool_str a b t
  |_=>exact absurd (show false=true from fx) Yn
 | int a=>
  obtain⟨t',rfl⟩:=ry
  cases x with
  |non=>cases rx;exact SeqAt.EqAt.int_none a t'
  |bl b=>cases rx;exact SeqAt.EqAt.int_bool a t' b
  |int b=>obtain⟨t,rfl⟩:=rx;exact SeqAt.EqAt.int_int a t' b t
  |str b=>obtain⟨t,rfl⟩:=rx;exact SeqAt.EqAt.int_str a t' b t
  |_=>exact absurd (show false=true from fx) Yn
 | str a=>
  obtain⟨t',rfl⟩:=ry
  cases x with
  |non=>cases rx;exact SeqAt.EqAt.str_none a t'
  |bl b=>cases rx;exact SeqAt.EqAt.str_bool a t' b
  |int b=>obtain⟨t,rfl⟩:=rx;exact SeqAt.EqAt.str_int a t' b t
  |str b=>obtain⟨t,rfl⟩:=rx;exact SeqAt.EqAt.str_str a t' b t
  |_=>exact absurd (show false=true from fx) Yn
 |_=>exact absurd (show false=true from fy) Yn
def eqU (x:V)(u:Value):Bool:=match u with
 |.none=>eqV .non x
 |.bool b=>eqV (.bl b) x
 |.int i _=>eqV (.int i) x
 |.str z _=>eqV (.str z) x
 |_=>false
theorem zQ {x y:V}{u:Value}(r:RelV y u)(f:flatV y=true):eqU x u=eqV y x:=by
 cases y with
 |non=>cases r;rfl
 |bl b=>cases r;rfl
 |int i=>obtain⟨t,rfl⟩:=r;rfl
 |str z=>obtain⟨t,rfl⟩:=r;rfl
 |_=>exact absurd (show false=true from f) Yn
theorem iB {x:V}:∀{xs:List V}{us:List Value},Vals xs us->xs.all flatV=true->us.any (eqU x)=xs.any fun y=>eqV y x
 |_,_,.nil,_=>rfl
 | y::xs,u::us,.cons r t,f=>by
  rw[XR,Xv]at f
  rw[X4,X4,zQ r f.1,iB t f.2]
theorem fQ {A:Around}{s:Shared}{x:V}{v:Value}(rx:RelV x v)(fx:flatV x=true):∀{xs:List V}{us:List Value},Vals xs us->xs.all flatV=true->∀u∈us,SeqAt.EqAt A s u v (eqU x u)
 |_,_,.nil,_=>fun u hu=>by cases hu
 | y::xs,u::us,.cons r t,f=>fun u' hu=>by
  rw[XR,Xv]at f
  rcases YK.mp hu with rfl | hu
  ·rw[zQ r f.1];exact a5E r rx f.1 fx
  ·exact fQ rx fx t f.2 u' hu
def inV (x:V)(xs:List V):Bool:=xs.any fun y=>eqV y x
def rIn (K:W.Frag)(neg:Bool):R2:=fun x y H Q=>∃p xs,y= .ref p/\(SqL K H p xs\/SqT K H p xs)/\flatV x=true/\xs.all flatV=true/\Q (.bl (if neg then !inV x xs else inV x xs)) H
theorem uJ:OpR X (compareOp .In) (rIn X.K false):=by
 intro pins s σ H x y v u Q I rx ry h
 obtain⟨p,xs,rfl,hq,fx,fs,q⟩:=h
 cases ry
 rcases hq with hq | hq
 ·obtain⟨its,r,pl,hz⟩:=I.list hq
  refine SeqAt.in_listAt (eqU x) pl.isList (fun w hw=>fQ rx fx r fs w (by simpa using hw)) ⟨.bl _,H,I,rfl,?_⟩
  rw[show its.toArray.any (eqU x)=its.any (eqU x) by simp,iB r fs]
  exact q
 ·obtain⟨its,r,pl,hz⟩:=I.tuple hq
  refine SeqAt.in_tupleAt (eqU x) pl (fun w hw=>fQ rx fx r fs w (by simpa using hw)) ⟨.bl _,H,I,rfl,?_⟩
  rw[show its.toArray.any (eqU x)=its.any (eqU x) by simp,iB r fs]
  exact q
theorem mR:OpR X (compareOp .NotIn) (rIn X.K true):=by
 intro pins s σ H x y v u Q I rx ry h
 obtain⟨p,xs,rfl,hq,fx,fs,q⟩:=h
 cases ry
 rcases hq with hq | hq
 ·obtain⟨its,r,pl,hz⟩:=I.list hq
  refine SeqAt.notIn_listAt (eqU x) pl.isList (fun w hw=>fQ rx fx r fs w (by simpa using hw)) ⟨.bl _,H,I,rfl,?_⟩
  rw[show its.toArray.any (eqU x)=its.any (eqU x) by simp,iB r fs]
  exact q
 ·obtain⟨its,r,pl,hz⟩:=I.tuple hq
  refine SeqAt.notIn_tupleAt (eqU x) pl (fun w hw=>fQ rx fx r fs w (by simpa using hw)) ⟨.bl _,H,I,rfl,?_⟩
  rw[show its.toArray.any (eqU x)=its.any (eqU x) by simp,iB r fs]
  exact q
theorem nO:CallR X (.builtin "len") (fun xs H Q=>∃p ys,xs= [.ref p]/\(SqL X.K H p ys\/SqT X.K H p ys)/\Q (.int ys.length) H):=by
 intro pins s σ H xs us Q I r h
 obtain⟨p,ys,rfl,hq,q⟩:=h
 obtain⟨u,rfl,rx⟩:=vals1 r
 cases rx
 have hn:=qO
 rcases hq with hq | hq
 ·obtain⟨its,r',pl,hz⟩:=I.list hq
  have hlen:=r'.length
  exact Calls.call_len_list pl.isList (by simp only[Yx] <;> omega) ⟨.int ys.length,H,I.tok _,⟨s.toks+1,by rw[Yx,hlen]⟩,q⟩
 ·obtain⟨its,r',pl,hz⟩:=I.tuple hq
  have hlen:=r'.length
  exact len_tuple pl (by simp only[Yx] <;> omega) ⟨.int ys.length,H,I.tok _,⟨s.toks+1,by rw[Yx,hlen]⟩,q⟩
theorem nM:CallR X (.type "list") (fun xs H Q=>∃p ys,xs= [.ref p]/\(SqL X.K H p ys\/SqT X.K H p ys)/\∀l,H l=none->Q (.ref l) (upd H l (.lst ys))):=by
  intro pins s σ H xs us Q I r h
  obtain⟨p,ys,rfl,hq,q⟩:=h
  obtain⟨u,rfl,rx⟩:=vals1 r
  cases rx
  have fin:∀(its:List Value),Vals ys its->ys.length<=sizeLine->∀(h':Heap)(c':Nat),(∀b o',s.heap.get? b=some o'->h'.get? b=some o')->
      h'.get? s.heap.objs.size=some { cls:= .type "list",dict:=none,data:= .seq its.toArray c',slots:=#[] }->EP X pins σ Q (.ref s.heap.objs.size) { s with heap:=h' }:=fun its r' hz h' c' kp e=>
    ⟨.ref s.heap.objs.size,_,I.laid (t':=s.toks) kp (Yd _) (show ObjOk X.prog X.w _ h' _ (.lst ys) from ⟨hz,its,c',r',e⟩),rfl,q _ (I.hok.fresh (Yd _))⟩
  rcases hq with hq | hq
  · obtain⟨its,r',pl,hz⟩:=I.list hq
    have hlen:=r'.length
    obtain⟨o,ho,hc,n,hd⟩:=pl.isList
    exact call_list_seq p (.inl rfl) ho hc hd (fun h' c' kp e=>fin its r' hz h' c' kp e) (by simp only[Yx] <;> omega)
  · obtain⟨its,r',pl,hz⟩:=I.tuple hq
    have hlen:=r'.length
    obtain⟨o,ho,hc,n,hd⟩:=pl
    exact call_list_seq p (.inr rfl) ho hc hd (fun h' c' kp e=>fin its r' hz h' c' kp e) (by simp only[Yx] <;> omega)
def tyV (K:W.Frag)(T:String)(x:V)(H:Hp):Prop:=match x with
  |.str _=>T="str"
  |.int _=>T="int"
  | .ref p=>(T="list"/\∃xs,SqL K H p xs)\/(T="tuple"/\∃o,K.lookup p=some o/\o.cls= .type "tuple"/\o.dict=none)\/
      (T="dict"/\((∃kvs,H p=some (.dK kvs))\/∃kvs,H p=some (.dT kvs)))\/(T="set"/\∃S n,H p=some (.set S n))
  |_=>False
theorem wK {pins:List (Addr×Obj)}{σ:St}{H:Hp}{s:Shared}{T:String}{x:V}{v:Value}(I:Inv X pins σ H s)(r:RelV x v)(ty:tyV X.K T x H) :
  s.TypeIs v T/\∀a,v= .ref a->∃ob,s.heap.get? a=some ob/\ob.dict=none:=by
 cases x with
 | str z=>
  obtain⟨t,rfl⟩:=r
  cases (show T="str" from ty)
  exact⟨typeIs_str s z t,fun _ e=>nomatch e⟩
 | int i=>
  obtain⟨t,rfl⟩:=r
  cases (show T="int" from ty)
  exact⟨typeIs_int s i t,fun _ e=>nomatch e⟩
 | ref p =>
  cases r
  rcases ty with ⟨rfl,xs,hq⟩ | ⟨rfl,o,hk,hc,hd⟩ | ⟨rfl,hk⟩ | ⟨rfl,S,n,hk⟩
  ·obtain⟨its,_,pl,_⟩:=I.list hq
   refine⟨pl.isList.typeIs,fun a e=>?_⟩
   cases e
   obtain⟨o,n,e,c,hd,_⟩:=pl
   exact⟨o,e,hd⟩
  ·refine⟨⟨o,I.kIn p o hk,hc⟩,fun a e=>?_⟩
   cases e
   exact⟨o,I.kIn _ o hk,hd⟩
  ·have z:∃o,s.heap.get? p=some o/\o.ExactDict:=by
    rcases hk with ⟨kvs,hk⟩ | ⟨kvs,hk⟩
    ·obtain⟨_,_,_,_,o,_,_,e,ex,_⟩:=I.hok p _ hk
     exact⟨o,e,ex⟩
    ·obtain⟨_,_,_,_,o,_,_,e,ex,_⟩:=I.hok p _ hk
     exact⟨o,e,ex⟩
   obtain⟨o,e,ex⟩:=z
   refine⟨⟨o,e,ex.1⟩,fun a e2=>?_⟩
   cases e2
   exact⟨o,e,ex.2.1⟩
  ·obtain⟨o,_,_,_,e,ex,_⟩:=I.hok p _ hk
   refine⟨⟨o,e,ex.1⟩,fun a e2=>?_⟩
   cases e2
   exact⟨o,e,ex.2.1⟩
 |_=>exact False.elim ty
def tBM0 (K:W.Frag)(T:String)(r:V->List V->Hp->VK->Prop)(to:TE):TE:=fun σ H Q=>to σ H fun x H1=>tyV K T x H1/\r x [] H1 Q
def tBM (K:W.Frag)(T:String)(r:V->List V->Hp->VK->Prop)(to:TE)(t:TA):TE:=fun σ H Q=>to σ H fun x H1=>tyV K T x H1/\t σ H1 fun xs H2=>r x xs H2 Q
variable {o e:Expr}{es:List Expr}{to:TE}{t:TA}{name:Str}{apos cpos:Pos}{T id:String}{r:V->List V->Hp->VK->Prop}
theorem a4B (pa:PlainAttrs T)(slot:Slot T name id)(hty:typeOf (.builtin id)=pure (.type "method_descriptor"))(hm:MtR X id r)(ho:PE X o to)
  (hbase:attributeBase o name X.env (eval o X.env)=eval o X.env:=by rfl) (hline:(apos.endLine == cpos.line)=true:=by rfl):PE X (.Call (.Attribute o name apos) [] [] cpos) (tBM0 X.K T r to):=by
 intro pins s σ H Q I h
 refine wpAny_Call_method0_late hbase hline (thn (ho pins s σ H _ I h) fun v s1 hz9=>?_)
 obtain⟨x,H1,I1,r1,ty,q1⟩:=hz9
 obtain⟨h1,h2⟩:=wK I1 r1 ty
 exact⟨T,id,pa,slot,hty,h1,h2,Calls.callWith_builtin rfl (PySem.evalArgs_none (hm pins s1 σ H1 x [] v [] Q I1 r1 .nil q1))⟩
theorem rW (pa:PlainAttrs T)(slot:Slot T name id)(hty:typeOf (.builtin id)=pure (.type "method_descriptor"))(hm:MtR X id r)(ho:PE X o to)(ha:PA X (e::es) t)
  (hbase:attributeBase o name X.env (eval o X.env)=eval o X.env:=by rfl)
  (hfew:((backTo cpos (starEach (e::es) X.env)).all (fun x=>!x.1) && (backToKw cpos (keywordEach [] X.env)).all (fun x=>x.1.isSome)
   && decide ((e::es).length+([]:List Keyword).length+(if ([]:List Keyword).isEmpty then 0 else 1)<30))=true:=by rfl)
  (hline:(apos.endLine == cpos.line)=true:=by rfl) (hs:starEach (e::es) X.env=(false,eval e X.env)::starEach es X.env:=by rfl) (hplain:(backTo cpos (starEach es X.env)).any (·.1)=false:=by rfl) :
  PE X (.Call (.Attribute o name apos) (e::es) [] cpos) (tBM X.K T r to t):=by
 intro pins s σ H Q I h
 refine wpAny_Call_method_late hbase hfew hline rfl (thn (ho pins s σ H _ I h) fun v s1 hz9=>?_)
 obtain⟨x,H1,I1,r1,ty,q1⟩:=hz9
 obtain⟨h1,h2⟩:=wK I1 r1 ty
 refine⟨T,id,pa,slot,hty,h1,h2,?_⟩
 have hA:=ha cpos pins s1 σ H1 _ I1 q1
 rw[hs]at hA ⊢
 refine Calls.callWith_builtin (by show (false || (backTo cpos (starEach es X.env)).any (·.1))=false;rw[hplain] <;> rfl) (Calls.evalArgs_plain ?_)
 exact thn hA fun us s2 ⟨vs,H2,I2,r2,q2⟩=>hm pins s2 σ H2 x vs v us Q I2 r1 r2 q2
end
end L2
namespace L2
open PySem PySem.Spec PyProof.Rows
def MtM (X:Cx)(id:String)(r:V->List V->Hp->VK->Prop):Prop:=
 ∀ (pins:List (Addr×Obj))(s:Shared)(σ:St)(H:Hp)(x:V)(xs:List V)(v:Value)(us:List Value)(Q:VK),Inv X pins σ H s->RelV x v->Vals xs us->r x xs H Q->
  wpAny (model X.prog X.w) X.A (call (.builtin id) (v::us)) (EP X pins σ Q) X.xe s
theorem Vals.one:∀{x:V}{us:List Value},Vals [x] us->∃u,us= [u]/\RelV x u
 |_,_,.cons r .nil=>⟨_,rfl,r⟩
theorem Vals.eraseIdx:∀{xs:List V}{us:List Value}(i:Nat),Vals xs us->Vals (xs.eraseIdx i) (us.eraseIdx i)
 |_,_,_,.nil=> .nil
 |_,_,0,.cons _ t=>t
 |_,_,i+1,.cons r t=> .cons r (Vals.eraseIdx i t)
theorem Vals.rep {xs:List V}{us:List Value}(h:Vals xs us):∀k:Nat,Vals (List.replicate k xs).flatten (List.replicate k us).flatten
 |0=> .nil
 | k+1=>by
  rw[Xc,Xc,Xb,Xb]
  exact Vals.append h (Vals.rep h k)
theorem lQ {α:Type}:∀(l:List α)(i:Nat),(l.eraseIdx i).length<=l.length
 |[],_=>Yd _
 |_::_,0=>Xn _
 |_::r,i+1=>Nat.succ_le_succ (lQ r i)
theorem foldl_rep (its:List Value):∀(k:Nat)(acc:List Value),
  List.foldl (fun x1 x2=>x1++x2) acc.toArray (List.replicate k its.toArray)=(acc++(List.replicate k its).flatten).toArray
 |0,acc=>by simp
 | k +1,acc=>by
  have e:acc.toArray++its.toArray=(acc++its).toArray:=by simp
  have e2:(acc++its)++(List.replicate k its).flatten=acc++(List.replicate (k+1) its).flatten:=by
   rw[Xc,Xb,Yy]
  rw[<-e2,<-foldl_rep its k (acc++its),<-e,Xc,Y0]
section
variable {X:Cx}{pins:List (Addr×Obj)}{σ:St}{H:Hp}{s:Shared}{l b:Addr}{xs ys zs:List V}
theorem Inv.lset {its its':List Value}{n:Nat}{f:Array Value->Array Value}{t':Nat}(I:Inv X pins σ H s)(hH:H l=some (.lst xs))
  (e:s.heap.get? l=some { cls:= .type "list",data:= .seq its.toArray n }) (hf:f its.toArray=its'.toArray) (hv:Vals ys its') (hz:ys.length<=sizeLine) :
  Inv X pins σ (upd H l (.lst ys)) { s with heap:=s.heap.update l (Obj.mapSeq f),toks:=t' }:=by
 have q:=PySem.IsL.update e f
 rw[hf]at q
 refine I.write (x:=l) (e:=l) (by rw[hH];exact trivial) (.inl rfl) (fun b' u hb hu=>(Xe s.heap (Obj.mapSeq f) (Ne.symm hb)).trans hu) ⟨_,q⟩ ?_
 exact⟨hz,its',_,hv,q⟩
theorem Inv.lnew {its:List Value}{t':Nat}(I:Inv X pins σ H s)(hv:Vals ys its)(hz:ys.length<=sizeLine) :
  Inv X pins σ (upd H s.heap.objs.size (.lst ys)) { s with heap:=s.heap.push { cls:= .type "list",data:= .seq its.toArray },toks:=t' }:=
 I.laid (fun _ _ q=>Yr _ q) (Yd _) ⟨hz,its,0,hv,YL _ rfl⟩
theorem Inv.fresh (I:Inv X pins σ H s):H s.heap.objs.size=none:=I.hok.fresh (Yd _)
theorem Inv.lstM (I:Inv X pins σ H s)(hH:H l=some (.lst xs)):xs.length<=sizeLine/\∃(its:List Value)(n:Nat),Vals xs its/\xs.length=its.length/\s.heap.get? l=some { cls:= .type "list",data:= .seq its.toArray n }:=by
 obtain⟨z,its,n,r,e⟩:=I.hok l _ hH
 exact⟨z,its,n,r,r.length,e⟩
theorem oX {n:Nat}(h:n<=sizeLine):Builtin.List.listTooLong n=false:=by
 unfold Builtin.List.listTooLong
 exact Ym (by omega)
end
section
variable {X:Cx}
def rAppend:V->List V->Hp->VK->Prop:=fun x vs H Q=>∃l xs y,x= .ref l/\vs= [y]/\H l=some (.lst xs)/\xs.length<sizeLine/\Q .non (upd H l (.lst (xs++[y])))
theorem uO:MtM X "list.append" rAppend:=by
 intro pins s σ H x vs v us Q I rx rv h
 obtain⟨l,xs,y,rfl,rfl,hH,hz,q⟩:=h
 cases rx
 obtain⟨u,rfl,ru⟩:=rv.one
 obtain⟨z,its,n,r,hl,e⟩:=I.lstM hH
 refine call_meets F.slot_list_append ⟨_,e,rfl⟩ F.entry_list_append (F.args_list_append_2 _ _) (PySem.list_append l its.toArray n u (by rw[Yx];omega)) ⟨e,?_⟩
 refine⟨.non,_,I.lset (its':=its++[u]) hH e (by simp) (r.append (.cons ru .nil)) ?_,rfl,q⟩
 rw[Yc,Yu]
 omega
def rExtend:V->List V->Hp->VK->Prop:=fun x vs H Q=>∃l b xs zs,x= .ref l/\vs= [.ref b]/\H l=some (.lst xs)/\H b=some (.lst zs)/\xs.length+zs.length<=sizeLine/\Q .non (upd H l (.lst (xs++zs)))
theorem uN:MtM X "list.extend" rExtend:=by
 intro pins s σ H x vs v us Q I rx rv h
 obtain⟨l,b,xs,zs,rfl,rfl,hH,hB,hz,q⟩:=h
 cases rx
 obtain⟨u,rfl,ru⟩:=rv.one
 cases ru
 obtain⟨z,its,n,r,hl,e⟩:=I.lstM hH
 obtain⟨z2,its2,n2,r2,hl2,e2⟩:=I.lstM hB
 have hsz:its.toArray.size+its2.toArray.size<=sizeLine:=by rw[Yx,Yx];omega
 have hlong:¬ (!its.toArray.isEmpty && Builtin.List.listTooLong (its.toArray.size+its2.toArray.size))=true:=by
  rw[oX hsz,Bool.and_false]
  exact Yn
 refine call_meets F.slot_list_extend ⟨_,e,rfl⟩ F.entry_list_extend (F.args_list_extend_2 _ _)
  (AutoSeq1.list_extend_list_list_0 l its.toArray n b its2.toArray n2 hlong (by rw[Yx];omega) (by omega)) ⟨e,e2,?_⟩
 refine⟨.non,_,I.lset (its':=its++its2) hH e (by simp) (r.append r2) ?_,rfl,q⟩
 rw[Yc]
 omega
def rPopAt:V->List V->Hp->VK->Prop:=fun x vs H Q=>∃l xs i k y,x= .ref l/\vs= [.int i]/\H l=some (.lst xs)/\ -(2 ^ 63)<=i/\i<2 ^ 63/\seqIndex? i xs.length=some k/\xs[k]? =some y/\Q y (upd H l (.lst (xs.eraseIdx k)))
theorem yF:MtM X "list.pop" rPopAt:=by
 intro pins s σ H x vs v us Q I rx rv h
 obtain⟨l,xs,i,k,y,rfl,rfl,hH,h1,h2,hk,hy,q⟩:=h
 cases rx
 obtain⟨u,rfl,ru⟩:=rv.one
 obtain⟨t,rfl⟩:=ru
 obtain⟨z,its,n,r,hl,e⟩:=I.lstM hH
 obtain⟨w,hw,rw'⟩:=r.get hy
 refine call_meets F.slot_list_pop ⟨_,e,rfl⟩ F.entry_list_pop (F.args_list_pop_2 _ _)
  (MeetsSeq.list_pop_at l its.toArray n i t k w (fitsIndex_both h1 h2) (by rw[Yx,<-hl];exact hk) (by rw[<-Array.getElem?_toList];exact hw) (by rw[Yx];omega)) ⟨e,?_⟩
 refine⟨y,_,I.lset (its':=its.eraseIdx k) hH e ?_ (r.eraseIdx k) ?_,rw',q⟩
 ·show its.toArray.eraseIdxIfInBounds k=(its.eraseIdx k).toArray
  rw[List.eraseIdxIfInBounds_toArray]
 ·have:=lQ xs k
  omega
def rCat:R2:=fun x y H Q=>∃l b xs zs,x= .ref l/\y= .ref b/\H l=some (.lst xs)/\H b=some (.lst zs)/\xs.length+zs.length<=sizeLine/\∀p,H p=none->Q (.ref p) (upd H p (.lst (xs++zs)))
theorem a4M:OpR X (binaryOp .Add) rCat:=by
 intro pins s σ H x y v u Q I rx ry h
 obtain⟨l,b,xs,zs,rfl,rfl,hH,hB,hz,q⟩:=h
 cases rx
 cases ry
 obtain⟨z,its,n,r,hl,e⟩:=I.lstM hH
 obtain⟨z2,its2,n2,r2,hl2,e2⟩:=I.lstM hB
 refine PySem.P.add_list e e2 ?_ (by rw[Yx,Yx];omega)
 have ea:its.toArray++its2.toArray=(its++its2).toArray:=by simp
 rw[ea]
 exact⟨.ref _,_,I.lnew (t':=s.toks) (r.append r2) (by rw[Yc];omega),rfl,q _ I.fresh⟩
def rRep:R2:=fun x y H Q=>∃l k xs,x= .ref l/\y= .int k/\H l=some (.lst xs)/\ -(2 ^ 63)<=k/\k<2 ^ 63/\xs.length*k.toNat<=sizeLine/\
 ∀p,H p=none->Q (.ref p) (upd H p (.lst (List.replicate k.toNat xs).flatten))
theorem len_rep {α:Type}(xs:List α)(k:Nat):(List.replicate k xs).flatten.length=k*xs.length:=by
 induction k with
 |zero=>simp
 |succ k ih=>rw[Xc,Xb,Yc,ih,Nat.succ_mul,Nat.add_comm]
theorem a4J:OpR X (binaryOp .Mult) rRep:=by
 intro pins s σ H x y v u Q I rx ry h
 obtain⟨l,k,xs,rfl,rfl,hH,h1,h2,hz,q⟩:=h
 cases rx
 obtain⟨t,rfl⟩:=ry
 obtain⟨z,its,n,r,hl,e⟩:=I.lstM hH
 have hlen:its.toArray.size*k.toNat<=sizeLine:=by rw[Yx,<-hl];exact hz
 have hcap:¬ its.toArray.size*k.toNat > (2 ^ 63-1) / 8:=by
  have:(sizeLine:Nat)<=(2 ^ 63-1) / 8:=by decide
  omega
 have hfit:¬ (!Builtin.List.listFitsIndex k)=true:=by
  rw[fitsIndex_both h1 h2]
  exact Yn
 have hlong:¬ Builtin.List.listTooLong (its.toArray.size*k.toNat)=true:=by
  rw[oX hlen]
  exact Yn
 have hnew:List.foldl (fun x1 x2=>x1++x2) #[] (List.replicate (if its.toArray.isEmpty=true then 0 else k.toNat) its.toArray)=(List.replicate k.toNat its).flatten.toArray:=by
  have f0:∀m:Nat,List.foldl (fun x1 x2=>x1++x2) #[] (List.replicate m its.toArray)=(List.replicate m its).flatten.toArray:=fun m=>by
   have:=foldl_rep its m []
   rw[List.nil_append]at this
   exact this
  rw[f0]
  cases its with
  |nil=>simp
  |cons a r'=>rw[if_neg (by simp)]
 refine wpAny_binaryOp_repeat_ref (T:="list") (U:="int") (by decide) ⟨_,e,rfl⟩ (fun s'=>typeIs_int s' k t) noFill_list_mul F.fills_int_mul F.slot_int_rmul repeat_list F.slot_int_index.lookup
  (call_meets F.slot_int_rmul (typeIs_int s k t) F.entry_int_rmul (F.args_int_rmul_2 _ _) (int___rmul___int_list k t l its.toArray n)
   ⟨e,rfl,⟨_,e,rfl⟩,call_meets F.slot_list_mul ⟨_,e,rfl⟩ F.entry_list_mul (F.args_list_mul_2 _ _) (AutoListH.list___mul___list_int_3 l its.toArray n k t hfit hcap hlong) ⟨e,?_⟩⟩)
 rw[hnew]
 exact⟨.ref _,_,I.lnew (t':=s.toks) (r.rep k.toNat) (by rw[len_rep,Nat.mul_comm];exact hz),rfl,q _ I.fresh⟩
end
section
variable {prog:Program}{w:World}{A:Around}{E:Value->Shared->Prop}{s:Shared}
end
section
variable {X:Cx}
end
end L2
namespace Att
open PySem PySem.W PySem.Calls PyProof.Rows
theorem iV {P:Params}{h:Heap}:∀(ns:List Int)(vs:List Value),WellAll P h vs (ns.map WData.int)->IntsAre vs ns:=by
 intro ns
 induction ns with
 | nil=>
  intro vs w
  rw[List.map_nil]at w
  cases w
  exact .nil
 | cons n ns ih=>
  intro vs w
  rw[YE]at w
  cases w with
  | cons a b=>
   cases a
   exact .cons _ _ (ih _ b)
theorem uB {l:OpenLaw}{n:Nat}(hn:l.most=some n){P:Params}{h:Heap}{args:List WData}{vals:List Value}
  (hpre:l.row.toRowW.claim.pre args=true) (hwl:WellAll P h vals args) :
  ∃a vs ns,vals= [Value.ref a]/\args= [WData.list (ns.map WData.int)]/\h.get? a=some { cls:= .type "list",data:= .seq vs.toArray }/\IntsAre vs ns/\ns.length<=n:=by
 have hsh:WShape.hasAll [] args [.list .int]=true:=(pre_splitW hpre).1
 have hc:l.pre.holds [] { args:=args }=true:=(pre_splitW hpre).2
 obtain⟨d,r,rfl,h1,h2⟩:=hasAllW_cons hsh
 obtain rfl:=hasAllW_nil h2
 obtain⟨xs,rfl,h3⟩:=hasW_list h1
 obtain⟨ns,rfl⟩:=items_int h3
 have hlen:ns.length<=n:=by
  unfold OpenLaw.pre at hc
  have h4:(WTm.not (.lt (.lit (.int (n:Int))) (.len (.arg 0)))).holds [] { args:=[.list (ns.map .int)] }=true:=by
   have h4:=(holds_andW hc).1
   rw[hn]at h4
   exact h4
  have h5:=condW_of h4 (w_not (w_lt w_lit (w_len_list (w_arg rfl))))
  rw[Ya]at h5
  refine Nat.le_of_not_lt fun q=>?_
  have q':(n:Int)<((ns.length:Nat):Int):=by omega
  first
   |(rw[Yl q']at h5;exact absurd h5 (by decide))
   |(simp at h5;omega)
 cases hwl with
 | cons w1 w2=>
  cases w2
  cases w1 with
  |list ho hall=>exact⟨_,_,ns,rfl,rfl,ho,iV ns _ hall,hlen⟩
theorem uG (l:OpenLaw)(args:List WData):l.row.toRowW.claim.post args (.bool true) args=true:=
 postW_of (r:=l.row.toRowW) (X:=(true == true))
  (show WShape.has [] (.bool true) .bool=true by first | rfl | decide | simp[WShape.has,WShape.arms,WShape.armsAll])
  (show (WTm.eq .res (.lit (.bool true))).value [] { args:=args,res:=some (.bool true),after:=args }=some (.bool (true == true)) from w_eq_bool (w_res rfl) w_lit) rfl
theorem attach_call {l:OpenLaw}{n:Nat}{q:Program}{loose:List Str}{XP:(Str->Option Value)->Heap->Prop}{YP:World->Heap->Prop}{d:DefRec}
  (hn:l.most=some n) (hdf:d.params.defaults= [])
  (call:∀(w:World)(s₀ s₁:Shared)(mg mb:Str->Option Value)(fa:Addr)(o:Obj)(pm cd doc:Value)(a:Addr)(vs:List Value)(ns:List Int),
   Ground q loose [] XP w s₀ mg mb s₁.heap->YP w s₁.heap->
   s₁.heap.get? fa=some o->o.data= .func (docDef d.name d.params d.body d.scope pm cd doc)->s₁.heap.CodeRec cd d.name->mg d.name=some (.ref fa)->
   s₁.heap.get? a=some { cls:= .type "list",data:= .seq vs.toArray }->IntsAre vs ns->ns.length<=n->s₁.gens=#[]->
   codeAny (model l.prog w) callerA (.call (.ref fa) ⟨[.ref a], []⟩) (fun r s'=>r= .ok (.ret (.bool true))/\OldK s₁.heap s'.heap/\s'.os=s₁.os/\AllBare s'.gens) s₁) :
  WalkO q loose XP YP l.row.toRowW d [] (fun f vs=>PySem.call f vs):=by
 intro w s₀ s₁ mg mb G Y fa o pm cd doc dV kV ho hd hcd hD hmg hg args vals as hpre hlay hrd hwl hlo
 obtain rfl:dV= .none:=Dflts.none hD hdf
 obtain rfl:kV= .none:=Dflts.noKw hD
 obtain⟨a,vs,ns,rfl,rfl,hobj,hints,hlen⟩:=uB hn hpre hwl
 refine enter_call (Jg (call w s₀ s₁ mg mb fa o pm cd doc a vs ns G Y ho (fd_plain hd) hcd hmg hobj hints hlen hg) fun r s' hq=>?_)
 obtain⟨rfl,h2,h3,h4⟩:=hq
 exact⟨.inl ⟨.bool true,.bool true, [],rfl,fun _=>rfl,.bool true,uG l _,fun _=>⟨List.Pairwise.nil,fun _ hm=>(nomatch hm)⟩⟩,h2,h3,h4⟩
section
variable {prog:Program}{w:World}{A:Around}{E:Value->Shared->Prop}{s:Shared}{K:Frag}
def ledger (h:Heap)(L d:Addr):List (Addr×Obj):=(List.range h.objs.size).filterMap fun a=>if a=L\/a=d then none else (h.get? a).map fun o=>(a,o)
end
end Att
namespace L2
open PySem PySem.Spec PyProof.Rows
theorem lD:∀{vs:List Value}{ns:List Int},IntsAre vs ns->Vals (ns.map V.int) vs
 |_,_,.nil=> .nil
 |_,_,.cons n t h=> .cons ⟨t,rfl⟩ (lD h)
def Only (H:Hp):Prop:=∀b,H b=none\/∃o xs,H b=some (.frz o (.lst xs))
theorem yS {P:Program}{w:World}{K:W.Frag}{mg mb:Str->Option Value}{CX:CXT}{k:Nat}{fa a:Addr}{fd:FuncData}{x:Str}{sp:Sp}{s₁:Shared}{vs:List Value}{ns:List Int}
    (KX:K.In s₁.heap) (hns:s₁.heap.Ns mainGlobals mg) (hb:s₁.heap.Ns builtinsNs mb) (hbb:∀x:Str,x≠"__name__"->mb x=bootBuiltins x) (hlim:s₁.heap.NoLimit) (hg:s₁.gens=#[])
    (ha:s₁.heap.get? a=some { cls:= .type "list",data:= .seq vs.toArray }) (hi:IntsAre vs ns) (hl:ns.length<=sizeLine) (hr:Room k callerA)
    (F:∀base:Heap,K.In base->base.Ns mainGlobals mg->FnOk P w K mg base CX k fa fd [x] sp) (hbind:∀(s:Shared)(u:Value),BindsTo s fd ⟨[u], []⟩ [(x,u)])
    (hsp:∀H:Hp,Only H->SqL K H a (ns.map V.int)->sp [.ref a] H (fun v _=>v= .bl true) fun _ _ _=>False)
    (hCX:∀H e s',CX [] H s₁ (fun _ _ _=>False) e s'->False) :
    codeAny (model P w) callerA (.call (.ref fa) ⟨[.ref a], []⟩) (fun r s'=>r= .ok (.ret (.bool true))/\OldK s₁.heap s'.heap/\s'.os=s₁.os/\AllBare s'.gens) s₁:=by
  have rv:=lD hi
  have lenV:=hi.length
  have core :∀H:Hp,Only H->SqL K H a (ns.map V.int)->HOk P w H s₁.heap->(∀b,H b≠none->b=a)->(H a≠none->K.lookup a=none)->
      codeAny (model P w) callerA (.call (.ref fa) ⟨[.ref a], []⟩) (fun r s'=>r= .ok (.ret (.bool true))/\OldK s₁.heap s'.heap/\s'.os=s₁.os/\AllBare s'.gens) s₁:=by
    intro H hO hS hok hA hK
    have base_of:∀{b:Addr}{o:Obj},s₁.heap.get? b=some o->H b=none->(hidT s₁.heap H).get? b=some o:=fun e n=>zA e n
    have noA:∀{b:Addr}{o:Obj}{es:Array DictEntry}{ep:Nat},s₁.heap.get? b=some o->o.data= .dict es ep->H b=none:=fun {b o es ep} e d=>by
      cases q:H b with
      |none=>rfl
      | some u=>
        have e':b=a:=hA b (by rw[q];simp)
        subst e'
        rw[ha]at e;cases e
        have d':Data.seq vs.toArray _=Data.dict es ep:=d
        cases d'
    have nsK:∀{b:Addr}{m:Str->Option Value},s₁.heap.Ns b m->(hidT s₁.heap H).Ns b m:=fun {b m} ⟨o,es,ep,e,d,r⟩=>⟨o,es,ep,base_of e (noA e d),d,r⟩
    have hKb:K.In (hidT s₁.heap H):=fun b o e=>base_of (KX b o e) (by
      cases q:H b with
      |none=>rfl
      | some u=>
        have e':b=a:=hA b (by rw[q];simp)
        subst e'
        rw[hK (by rw[q];simp)]at e;cases e)
    have hM:Mod K mg (hidT s₁.heap H):=⟨hKb,nsK hns,⟨mb,nsK hb,hbb⟩,let ⟨mc,h1,h2⟩:=hlim;⟨mc,nsK h1,h2⟩⟩
    have e0:Env0 P w K mg (hidT s₁.heap H) callerA [] s₁ H:=⟨rfl,hM,fun b o e=>a1V e,Nat.le_of_eq (vH _ _),trivial,fun b hb=>absurd (show b∈([]:List Addr) from hb) (by simp),hok,.of_eq hg⟩
    refine Jg ((F _ hKb (nsK hns)).run callerA [] s₁ H ⟨[.ref a], []⟩ [.ref a] [.ref a] _ _ hr e0 (hbind s₁ (.ref a)) (.cons rfl .nil) (hsp H hO hS)) fun r s' h=>?_
    cases r with
    |error e=>exact(hCX H e s' h).elim
    | ok fl =>
      cases fl with
      |next=>exact False.elim h
      |brk=>exact False.elim h
      |cont=>exact False.elim h
      | ret u=>
        obtain⟨v,H',os,bare,un,hok',r',q⟩:=h
        have q':v= .bl true:=q
        subst q'
        obtain rfl:u=Value.bool true:=r'
        refine⟨rfl,OldK.of_keep fun b o e=>?_,os,bare⟩
        cases q:H b with
        |none=>exact un.keep b o e q (by intro z;exact absurd (show b∈([]:List Addr) from z) (by simp)) (by simp)
        | some u=>
          rcases hO b with z | ⟨ob,xs,z⟩
          · rw[q]at z;cases z
          · have z2:=un.frzs b ob _ z
            obtain⟨e1,_⟩:=hok b _ z
            obtain⟨e2,_⟩:=hok' b _ z2
            rw[e]at e1;cases e1
            exact e2
  cases hk:K.lookup a with
  | some o=>
    have e:=KX a o hk
    rw[ha]at e
    cases e
    refine core (fun _=>none) (fun _=> .inl rfl) (.inr ⟨_,vs.toArray,_,hk,rfl,rfl,rfl,by rw[Yx,lenV];exact hl,by simpa using rv⟩) (fun b u z=>by have z':(none:Option HO)=some u:=z;cases z') (fun b z=>absurd rfl z) fun z=>absurd rfl z
  | none =>
    refine core (fun b=>if b=a then some (.frz { cls:= .type "list",data:= .seq vs.toArray } (.lst (ns.map V.int))) else none) (fun b=>?_) (.inl (.inr ⟨{ cls:= .type "list",data:= .seq vs.toArray },if_pos rfl⟩)) (fun b u z=>?_) (fun b z=>?_) fun _=>hk
    · by_cases hb:b=a
      · exact .inr ⟨_,_,if_pos hb⟩
      · exact .inl (if_neg hb)
    · by_cases hb:b=a
      · have z':=(if_pos hb).symm.trans z
        cases z'
        subst hb
        exact⟨ha,by rw[Ya];exact hl,vs,_,rv,ha⟩
      · have z':=(if_neg hb).symm.trans z
        cases z'
    · by_cases hb:b=a
      · exact hb
      · exact absurd (if_neg hb) z
end L2
namespace L2
open PySem PySem.Spec PyProof.Rows
abbrev KOf {K:W.Frag}{h:Heap}(_:K.In h):W.Frag:=K
theorem walk_of {l:W.OpenLaw}{n k:Nat}{q:Program}{loose:List Str}{XP:(Str->Option Value)->Heap->Prop}{YP:World->Heap->Prop}{d:DefRec}{K:Params->W.Frag}{CX:World->CXT}{sp:World->Sp}{x:Str}
  (hn:l.most=some n) (hn2:n<=sizeLine) (hdf:d.params.defaults= []) (hr:Room k callerA)
  (hY:∀(w:World)(h:Heap),YP w h->(K w.params).In h)
  (F : ∀(w:World)(mg:Str->Option Value)(fa:Addr)(h:Heap),(K w.params).In h->h.Ns mainGlobals mg->mg d.name=some (.ref fa)->
   ∃ fd:FuncData,(∀(s:Shared)(u:Value),BindsTo s fd ⟨[u], []⟩ [(x,u)])/\
    ∀base:Heap,(K w.params).In base->base.Ns mainGlobals mg->FnOk l.prog w (K w.params) mg base (CX w) k fa fd [x] (sp w))
  (hsp:∀(w:World)(H:Hp)(a:Addr)(ns:List Int),ns.length<=n->Only H->SqL (K w.params) H a (ns.map V.int)->sp w [.ref a] H (fun v _=>v= .bl true) fun _ _ _=>False)
  (hCX:∀(w:World)(H:Hp)(s:Shared)(e:Value)(s':Shared),CX w [] H s (fun _ _ _=>False) e s'->False) :
  W.WalkO q loose XP YP l.row.toRowW d [] (fun f vs=>PySem.call f vs):=by
 refine Att.attach_call hn hdf fun w s₀ s₁ mg mb fa o pm cd doc a vs ns G Y ho hd hcd hmg hobj hints hlen hg=>?_
 have KX:=hY w _ Y
 obtain⟨fd,hb,hF⟩:=F w mg fa _ KX G.T.g hmg
 exact yS KX G.T.g G.T.b G.T.builtins G.T.nolimit hg hobj hints (Y4 hlen hn2) hr hF hb (fun H hO hS=>hsp w H a ns hlen hO hS) fun H e s'=>hCX w H s₁ e s'
end L2
namespace L2
open PySem PySem.Spec PyProof.Rows
def defArgs (s:Stmt):Arguments:=match s with
 |.FunctionDef _ a _ _ _ _ _ _ _ _=>a
 |_=>{ posonlyargs:=[],args:=[],vararg:=none,kwonlyargs:=[],kw_defaults:=[],kwarg:=none,defaults:=[] }
def defBody (s:Stmt):List Stmt:=match s with
 |.FunctionDef _ _ b _ _ _ _ _ _ _=>b
 |_=>[]
def defScope (s:Stmt):Scope:=match s with
 |.FunctionDef _ _ _ _ _ _ sc _ _ _=>sc
 |_=>{ kind:= .function,names:=[],isGenerator:=false,isCoroutine:=false }
abbrev CX0:CXT:=fun _ _ _ _ _ _=>False
abbrev E0:XK:=fun _ _ _=>False
theorem aN {X:Cx}:Passes CX0 X E0:=fun _ _ _ _ _ _ _ h=>h.elim
structure Fun (K:W.Frag)(x qual:Str)(st:Stmt)(f:Addr)(fd:FuncData):Prop where
 ex :∃(oc:Value)(od:Option Addr)(kV doc pm:Value)(an:Option Addr)(cdv ct:Value)(osl:Array (Option Value)),
  fd=W.fnOf x qual (defArgs st) (defBody st) (defScope st) .none kV doc pm an cdv ct/\K.lookup f=some ⟨oc,od,.func fd,osl⟩/\W.codeIn K cdv qual=true
 kp:W.keepIn K (.ref f)=true
section
variable {P:Program}{w:World}{K:W.Frag}{mg:Str->Option Value}{base:Heap}
theorem Fun.ok {x qual:Str}{st:Stmt}{f:Addr}{fd:FuncData}{N ps:List Str}{k:Nat}{sp:Sp}(F:Fun K x qual st f fd)(S:FnScope N ps (defScope st))(len:∀vs H Q E,sp vs H Q E->vs.length=ps.length)
  (hbody:∀(cdv:Value)(A:Around)(outer:List Env)(s:Shared)(H:Hp)(vs:List V)(Q:VK)(E:XK),Room k (A.deeper (envOfC qual (defScope st) s.heap.objs.size f cdv))->sp vs H Q E->
   ∃t,PSs (cxOf CX0 P w K mg base N qual (defScope st) f cdv A outer s H E).nox (defBody st) t/\t { nx:=fun _ H'=>Q .non H',rt:=Q } (start N vs) H):FnOk P w K mg base CX0 (k+1) f fd ps sp:=by
 obtain⟨oc,od,kV,doc,pm,an,cdv,ct,osl,rfl,lk,hcd⟩:=F.ex
 refine a3G lk hcd S len fun A outer s H vs Q E hr hsp=>?_
 obtain⟨t,h,q⟩:=hbody cdv A outer s H vs Q E hr hsp
 exact⟨t,h.nox,q⟩
theorem Fun.binds {x qual:Str}{st:Stmt}{f:Addr}{fd:FuncData}{ps:List Str}(F:Fun K x qual st f fd)
  (h:∀(kV doc pm:Value)(an:Option Addr)(cdv ct:Value)(us:List Value),us.length=ps.length->bindArgs (W.fnOf x qual (defArgs st) (defBody st) (defScope st) .none kV doc pm an cdv ct) ⟨us, []⟩=pure (ps.zip us)):Binds K fd ps []:=by
 obtain⟨oc,od,kV,doc,pm,an,cdv,ct,osl,rfl,lk,hcd⟩:=F.ex
 exact .all (h kV doc pm an cdv ct)
theorem zM {x qual:Str}{st:Stmt}{f:Addr}{oc:Value}{od an:Option Addr}{osl:Array (Option Value)}{kV doc pm cdv ct:Value}(l:K.lookup f=some ⟨oc,od,.func (W.fnOf x qual (defArgs st) (defBody st) (defScope st) .none kV doc pm an cdv ct),osl⟩)
  (c:W.codeIn K cdv qual=true) (k:W.keepIn K (.ref f)=true):Fun K x qual st f (W.fnOf x qual (defArgs st) (defBody st) (defScope st) .none kV doc pm an cdv ct):=⟨⟨oc,od,kV,doc,pm,an,cdv,ct,osl,rfl,l,c⟩,k⟩
end
theorem a3F {A:Around}{k:Nat}(hr:Room k A):A.units+1<cLine:=XA (Nat.add_le_add_left (by decide:1<=64) _) hr.units
theorem lK {n:Nat}(h:n<=1000):n<sizeLine:=XA h (by decide)
section
variable {X:Cx}
theorem pv (i:Nat){x:Str}{pos:Pos}(hN:X.N[i]? =some x:=by rfl)(hv:Vis X.env.scope x:=by first | exact Or.inl rfl | exact Or.inr (Or.inl rfl) | exact Or.inr (Or.inr rfl))(hd:(x == ("__debug__":Str))=false:=by decide)
  (hcd:(x == ("__classdict__":Str))=false:=by decide):PE X (.Name x pos) (tVar i):=xJ hN hv hd hcd
end
theorem vD {A B:Prop}(h:B):if false=true then A else B:=by
 rw[if_neg Yn]
 exact h
theorem bK {c A B:Prop}[Decidable c](h1:c->A)(h2:¬ c->B):if c then A else B:=by
 by_cases h:c
 ·rw[if_pos h]
  exact h1 h
 ·rw[if_neg h]
  exact h2 h
theorem yZ {c A B:Prop}[Decidable c](hc:c)(h:B):if (!decide c)=true then A else B:=by
 rw[Yl hc]
 exact vD h
def Same (H H':Hp):Prop:=∀b o,H b=some o->H' b=some o
theorem Same.refl (H:Hp):Same H H:=fun _ _ h=>h
theorem Same.trans {H H1 H2:Hp}(a:Same H H1)(b:Same H1 H2):Same H H2:=fun c o h=>b c o (a c o h)
theorem Same.seq {K:W.Frag}{H H':Hp}{a:Addr}{xs:List V}(e:Same H H')(h:SqL K H a xs):SqL K H' a xs:=by
 rcases h with (h | ⟨o,h⟩) | h
 ·exact .inl (.inl (e _ _ h))
 ·exact .inl (.inr ⟨o,e _ _ h⟩)
 ·exact .inr h
end L2
namespace L2
open PySem PySem.Spec PyProof.Rows
theorem bU:bootBuiltins "len"=some (.builtin "len"):=by decide +kernel
theorem a0G:bootBuiltins "min"=some (.builtin "min"):=by decide +kernel
theorem a5J:bootBuiltins "max"=some (.builtin "max"):=by decide +kernel
theorem fC:bootBuiltins "list"=some (.type "list"):=by decide +kernel
theorem a5K:bootBuiltins "int"=some (.type "int"):=by decide +kernel
theorem kY (a:Nat):Builtin.Int.intBits (a:Int)=if a=0 then 0 else a.log2+1:=by
 unfold Builtin.Int.intBits
 by_cases h:a=0
 ·subst h;rfl
 ·have h':¬ ((a:Int) == 0)=true:=by
   intro q
   have:=XF.mp q
   omega
  rw[if_neg h',if_neg h]
  rfl
theorem bits_le {a n:Nat}(h:a<2 ^ n):Builtin.Int.intBits (a:Int)<=n:=by
 rw[kY]
 split
 ·exact Xx _
 ·rename_i h0
  exact(Nat.log2_lt h0).mpr h
theorem a2Q (a:Nat):a<2 ^ Builtin.Int.intBits (a:Int):=by
 rw[kY]
 split
 ·rename_i h;subst h;exact Nat.one_pos
 ·exact Nat.lt_log2_self
theorem kZ {i:Int}{n:Nat}(h:i.natAbs<2 ^ n):Builtin.Int.intBits i<=n:=by
 unfold Builtin.Int.intBits
 split
 ·exact Xx _
 ·rename_i h0
  have h1:i.natAbs≠0:=by
   intro q
   apply h0
   have:i=0:=by omega
   subst this;rfl
  exact(Nat.log2_lt h1).mpr h
theorem rD:∀(n a b:Nat),a<2 ^ n->b<2 ^ n->a+b=(a ^^^ b)+2*(a &&& b):=by
  intro n
  induction n with
  | zero => intro a b ha hb;have:a=0:=by simpa using ha
            have:b=0:=by simpa using hb
            subst_vars;rfl
  | succ n ih=>
    intro a b ha hb
    have e:=ih (a / 2) (b / 2) (by omega) (by omega)
    have x1:(a ^^^ b) / 2=a / 2 ^^^ b / 2:=Nat.xor_div_two
    have x2:(a &&& b) / 2=a / 2 &&& b / 2:=Nat.and_div_two
    rw[<-x1,<-x2]at e
    have y1:(a ^^^ b) % 2=(a % 2+b % 2) % 2:=by
      have:=Nat.xor_mod_two_eq_one (a:=a) (b:=b)
      omega
    have y2:(a &&& b) % 2=(a % 2)*(b % 2):=by
      have:=Nat.and_mod_two_pow (a:=a) (b:=b) (n:=1)
      rcases XG a with h | h <;> rcases XG b with h' | h' <;> simp[h,h']at this ⊢ <;> omega
    have z1:=Nat.div_add_mod (a ^^^ b) 2
    have z2:=Nat.div_add_mod (a &&& b) 2
    rcases XG a with h | h <;> rcases XG b with h' | h' <;> rw[h,h']at y1 y2 <;> omega
theorem a0J {a b n:Nat}(ha:a<2 ^ (n+1))(hb:b<2 ^ (n+1))(ha':2 ^ n<=a)(hb':2 ^ n<=b):a ^^^ b<2 ^ n:=by
 apply Nat.lt_pow_two_of_testBit
 intro i hi
 rw[Xl]
 by_cases e:i=n
 ·subst e
  have h1:a.testBit i=true:=by
   rw[Y1]
   have:a / 2 ^ i=1:=by
    apply X9
    ·simpa using ha'
    ·rw[XW]at ha;omega
   rw[this];rfl
  have h2:b.testBit i=true:=by
   rw[Y1]
   have:b / 2 ^ i=1:=by
    apply X9
    ·simpa using hb'
    ·rw[XW]at hb;omega
   rw[this];rfl
  rw[h1,h2];rfl
 ·have h1:a.testBit i=false:=Y5 (Yh ha (Ys (by decide) (by omega)))
  have h2:b.testBit i=false:=Y5 (Yh hb (Ys (by decide) (by omega)))
  rw[h1,h2];rfl
theorem band (a b:Nat):Builtin.bitAnd (a:Int) (b:Int)=((a &&& b:Nat):Int):=by
 rw[PyProof.Rows.bitAnd_pp (by omega) (by omega)];rfl
theorem bxor (a b:Nat):Builtin.bitXor (a:Int) (b:Int)=((a ^^^ b:Nat):Int):=by
 have h:=rD (a+b) a b (XA (Nat.le_add_right a b) Nat.lt_two_pow_self) (XA (Nat.le_add_left b a) Nat.lt_two_pow_self)
 unfold Builtin.bitXor
 rw[PyProof.Rows.bitOr_and,band]
 omega
theorem jR (k:Nat):(2:Int) ^ ((k:Int)).toNat=((2 ^ k:Nat):Int):=by
 rw[YD];simp
theorem a7E (a k:Nat):(a:Int)*2 ^ ((k:Int)).toNat=((a <<< k:Nat):Int):=by
 rw[jR,Xw];simp
theorem a7D (a k:Nat):(a:Int) / 2 ^ ((k:Int)).toNat=((a >>> k:Nat):Int):=by
 rw[jR,Nat.shiftRight_eq_div_pow];rfl
theorem bit_at (b k:Nat):(((b >>> k:Nat) &&& 1:Nat):Int)=1↔b.testBit k=true:=by
 unfold Nat.testBit
 rw[Nat.and_comm]
 have h:1 &&& b >>> k=(b >>> k) % 2:=by rw[Nat.and_comm];exact Nat.and_one_is_mod _
 rw[h]
 have:(b >>> k) % 2=0\/(b >>> k) % 2=1:=by omega
 rcases this with h | h <;> rw[h] <;> decide
section
variable {X:Cx}
def rN (C:Nat->Nat->Prop)(g:Nat->Nat->Nat):R2:=fun x y H Q=>∃a b:Nat,x= .int a/\y= .int b/\C a b/\Q (.int ((g a b:Nat):Int)) H
theorem opN {f:Value->Value->Sem Value}{C:Nat->Nat->Prop}{g:Nat->Nat->Nat}
  (rule:∀(i j:Nat)(t u:Tok)(s:Shared)(Q:Value->Shared->Prop)(E:Value->Shared->Prop),C i j->Q (.int ((g i j:Nat):Int) s.toks) { s with toks:=s.toks+1 }->wpAny (model X.prog X.w) X.A (f (.int i t) (.int j u)) Q E s) :
  OpR X f (rN C g):=by
 intro pins s σ H x y v u Q I rx ry h
 obtain⟨i,j,rfl,rfl,hc,q⟩:=h
 obtain⟨t,rfl⟩:=rx
 obtain⟨t',rfl⟩:=ry
 exact rule i j t t' s _ _ hc ⟨.int ((g i j:Nat):Int),H,I.tok _,⟨_,rfl⟩,q⟩
theorem rZ:OpR X (binaryOp .BitXor) (rN (fun _ _=>True) fun a b=>a ^^^ b):=opN fun i j _ _ _ _ _ _ q=>by
 refine xor_int ?_
 rw[bxor];exact q
theorem sE:OpR X (binaryOp .LShift) (rN (fun a k=>a<2 ^ 4000/\k<=4000) fun a k=>a <<< k):=opN fun a k _ _ _ _ _ hc q=>by
 refine lshift_int (by omega) ?_ ?_
 ·have:=bits_le hc.1
  omega
 ·rw[a7E];exact q
def CShl (i j:Int):Prop:=0<=j/\j<=4000/\i.natAbs<2 ^ 4000
theorem a1Q:OpR X (binaryOp .LShift) (rI CShl fun i j=> .int (i*2 ^ j.toNat)):=opI fun i j _ _ _ _ _ hc q=>by
 refine lshift_int hc.1 ?_ q
 have:=kZ hc.2.2
 have:=hc.2.1
 omega
def CMulB (i j:Int):Prop:=i.natAbs<2 ^ 4000/\j.natAbs<2 ^ 4000
theorem CMulB.ok {i j:Int}(h:CMulB i j):IntMulOk i j:=by
 unfold IntMulOk
 have h1:=kZ h.1
 have h2:=kZ h.2
 have h3:Builtin.Int.intTooBig ((Builtin.Int.intBits i:Int)+(Builtin.Int.intBits j:Int))=false:=by
  unfold Builtin.Int.intTooBig
  apply Ym
  have:(8000:Int)<=bitsLine:=by decide
  omega
 simp only[h3,Bool.and_false]
 decide
theorem a1R:OpR X (binaryOp .Mult) (rI CMulB fun i j=> .int (i*j)):=opI fun _ _ _ _ _ _ _ hc q=>mul_int q hc.ok
theorem a6O:MtR X "int.bit_length" (fun x vs H Q=>∃i,x= .int i/\vs= []/\Q (.int ((Builtin.Int.intBits i:Nat):Int)) H):=by
 intro pins s σ H x xs v us Q I rx rv h
 obtain⟨i,rfl,rfl,q⟩:=h
 obtain⟨t,rfl⟩:=rx
 cases rv
 exact call_int_bit_length ⟨.int _,H,I.tok _,⟨_,rfl⟩,q⟩
end
section
variable {K:W.Frag}
end
section
variable {X:Cx}{e:Expr}{te:TE}{st:Stmt}{ts:TS}
def tCut (t:TE):TE:=fun σ H Q=>∃P:VK,t σ H P/\∀x H',P x H'->Q x H'
theorem bR (h:PE X e te):PE X e (tCut te):=by
 intro pins s σ H Q I hw
 obtain⟨P,h1,h2⟩:=hw
 exact thn (h pins s σ H P I h1) fun v s1 ⟨x,H1,I1,r,q⟩=>⟨x,H1,I1,r,h2 x H1 q⟩
def tCutS (t:TS):TS:=fun D σ H=>∃N:St->Hp->Prop,t { D with nx:=N } σ H/\∀σ' H',N σ' H'->D.nx σ' H'
theorem gC (h:PS X st ts):PS X st (tCutS ts):=by
 intro pins s σ H D I hw
 obtain⟨N,h1,h2⟩:=hw
 refine thn (h pins s σ H { D with nx:=N } I h1) fun f s1 q=>?_
 cases f with
 |next=>obtain⟨σ',H',I',q⟩:=q;exact⟨σ',H',I',h2 σ' H' q⟩
 |ret v=>exact q
 |brk=>exact q
 |cont=>exact q
end
theorem dec_true {p:Prop}[Decidable p](h:decide p=true):p:=YT h
theorem dec_false {p:Prop}[Decidable p](h:¬ decide p=true):¬ p:=fun q=>h (Yl q)
theorem uM {z:Int}{n:Nat}(h0:0<=z)(h1:z<2 ^ n):z.natAbs<2 ^ n:=by
 obtain⟨k,rfl⟩:=Y2 h0
 have:(k:Int)<((2 ^ n:Nat):Int):=by simpa using h1
 omega
theorem a0I {z:Int}{n:Nat}(h:z.natAbs<2 ^ n)(hn:n<=4000:=by decide):z.natAbs<2 ^ 4000:=Yh h (Ys (by decide) hn)
theorem eE {z:Int}(h0: -18446744073709551616<z)(h1:z<18446744073709551616):z.natAbs<2 ^ 4000:=a0I (n:=64) (by omega)
theorem qF {a b:Nat}(h:a<=b):(2:Int) ^ a<=2 ^ b:=by
 have:=Ys (n:=2) (by decide) h
 exact_mod_cast this
theorem yO {a n:Nat}(h:a<2 ^ n)(hn:n<=4000:=by decide):a<2 ^ 4000:=Yh h (Ys (by decide) hn)
theorem a5P {ns:List Int}{k:Int}(h:0<ns.length):∃v:Int,atI (ns.map V.int) (k % (((ns.map V.int).length:Nat):Int))=some (.int v):=by
 rw[Ya]
 have h0:0<=k % ((ns.length:Nat):Int):=Int.emod_nonneg _ (by omega)
 have h1:k % ((ns.length:Nat):Int)<((ns.length:Nat):Int):=Jc _ (by omega)
 generalize k % ((ns.length:Nat):Int)=j at h0 h1
 have hk:j.toNat<ns.length:=by omega
 refine⟨ns[j.toNat],?_⟩
 have q:atI (ns.map V.int) ((j.toNat:Nat):Int)=some (.int ns[j.toNat]):=bV (by rw[Yj,Yb hk] <;> rfl)
 have e:((j.toNat:Nat):Int)=j:=by omega
 rw[e]at q
 exact q
def spLaw (K:W.Frag):Sp:=fun vs H Q _=>∃(a:Addr)(ns:List Int),vs= [.ref a]/\SqL K H a (ns.map V.int)/\ns.length<=63/\∀H',Q (.bl true) H'
def spDraw (K:W.Frag):Sp:=fun vs H Q _=>∃(a:Addr)(ns:List Int)(k m:Int),vs= [.ref a,.int k,.int m]/\SqL K H a (ns.map V.int)/\ns.length<=63/\0<=k/\k<=100000/\0<m/\∀d:Int,0<=d->d<m->Q (.int d) H
end L2
namespace L2
open PySem PySem.Spec PyProof.Rows
theorem vP (g:Array Value->Array Value)(o:Obj):(Obj.mapFields g o).dict=o.dict:=by
 obtain⟨c,d,x,sl⟩:=o
 cases x <;> rfl
def TrD (h B:Heap)(e:Addr)(k a0:Value)(od:Option Addr)(fl:Value):Prop:=
 ∃oe vs T oT ts,(h.get? e=some oe/\oe.cls=k/\oe.dict=od/\oe.data= .fields vs)/\(vs[0]? =some a0/\vs[1]? =some (.ref T))/\(B.get? T=none/\T≠e)/\h.get? T=some oT/\oT.data= .fields ts/\ts[3]? =some fl
def FlyD (B:Heap)(l:List Env)(e:Addr)(k a0:Value)(od:Option Addr)(h:Heap):Prop:=(B.StaysIn h/\B.get? e=none)/\h.FunFrames B l/\TrD h B e k a0 od .none
def HeldD (B:Heap)(l:List Env)(e:Addr)(k a0:Value)(od:Option Addr)(L:Addr)(h:Heap):Prop:=(B.StaysIn h/\B.get? e=none)/\h.FunFrames B l/\TrD h B e k a0 od (rawInt L)
theorem FlyD.obj {B h:Heap}{l:List Env}{e:Addr}{k a0:Value}{od:Option Addr}(x:FlyD B l e k a0 od h):∃oe vs,h.get? e=some oe/\oe.cls=k/\oe.dict=od/\oe.data= .fields vs:=by
 obtain⟨_,_,oe,vs,_,_,_,⟨q1,q2,q3,q4⟩,_⟩:=x
 exact⟨oe,vs,q1,q2,q3,q4⟩
theorem FlyD.tail {B h:Heap}{env:Env}{l:List Env}{e:Addr}{k a0:Value}{od:Option Addr}(x:FlyD B (env::l) e k a0 od h):FlyD B l e k a0 od h:=
 let ⟨a,⟨_,_,b⟩,c⟩:=x;⟨a,b,c⟩
section
variable {M:Model}{A:Around}{E:Value->Shared->Prop}{s:Shared}{B:Heap}{env:Env}{outer l:List Env}{L e:Addr}{k a0:Value}{od:Option Addr}
theorem qZ {oe:Obj}{vs:Array Value}{hd0:Value}{nxt:Bool}{Q:Unit->Shared->Prop}(fr:A.frames=some (env::outer))(ff:s.heap.FunFrames B (env::outer))(fL:env.frame=some L)(st:B.StaysIn s.heap/\B.get? e=none)
  (at_:s.heap.get? e=some oe) (dat:oe.data= .fields vs) (sz:1<vs.size) (arg:vs[0]? =some a0)
  (next:∀h',HeldD B (env::outer) e oe.cls a0 oe.dict L h'->s.heap.UpToSlots h'->Q () { s with heap:=h' }) :
  wpAny M A (do let a<-frameOf env;let pl<-entryPlaceOf L nxt;let b<-EntryCells.newEntry hd0 a .none (rawInt L) .none pl;setField (.ref e) 1 b) Q E s:=by
 have eF:e∉frs (env::outer):=fun z=>by
  obtain⟨_,o,q,n⟩:=ff.mem z
  cases at_.symm.trans q
  exact n vs dat
 refine YC (wpAny_frameOf_fun fr ff fL fun h1 so=>YC (wpAny_entryPlaceOf fun pl isp=>?_))
 unfold EntryCells.newEntry newFields
 refine YC (wpAny_newObj_type ?_ (isp.sizeOk5 _ _ _ _ _))
 generalize htb:([hd0,Value.ref L,Value.none,rawInt L,Value.none]++(if pl.isEmpty then List.replicate 6 Value.none else pl)).toArray=tb
 have tb3:tb[3]? =some (rawInt L):=by
  subst htb
  rcases isp with rfl | ⟨_,_,_,_,_,_,_,rfl⟩ <;> simp
 clear htb isp
 have e1:h1.get? e=some oe:=(so.2.1 e eF).trans at_
 have B1:B.StaysIn h1:=fun b o q=>(so.2.1 b fun z=>by have:=(ff.mem z).1;rw[q]at this;cases this).trans (st.1 b o q)
 have tE:h1.objs.size≠e:=Nat.ne_of_gt (Yq e1)
 have e2:=Yr (h:=h1) { cls:= .type "traceback",dict:=none,data:= .fields tb } e1
 refine Jh e2 dat sz (next _ ?_ ?_)
 all_goals
  have keep:∀b o,b≠e->h1.get? b=some o->((h1.push { cls:= .type "traceback",dict:=none,data:= .fields tb }).update e (Obj.mapFields (·.setIfInBounds 1 (Value.ref h1.objs.size)))).get? b=some o:=fun b o n q=>by
   rw[Xe _ _ (Ne.symm n)]
   exact Yr _ q
  have apart:∀b o,s.heap.get? b=some o->(∀ws,o.data≠ .fields ws)->b≠e:=fun b o q n z=>by
   subst z
   cases at_.symm.trans q
   exact n vs dat
 ·have d3:=XY dat (·.setIfInBounds 1 (Value.ref h1.objs.size))
  have e3:=Heap.get?_update_self (Obj.mapFields (·.setIfInBounds 1 (Value.ref h1.objs.size))) e2 (Obj.isFreed_of_fields d3)
  have t3:=(Xe (h1.push { cls:= .type "traceback",dict:=none,data:= .fields tb }) (Obj.mapFields (·.setIfInBounds 1 (Value.ref h1.objs.size))) (Ne.symm tE)).trans (YL h1 rfl)
  refine⟨⟨fun b o q=>keep b o (fun z=>by rw[z,st.2]at q;cases q) (B1 b o q),st.2⟩,ff.of_keeps fun b o q n=>?_,_,_,h1.objs.size,_,_,⟨e3,Obj.cls_mapFields _ _,vP _ _,d3⟩,⟨?_,by simp[sz]⟩,⟨B1.fresh,tE⟩,t3,rfl,tb3⟩
  ·obtain⟨sl,q1⟩:=so.2.2 b o q
   exact⟨_,keep b _ (apart b o q n) q1,rfl⟩
  ·rw[Array.getElem?_setIfInBounds_ne (by decide)]
   exact arg
 ·intro b o q n
  obtain⟨sl,q1⟩:=so.2.2 b o q
  exact⟨sl,keep b _ (apart b o q n) q1⟩
theorem pL {fl:Value}{Q:Unit->Shared->Prop}(st:B.StaysIn s.heap/\B.get? e=none)(ff:s.heap.FunFrames B l)(tr:TrD s.heap B e k a0 od fl)
  (next:∀h',FlyD B l e k a0 od h'->s.heap.UpToSlots h'->Q () { s with heap:=h' }):wpAny M A (setFlight (.ref e) none) Q E s:=by
 obtain⟨oe,vs,T,oT,ts,⟨q1,q2,q3,q4⟩,⟨q5,q6⟩,⟨q7,q8⟩,q9,q10,q11⟩:=tr
 have sz:3<ts.size:=(Y3.mp q11).1
 have off:∀b,b≠T->(s.heap.update T (Obj.mapFields (·.setIfInBounds 3 ((none:Option Addr).elim Value.none fun f=>rawInt f)))).get? b=s.heap.get? b:=fun b n=>Xe _ _ (Ne.symm n)
 have apart:∀b o,s.heap.get? b=some o->(∀ws,o.data≠ .fields ws)->b≠T:=fun b o q n z=>by
  subst z
  cases q9.symm.trans q
  exact n ts q10
 unfold setFlight
 refine YC (XZ q1 q4 q6 ?_)
 rw[if_pos (show (Value.ref T != Value.none)=true by simp)]
 refine Jh q9 q10 sz (next _ ⟨⟨fun b o q=>(off b fun z=>by rw[z,q7]at q;cases q).trans (st.1 b o q),st.2⟩,ff.of_keeps fun b o q n=>⟨o,(off b (apart b o q n)).trans q,rfl⟩,?_⟩ fun b o q n=>⟨o.slots,(off b (apart b o q n)).trans q⟩)
 exact⟨oe,vs,T,_,_,⟨(off e (Ne.symm q8)).trans q1,q2,q3,q4⟩,⟨q5,q6⟩,⟨q7,q8⟩,Heap.get?_update_self _ q9 (Obj.isFreed_of_fields (XY q10 _)),XY q10 _,by simp[sz]⟩
theorem sV {Q:Unit->Shared->Prop}(x:HeldD B l e k a0 od L s.heap)(next:∀h',FlyD B l e k a0 od h'->s.heap.UpToSlots h'->Q () { s with heap:=h' }):wpAny M A (setFlight (.ref e) none) Q E s:=
 pL x.1 x.2.1 x.2.2 next
theorem qQ {Q:Unit->Shared->Prop}(x:FlyD B l e k a0 od s.heap)(next:∀h',FlyD B l e k a0 od h'->s.heap.UpToSlots h'->Q () { s with heap:=h' }):wpAny M A (setFlight (.ref e) none) Q E s:=
 pL x.1 x.2.1 x.2.2 next
theorem mZ {Q:Unit->Shared->Prop}(fr:A.frames=some (env::outer))(fL:env.frame=some L)(x:FlyD B (env::outer) e k a0 od s.heap)
  (next:∀h',HeldD B (env::outer) e k a0 od L h'->s.heap.UpToSlots h'->Q () { s with heap:=h' }):wpAny M A (noteFrame (.ref e) env) Q E s:=by
 obtain⟨st,ff,oe,vs,T,oT,ts,⟨q1,q2,q3,q4⟩,⟨q5,q6⟩,⟨q7,q8⟩,q9,q10,q11⟩:=x
 subst q2 q3
 have off:∀b,b≠T->(s.heap.update T (Obj.mapFields (·.setIfInBounds 3 Value.none))).get? b=s.heap.get? b:=fun b n=>Xe _ _ (Ne.symm n)
 have apart:∀b o,s.heap.get? b=some o->(∀ws,o.data≠ .fields ws)->b≠T:=fun b o q n z=>by
  subst z
  cases q9.symm.trans q
  exact n ts q10
 unfold noteFrame
 simp only[fL]
 refine YC (XZ q1 q4 q6 ?_)
 rw[if_pos (show (Value.ref T != Value.none)=true by simp)]
 refine YC (XZ q9 q10 q11 ?_)
 rw[if_neg (show ¬ ((Value.none == rawInt L)=true) by simp[rawInt])]
 refine YC (Jh q9 q10 (Y3.mp q11).1 ?_)
 refine qZ (B:=B) fr (ff.of_keeps fun b o q n=>⟨o,(off b (apart b o q n)).trans q,rfl⟩) fL ⟨fun b o q=>(off b fun z=>by rw[z,q7]at q;cases q).trans (st.1 b o q),st.2⟩ ((off e (Ne.symm q8)).trans q1) q4 (Y3.mp q6).1 q5 fun h' x1 x2=>?_
 exact next h' x1 fun b o q n=>x2 b o ((off b (apart b o q n)).trans q) n
theorem pK {oe:Obj}{vs:Array Value}{Q:Unit->Shared->Prop}(fr:A.frames=some (env::outer))(fL:env.frame=some L)(st:B.StaysIn s.heap/\B.get? e=none)(ff:s.heap.FunFrames B (env::outer))
  (at_:s.heap.get? e=some oe) (dat:oe.data= .fields vs) (arg:vs[0]? =some a0) (bare:vs[1]? =some .none) (next:∀h',FlyD B outer e oe.cls a0 oe.dict h'->s.heap.UpToSlots h'->Q () { s with heap:=h' }) :
  wpAny M A (leaving env (.ref e)) Q E s:=by
 unfold leaving noteFrame
 simp only[fL]
 refine YC (YC (XZ at_ dat bare ?_))
 rw[if_neg (by decide)]
 refine qZ (B:=B) fr ff fL st at_ dat (Y3.mp bare).1 arg fun h1 x1 x2=>?_
 exact sV x1 fun h2 x3 x4=>next h2 x3.tail (x2.trans x4)
theorem yR {Q:Unit->Shared->Prop}(fr:A.frames=some (env::outer))(fL:env.frame=some L)(x:FlyD B (env::outer) e k a0 od s.heap)
  (next:∀h',FlyD B outer e k a0 od h'->s.heap.UpToSlots h'->Q () { s with heap:=h' }):wpAny M A (leaving env (.ref e)) Q E s:=by
 unfold leaving
 exact YC (mZ fr fL x fun h1 x1 x2=>sV x1 fun h2 x3 x4=>next h2 x3.tail (x2.trans x4))
end
end L2
namespace L2
open PySem PySem.Spec PyProof.Rows
theorem a5D {K:W.Frag}{h:Heap}{C:Addr}{bmB:List Value}{newId:String}(kin:K.In h)(hq:W.excIn K C bmB newId=true) :
  ∃bm N nm qn bs hdct sn sub ab col dd k0 k1 k2 k3 k5 mN,h.get? C=some (excClassObj nm qn C N bs bm hdct sn sub ab col dd k0 k1 k2 k3 k5 newId)/\h.Ns N mN/\mN "__init__"=none/\OwnTail h bmB bm:=by
 unfold W.excIn at hq
 split at hq
 ·rename_i dd cdt slots look
  split at hq
  ·rename_i C1 bm j0 j1 j2 j3 nid j5 em es
   simp only[Xv,XF,Bool.not_eq_true']at hq
   obtain⟨⟨⟨⟨⟨e1,e2⟩,e3⟩,e4⟩,e5⟩,e6⟩:=hq
   subst e1 e2
   obtain⟨c1,c2,c3,c4,c5,c6,c7,c8,c9,c10,c11⟩:=cdt
   dsimp only at em e3 e5 e6
   subst em e3
   have esl:slots=#[j0,j1,j2,j3,some (.builtin nid),j5]:=by
    cases slots with
    | mk l=>
     have:l=_:=es
     rw[this]
   subst esl
   exact⟨bm,c4,c1,c5,c2,c6,c7,c8,c9,c10,dd,j0,j1,j2,j3,j5,_,kin _ _ look,.of_isNs (W.isNs_of_in kin e5),W.nsMap_none_of_in kin e5 e6,W.tail_of_in kin e4⟩
  ·cases hq
 ·cases hq
theorem ObjOk.there {P:Program}{w:World}{H:Hp}{h:Heap}{a:Addr}{o:HO}(x:ObjOk P w H h a o):∃ob,h.get? a=some ob:=by
 cases o with
 |lst xs=>obtain⟨_,_,_,_,e⟩:=x;exact⟨_,e⟩
 |tup xs=>obtain⟨_,_,_,ob,e,_⟩:=x;exact⟨_,e⟩
 |dK kvs=>obtain⟨_,_,_,_,o,_,_,e,_⟩:=x;exact⟨_,e⟩
 |dT kvs=>obtain⟨_,_,_,_,o,_,_,e,_⟩:=x;exact⟨_,e⟩
 |set S n=>obtain⟨o,_,_,_,e,_⟩:=x;exact⟨_,e⟩
 |ins C dx fs=>obtain⟨_,_,_,e,_⟩:=x;exact⟨_,e⟩
 |own y=>exact x
 |xd fs=>obtain⟨_,⟨_,_,_,e,_⟩,_⟩:=x;exact⟨_,e⟩
 |rng lo hi=>obtain⟨_,_,_,e⟩:=x;exact⟨_,e⟩
 |frz ob u=>obtain⟨e,_⟩:=x;exact⟨_,e⟩
 |tbl ps=>exact⟨_,(show h.get? a=some _ from x)⟩
 |met f y=>exact⟨_,(show h.get? a=some _ from x)⟩
 |ext φ=>obtain⟨_,e,_⟩:=x;exact e
structure Fly (P:Program)(w:World)(outer:List Env)(H H':Hp)(s s':Shared)(a t:Addr)(cls:Value)(od:Option Addr)(B:Heap):Prop where
 os:s'.os=s.os
 bare:AllBare s'.gens
 un:Un (frs outer) [] H H' s.heap s'.heap
 hok:HOk P w H' s'.heap
 new:H' a=none
 fly:FlyD B outer a cls (.ref t) od s'.heap
 old:∀b o,s.heap.get? b=some o->H b=none->b∉frs outer->B.get? b=some o
 trk:∀b u,H' b=some u->∃o,s'.heap.get? b=some o/\B.get? b=some o
 all:∀b o,s.heap.get? b=some o->b∉frs outer->∃o',B.get? b=some o'
def CXR (P:Program)(w:World):CXT:=fun outer H s E e s'=>∃(a t:Addr)(cls:Value)(od:Option Addr)(H':Hp)(B:Heap),e= .ref a/\Fly P w outer H H' s s' a t cls od B/\E cls od H'
theorem dF {P:Program}{w:World}{X:Cx}:Passes (CXR P w) X E0:=fun _ _ _ _ _ _ _ h=>by
 obtain⟨_,_,_,_,_,_,_,_,q⟩:=h
 exact q.elim
theorem HOk.fromB {P:Program}{w:World}{H:Hp}{h h' B:Heap}(ok:HOk P w H h)(trk:∀b u,H b=some u->∃o,h.get? b=some o/\B.get? b=some o)(st:B.StaysIn h'):HOk P w H h':=fun a u q=>
 (ok a u q).stay (fun b o hb e=>by
  have:∃v,H b=some v:=by
   rcases hb with rfl | hb
   ·exact⟨u,q⟩
   ·exact⟨_,hb⟩
  obtain⟨v,hv⟩:=this
  obtain⟨o',e1,e2⟩:=trk b v hv
  rw[e]at e1;cases e1
  exact st b o e2) (fun _ z=>z) fun _ _ z=>z
section
variable {P:Program}{w:World}{K:W.Frag}{mg:Str->Option Value}{base:Heap}{N:List Str}{qual:Str}{scope:Scope}{f:Addr}{cd:Value}{A:Around}{outer:List Env}{s:Shared}{H:Hp}{E:XK}
theorem dR {pins:List (Addr×Obj)}{σ:St}{H1:Hp}{s1:Shared}{CX:CXT}(I:Inv (cxOf CX P w K mg base N qual scope f cd A outer s H E) pins σ H1 s1){b:Addr}{o:Obj}(e:s.heap.get? b=some o)(n:b∉frs outer) :
  b∉frs (cxOf CX P w K mg base N qual scope f cd A outer s H E).stack:=fun hb=>by
 have hb':=I.stkSub b hb
 rcases YK.mp hb' with z | z
 ·have lt:=Yq e
  have z':b=s.heap.objs.size:=z
  rw[z']at lt
  exact YX _ lt
 ·exact n z
theorem lC {pins:List (Addr×Obj)}{σ:St}{H1:Hp}{s1:Shared}{e t:Addr}{oe:Obj}{vs:Array Value}(I:Inv (cxOf (CXR P w) P w K mg base N qual scope f cd A outer s H E) pins σ H1 s1)
  (he:s1.heap.get? e=some oe) (hd:oe.data= .fields vs) (h0:vs[0]? =some (.ref t)) (h1:vs[1]? =some .none) (new:s.heap.get? e=none) (free:H1 e=none) (hE:E oe.cls oe.dict H1) :
  (cxOf (CXR P w) P w K mg base N qual scope f cd A outer s H E).xe (.ref e) s1:=by
 have fr:=I.ok.frames
 have ff:=I.stack
 generalize hst:(cxOf (CXR P w) P w K mg base N qual scope f cd A outer s H E).stack=stk at fr ff
 have hst':stk=(cxOf (CXR P w) P w K mg base N qual scope f cd A outer s H E).env::outer:=hst.symm
 have nfr:e∉frs stk:=fun z=>by
  obtain⟨_,o,q,n⟩:=Y6 ff z
  cases he.symm.trans q
  exact n vs hd
 have hin:∀env∈stk,∀a,env.frame=some a->a∈e::frs stk:=fun env h a ha=>Yv _ (YV.mpr ⟨env,h,ha⟩)
 have mk:∀b o,s1.heap.get? b=some o->b∉frs stk->b≠e->(W.hideAll s1.heap (e::frs stk)).get? b=some o:=fun b o q n z=>W.hideAll_get _ q fun m=>by
  rcases YK.mp m with m | m
  ·exact z m
  ·exact n m
 have nf0:∀b o,s.heap.get? b=some o->b∉frs outer->b∉frs stk:=fun b o q n=>by rw[<-hst];exact dR I q n
 have ne0:∀b o,s.heap.get? b=some o->b≠e:=fun b o q z=>by rw[z,new]at q;cases q
 refine pK (B:=W.hideAll s1.heap (e::frs stk)) (show _=some ((cxOf (CXR P w) P w K mg base N qual scope f cd A outer s H E).stack) from hst▸fr) rfl ⟨fun b o q=>W.of_hideAll _ q,W.hideAll_none _ (YN ..)⟩ (show Heap.FunFrames _ _ (cxOf (CXR P w) P w K mg base N qual scope f cd A outer s H E).stack from by rw[hst];exact W.funFrames_hide ff hin) he hd h0 h1 fun h2 x1 x4=>?_
 have old:∀b o,s.heap.get? b=some o->H b=none->b∉frs outer->(W.hideAll s1.heap (e::frs stk)).get? b=some o:=fun b o q n nf=>
  mk b o (I.base.keep b o q n nf (fun z=>by cases z)) (nf0 b o q nf) (ne0 b o q)
 have trk0:∀b u,H1 b=some u->∃o,s1.heap.get? b=some o/\(W.hideAll s1.heap (e::frs stk)).get? b=some o:=fun b u q=>by
  obtain⟨o,eo⟩:=(I.hok b u q).there
  refine⟨o,eo,mk b o eo (fun z=>?_) fun z=>by rw[z,free]at q;cases q⟩
  rw[I.stkFree b (by rw[hst];exact z)]at q
  cases q
 have slots:∀b o,s1.heap.get? b=some o->b∈frs outer->∃sl,h2.get? b=some { o with slots:=sl }:=fun b o q hb=>by
  have hm:b∈frs stk:=by
   obtain⟨env,h,hf⟩:=YV.mp hb
   rw[hst']
   exact YV.mpr ⟨env,Yv _ h,hf⟩
  obtain⟨_,o',ho',nf⟩:=Y6 ff hm
  rw[q]at ho';cases ho'
  exact x4 b o q nf
 refine⟨e,t,oe.cls,oe.dict,H1,_,rfl,⟨I.os,I.bare,⟨?_,?_,?_,?_,?_,?_,?_⟩,HOk.fromB I.hok trk0 x1.1.1,free,x1,old,?_,?_⟩,hE⟩
 ·exact fun b o q n nf _=>x1.1.1 b o (old b o q n nf)
 ·intro b o q n hb nx
  obtain⟨sl,q1⟩:=I.base.slot b o q n hb nx
  obtain⟨sl',q2⟩:=slots b _ q1 hb
  exact⟨sl',q2⟩
 ·exact fun b o q n nx=>I.base.free b o q n nx
 ·intro b o q nx
  obtain⟨o',q1⟩:=I.base.there b o q nx
  by_cases hb:b∈frs outer
  ·obtain⟨sl',q2⟩:=slots b _ q1 hb
   exact⟨_,q2⟩
  ·exact⟨o',x1.1.1 b o' (mk b o' q1 (nf0 b o q hb) (ne0 b o q))⟩
 ·exact I.base.tups
 ·exact I.base.frzs
 ·exact I.base.tbls
 ·intro b u q
  obtain⟨o,_,e2⟩:=trk0 b u q
  exact⟨o,x1.1.1 b o e2,e2⟩
 ·intro b o q nf
  obtain⟨o',q1⟩:=I.base.there b o q (fun z=>by cases z)
  exact⟨o',mk b o' q1 (nf0 b o q nf) (ne0 b o q)⟩
theorem mO {pins:List (Addr×Obj)}{σ:St}{H1:Hp}{s1:Shared}{h':Heap}{e:Addr}{cls:Value}{vs:List Value}(I:Inv (cxOf (CXR P w) P w K mg base N qual scope f cd A outer s H E) pins σ H1 s1)
  (hx:Heap.MadeExcOf s1.heap h' e cls vs) (hE:E cls none H1):(cxOf (CXR P w) P w K mg base N qual scope f cd A outer s H E).xe (.ref e) { s1 with heap:=h' }:=by
 obtain⟨t,he,_,_⟩:=hx.there
 have J:Inv (cxOf (CXR P w) P w K mg base N qual scope f cd A outer s H E) pins σ H1 { s1 with heap:=h' }:=I.kept hx.keeps
 refine lC J (t:=t) he rfl rfl rfl ?_ ?_ hE
 ·cases q:s.heap.get? e with
  |none=>rfl
  | some o=>
   obtain⟨o',q1⟩:=I.base.there e o q (fun z=>by cases z)
   rw[hx.new]at q1;cases q1
 ·cases q:H1 e with
  |none=>rfl
  | some u=>
   obtain⟨o,eo⟩:=(I.hok e u q).there
   rw[hx.new]at eo;cases eo
theorem dO {E1:XK}(hE:∀cls od H',E1 cls od H'->E cls od H'):Passes (CXR P w) (cxOf (CXR P w) P w K mg base N qual scope f cd A outer s H E) E1:=by
  intro pins σ H1 s1 ev s2 I h
  obtain⟨a,t,cls,od,H',B,rfl,F,q⟩:=h
  have fr:=I.ok.frames
  refine yR fr rfl F.fly fun h2 x1 x2=>?_
  have old:∀b o,s.heap.get? b=some o->H b=none->b∉frs outer->B.get? b=some o:=fun b o e n nf=>
    F.old b o (I.base.keep b o e n nf (fun z=>by cases z)) (I.base.free b o e n (fun z=>by cases z)) (dR I e nf)
  have slots:∀b o,s2.heap.get? b=some o->b∈frs outer->∃sl,h2.get? b=some { o with slots:=sl }:=fun b o e hb=>by
    have hm:b∈frs (cxOf (CXR P w) P w K mg base N qual scope f cd A outer s H E).stack:=YV.mpr (by
      obtain⟨env,he,hf⟩:=YV.mp hb
      exact⟨env,Yv _ he,hf⟩)
    obtain⟨_,o',ho',nf⟩:=Y6 F.fly.2.1 hm
    rw[e]at ho';cases ho'
    exact x2 b o e nf
  have hst:∀b,b∈frs outer->b∈frs (cxOf (CXR P w) P w K mg base N qual scope f cd A outer s H E).stack:=fun b hb=>YV.mpr (by
      obtain⟨env,he,hf⟩:=YV.mp hb
      exact⟨env,Yv _ he,hf⟩)
  refine⟨a,t,cls,od,H',B,rfl,⟨F.os.trans I.os,F.bare,⟨?_,?_,?_,?_,?_,?_,?_⟩,HOk.fromB F.hok F.trk x1.1.1,F.new,x1,old,?_,?_⟩,hE _ _ _ q⟩
  · exact fun b o e n nf _=>x1.1.1 b o (old b o e n nf)
  · intro b o e n hb nx
    obtain⟨sl,q1⟩:=I.base.slot b o e n hb nx
    obtain⟨sl1,q2⟩:=F.un.slot b _ q1 (I.base.free b o e n nx) (hst b hb) (fun z=>by cases z)
    obtain⟨sl2,q3⟩:=slots b _ q2 hb
    exact⟨sl2,q3⟩
  · exact fun b o e n nx=>by
      obtain⟨o1,q1⟩:=I.base.there b o e nx
      exact F.un.free b o1 q1 (I.base.free b o e n nx) (fun z=>by cases z)
  · intro b o e nx
    obtain⟨o1,q1⟩:=I.base.there b o e nx
    obtain⟨o2,q2⟩:=F.un.there b o1 q1 (fun z=>by cases z)
    by_cases hb:b∈frs outer
    · obtain⟨sl',q3⟩:=slots b _ q2 hb
      exact⟨_,q3⟩
    · obtain⟨o3,q3⟩:=F.all b o1 q1 (dR I e hb)
      exact⟨o3,x1.1.1 b o3 q3⟩
  · exact fun b xs z=>F.un.tups b xs (I.base.tups b xs z)
  · exact fun b o u z=>F.un.frzs b o u (I.base.frzs b o u z)
  · intro b ps z
    obtain⟨m1,z1⟩:=I.base.tbls b ps z
    obtain⟨m2,z2⟩:=F.un.tbls b _ z1
    exact⟨m1++m2,by rw[<-Array.append_assoc];exact z2⟩
  · intro b u z
    obtain⟨o,_,e2⟩:=F.trk b u z
    exact⟨o,x1.1.1 b o e2,e2⟩
  · intro b o e nf
    obtain⟨o1,q1⟩:=I.base.there b o e (fun z=>by cases z)
    exact F.all b o1 q1 (dR I e nf)
end
end L2
namespace L2
open PySem PySem.Spec PyProof.Rows
section
variable {P:Program}{w:World}{K:W.Frag}{mg:Str->Option Value}{base:Heap}{N:List Str}{qual:Str}{scope:Scope}{f:Addr}{cd:Value}{A:Around}{outer:List Env}{s:Shared}{H:Hp}{E:XK}
def tRaise (C:Addr)(E:XK)(t:TA):TS:=fun _ σ H=>t σ H fun vs H1=>vs.length<=sizeLine/\E (.ref C) none H1
theorem cF {x:Str}{C:Addr}{np cpos pos:Pos}{e₀:Expr}{rest:List Expr}{t:TA}{B newId initId:String}{bmB:List Value}(FB:ExcBaseFacts B newId initId bmB)(hm:mg x=some (.ref C))
  (hq:W.excIn K C bmB newId=true) (ha:PA (cxOf (CXR P w) P w K mg base N qual scope f cd A outer s H E) (e₀::rest) t)
  (hx:Gl (cxOf (CXR P w) P w K mg base N qual scope f cd A outer s H E) x:=by rfl) (hd:(x == ("__debug__":Str))=false:=by decide)
  (he:starEach (e₀::rest) (cxOf (CXR P w) P w K mg base N qual scope f cd A outer s H E).env=(false,eval e₀ (cxOf (CXR P w) P w K mg base N qual scope f cd A outer s H E).env)::starEach rest (cxOf (CXR P w) P w K mg base N qual scope f cd A outer s H E).env:=by rfl)
  (hpl:(backTo cpos (starEach rest (cxOf (CXR P w) P w K mg base N qual scope f cd A outer s H E).env)).any (·.1)=false:=by rfl) :
  PS (cxOf (CXR P w) P w K mg base N qual scope f cd A outer s H E) (.Raise (some (.Call (.Name x np) (e₀::rest) [] cpos)) none pos) (tRaise C E t):=by
 intro pins s1 σ H1 D I hw
 obtain⟨bm,N',nm,qn,bs,hdct,sn,sub,ab,col,dd,k0,k1,k2,k3,k5,mN,hC,hN,hni,T⟩:=a5D I.ok.mod.kin hq
 refine wpAny_Raise_call_subT (C:=C) (nm:=nm) (q:=qn) (N:=N') (bs:=bs) (bm:=bm) (hdct:=hdct) (sn:=sn) (sub:=sub) (ab:=ab) (col:=col) (dd:=dd) (k0:=k0) (k1:=k1) (k2:=k2) (k3:=k3) (k5:=k5) FB (mN:=mN)
  (T.hasType FB.hasBase) (I.ok.hd rfl) (by rw[he];exact hpl) hni (dZ I hx hm ⟨rfl,?_⟩ hd)
 have h:=ha cpos pins s1 σ H1 _ I hw
 rw[he]at h ⊢
 exact Calls.evalArgs_plain (Y8 h (fun us s2 ⟨vs,H2,I2,rv,z,q⟩=>⟨rfl,by rw[<-rv.length];exact z,I2.bk _ _ hC,hN.keeps I2.bk,T.keeps I2.bk,fun h' e hx=>mO I2 hx q⟩) fun _ _ y=>y)
theorem Fun.okR {x qual:Str}{st:Stmt}{f:Addr}{fd:FuncData}{N ps:List Str}{k:Nat}{sp:Sp}(F:Fun K x qual st f fd)(S:FnScope N ps (defScope st))(len:∀vs H Q E,sp vs H Q E->vs.length=ps.length)
  (hbody:∀(cdv:Value)(A:Around)(outer:List Env)(s:Shared)(H:Hp)(vs:List V)(Q:VK)(E:XK),Room k (A.deeper (envOfC qual (defScope st) s.heap.objs.size f cdv))->sp vs H Q E->
   ∃t,PSs (cxOf (CXR P w) P w K mg base N qual (defScope st) f cdv A outer s H E) (defBody st) t/\t { nx:=fun _ H'=>Q .non H',rt:=Q } (start N vs) H):FnOk P w K mg base (CXR P w) (k+1) f fd ps sp:=by
 obtain⟨oc,od,kV,doc,pm,an,cdv,ct,osl,rfl,lk,hcd⟩:=F.ex
 exact a3G lk hcd S len fun A outer s H vs Q E hr hsp=>hbody cdv A outer s H vs Q E hr hsp
end
section
variable {X:Cx}
def excO (cls:Value)(a:Addr)(od:Option Addr):HO:= .ext fun h=>∃o vs,h.get? a=some o/\(o.cls=cls/\o.dict=od)/\o.data= .fields vs
theorem land {pins:List (Addr×Obj)}{σ:St}{H1 H':Hp}{s1 s':Shared}{a t:Addr}{cls:Value}{od:Option Addr}{B h6:Heap}(I:Inv X pins σ H1 s1)(F:Fly X.prog X.w X.stack H1 H' s1 s' a t cls od B)
  (fl:FlyD B X.stack a cls (.ref t) od h6) (sm:s'.heap.UpToSlots h6):Inv X pins σ (upd H' a (excO cls a od)) { s' with heap:=h6 }:=by
 obtain⟨oe,vs,ee,ec,eo,ed⟩:=fl.obj
 have neB:∀b o,B.get? b=some o->b≠a:=fun b o e z=>by rw[z,fl.1.2]at e;cases e
 have neF:∀b,b∈frs X.stack->b≠a:=fun b hb z=>by
  obtain⟨_,o,ho,nf⟩:=Y6 fl.2.1 hb
  rw[z,ee]at ho;cases ho
  exact nf _ ed
 have slots:∀b o,s'.heap.get? b=some o->b∈frs X.stack->∃sl,h6.get? b=some { o with slots:=sl }:=fun b o e hb=>by
  obtain⟨_,o',ho',nf⟩:=Y6 F.fly.2.1 hb
  rw[e]at ho';cases ho'
  exact sm b o e nf
 have neT:∀b u,H' b=some u->b≠a:=fun b u e z=>by rw[z,F.new]at e;cases e
 have up:∀b u,H' b=some u->upd H' a (excO cls a od) b=some u:=fun b u e=>by rw[aL (neT b u e)];exact e
 refine I.call' (ch:=[]) F.os ⟨?_,?_,?_,?_,?_,?_,?_⟩ ?_ F.bare (fun _ z=>nomatch z)
 ·exact fun b o e n nf _=>fl.1.1 b o (F.old b o e n nf)
 ·intro b o e n hb nx
  obtain⟨sl,q1⟩:=F.un.slot b o e n hb nx
  obtain⟨sl2,q2⟩:=slots b _ q1 hb
  exact⟨sl2,q2⟩
 ·intro b o e n nx
  have z:b≠a:=by
   by_cases hb:b∈frs X.stack
   ·exact neF b hb
   ·exact neB b o (F.old b o e n hb)
  rw[aL z]
  exact F.un.free b o e n nx
 ·intro b o e nx
  by_cases hb:b∈frs X.stack
  ·obtain⟨o1,q1⟩:=F.un.there b o e nx
   obtain⟨sl2,q2⟩:=slots b _ q1 hb
   exact⟨_,q2⟩
  ·obtain⟨o3,q3⟩:=F.all b o e hb
   exact⟨o3,fl.1.1 b o3 q3⟩
 ·exact fun b xs z=>up b _ (F.un.tups b xs z)
 ·exact fun b o u z=>up b _ (F.un.frzs b o u z)
 ·intro b ps z
  obtain⟨m,z1⟩:=F.un.tbls b ps z
  exact⟨m,up b _ z1⟩
 ·intro b u e
  by_cases hb:b=a
  ·subst hb
   rw[aB]at e
   cases e
   exact⟨⟨oe,vs,ee,⟨ec,eo⟩,ed⟩,⟨oe,ee⟩,fun h1 h2 ⟨o,v,q1,q2,q3⟩ k=>⟨o,v,k o q1,q2,q3⟩⟩
  ·rw[aL hb]at e
   refine(HOk.fromB F.hok F.trk fl.1.1 b u e).stay (fun c v _ q=>q) (fun c q=>up c _ q) fun c xs q=>up c _ q
abbrev Cx.marked (X:Cx)(e:Value):Cx:={ X with A:=X.A.mark (some e),calm:=false,xe:=fun _ _=>False }
theorem Inv.marked {pins:List (Addr×Obj)}{σ:St}{H:Hp}{s:Shared}(I:Inv X pins σ H s)(e:Value):Inv (X.marked e) pins σ H s:=
 ⟨⟨I.ok.mod,I.ok.kind,I.ok.glob,I.ok.blt,I.ok.above,I.ok.inj,I.ok.has,I.ok.cab,(fun z=>nomatch z),I.ok.frames,I.ok.stk,I.ok.exf,I.ok.bs,I.ok.bsz,I.ok.noex,I.ok.exfs,I.ok.funs,I.ok.frf⟩,I.os,I.bare,I.base,I.loc,I.cell,I.free,I.freeC,I.pin,I.hok,I.len⟩
theorem Inv.unmarked {pins:List (Addr×Obj)}{σ:St}{H:Hp}{s:Shared}{e:Value}(ok:X.Ok)(I:Inv (X.marked e) pins σ H s):Inv X pins σ H s:=
 ⟨ok,I.os,I.bare,I.base,I.loc,I.cell,I.free,I.freeC,I.pin,I.hok,I.len⟩
variable {e:Expr}{tx:St->Hp->VK->XK->Prop}{p1 np hpos pos:Pos}{y n:Str}{C:Addr}{i:Nat}{b₀:Stmt}{suite:List Stmt}{ts:TS}
end
end L2
namespace L2
open PySem PySem.Spec PyProof.Rows
structure RoomN (k:Nat)(A:Around):Prop where
 dp:A.depth+3*k+5<recursionLimit
 un:A.units+16*k+200<cLine
structure FnOkN (P:Program)(w:World)(K:W.Frag)(mg:Str->Option Value)(base:Heap)(CX:CXT)(k:Nat)(f:Addr)(fd:FuncData)(ps:List Str)(sp:Sp):Prop where
 len:∀vs H Q E,sp vs H Q E->vs.length=ps.length
 run:∀(A:Around)(outer:List Env)(s:Shared)(H:Hp)(args:Args)(us:List Value)(vs:List V)(Q:VK)(E:XK),RoomN k A->Env0 P w K mg base A outer s H->BindsTo s fd args (ps.zip us)->Vals vs us->sp vs H Q E->
  codeAny (model P w) A (.call (.ref f) args) (CR CX outer P w H s Q E) s
section
variable {X:Cx}{CX:CXT}{k:Nat}{f C:Addr}{fd:FuncData}{ps:List Str}{sp:Sp}{dvs:List V}{ds:List Value}{E:XK}{x m:Str}{p pos apos:Pos}{e o:Expr}{es:List Expr}{ta:TE}{t:TA}
end
section
variable {P:Program}{w:World}{K:W.Frag}{mg:Str->Option Value}{base:Heap}
end
end L2
namespace L2
open PySem PySem.Spec PyProof.Rows
theorem PE.imp {X:Cx}{e:Expr}{t t':TE}(h:PE X e t)(i:∀σ H Q,t' σ H Q->t σ H Q):PE X e t':=fun pins s σ H Q I q=>h pins s σ H Q I (i σ H Q q)
theorem PS.imp {X:Cx}{e:Stmt}{t t':TS}(h:PS X e t)(i:∀D σ H,t' D σ H->t D σ H):PS X e t':=fun pins s σ H D I q=>h pins s σ H D I (i D σ H q)
theorem OpR.imp {X:Cx}{f:Value->Value->Sem Value}{r r':R2}(h:OpR X f r)(i:∀x y H Q,r' x y H Q->r x y H Q):OpR X f r':=fun pins s σ H x y v u Q I rx ry q=>h pins s σ H x y v u Q I rx ry (i x y H Q q)
theorem UnR.imp {X:Cx}{f:Value->Sem Value}{r r':V->Hp->VK->Prop}(h:UnR X f r)(i:∀x H Q,r' x H Q->r x H Q):UnR X f r':=fun pins s σ H x v Q I rx q=>h pins s σ H x v Q I rx (i x H Q q)
theorem CallR.imp {X:Cx}{f:Value}{r r':List V->Hp->VK->Prop}(h:CallR X f r)(i:∀xs H Q,r' xs H Q->r xs H Q):CallR X f r':=fun pins s σ H xs us Q I rv q=>h pins s σ H xs us Q I rv (i xs H Q q)
theorem IxR.imp {X:Cx}{r r':R2}(h:IxR X r)(i:∀x y H Q,r' x y H Q->r x y H Q):IxR X r':=fun va sl pins s σ H x y v u Q I rx ry q hs=>h va sl pins s σ H x y v u Q I rx ry (i x y H Q q) hs
def oV (o:Option (Option V))(k:V->Prop):Prop:=@Option.rec (Option V) (fun _=>Prop) False (fun o=>@Option.rec V (fun _=>Prop) False k o) o
def vI (x:V)(k:Int->Prop):Prop:=@V.rec (fun _=>Prop) False (fun _=>False) k (fun _=>False) (fun _=>False) (fun _=>False) (fun _=>False) (fun _=>False) x
def vB (x:V)(k:Bool->Prop):Prop:=@V.rec (fun _=>Prop) False k (fun _=>False) (fun _=>False) (fun _=>False) (fun _=>False) (fun _=>False) (fun _=>False) x
def vR (x:V)(k:Addr->Prop):Prop:=@V.rec (fun _=>Prop) False (fun _=>False) (fun _=>False) (fun _=>False) (fun _=>False) (fun _=>False) k (fun _=>False) x
def l1 (vs:List V)(k:V->Prop):Prop:=@List.rec V (fun _=>Prop) False (fun x r _=>@List.rec V (fun _=>Prop) (k x) (fun _ _ _=>False) r) vs
def l2 (vs:List V)(k:V->V->Prop):Prop:=@List.rec V (fun _=>Prop) False (fun x r _=>l1 r fun y=>k x y) vs
theorem oV.ex {o:Option (Option V)}{k:V->Prop}(h:oV o k):∃v,o=some (some v)/\k v:=by
 cases o with
 |none=>exact h.elim
 | some o=>cases o with
  |none=>exact h.elim
  |some v=>exact⟨v,rfl,h⟩
theorem vI.ex {x:V}{k:Int->Prop}(h:vI x k):∃i,x= .int i/\k i:=by
 cases x with
 |int i=>exact⟨i,rfl,h⟩
 |_=>exact h.elim
theorem vB.ex {x:V}{k:Bool->Prop}(h:vB x k):∃i,x= .bl i/\k i:=by
 cases x with
 |bl i=>exact⟨i,rfl,h⟩
 |_=>exact h.elim
theorem vR.ex {x:V}{k:Addr->Prop}(h:vR x k):∃i,x= .ref i/\k i:=by
 cases x with
 |ref i=>exact⟨i,rfl,h⟩
 |_=>exact h.elim
theorem l1.ex {vs:List V}{k:V->Prop}(h:l1 vs k):∃x,vs= [x]/\k x:=by
 match vs,h with
 |[x],h=>exact⟨x,rfl,h⟩
theorem l2.ex {vs:List V}{k:V->V->Prop}(h:l2 vs k):∃x y,vs= [x,y]/\k x y:=by
 match vs,h with
 |[x,y],h=>exact⟨x,y,rfl,h⟩
def dVar (i:Nat):TE:=fun σ H Q=>oV σ[i]? fun v=>Q v H
section
variable {X:Cx}
theorem dv (i:Nat){x:Str}{pos:Pos}(hN:X.N[i]? =some x:=by rfl)(hv:Vis X.env.scope x:=by first | exact Or.inl rfl | exact Or.inr (Or.inl rfl) | exact Or.inr (Or.inr rfl))(hd:(x == ("__debug__":Str))=false:=by decide)
  (hcd:(x == ("__classdict__":Str))=false:=by decide):PE X (.Name x pos) (dVar i):=(xJ hN hv hd hcd).imp fun σ H Q h=>h.ex
def mI (C:Int->Int->Prop)(g:Int->Int->V):R2:=fun x y H Q=>vI x fun i=>vI y fun j=>C i j/\Q (g i j) H
def mI0 (g:Int->Int->V):R2:=fun x y H Q=>vI x fun i=>vI y fun j=>Q (g i j) H
theorem mI.to {C:Int->Int->Prop}{g:Int->Int->V}:∀x y H Q,mI C g x y H Q->rI C g x y H Q:=fun x y H Q h=>by
 obtain⟨i,rfl,h1⟩:=vI.ex h
 clear h
 obtain⟨j,rfl,h⟩:=vI.ex h1
 exact⟨_,_,rfl,rfl,h.1,h.2⟩
theorem mI0.to {g:Int->Int->V}:∀x y H Q,mI0 g x y H Q->rI0 g x y H Q:=fun x y H Q h=>by
 obtain⟨i,rfl,h1⟩:=vI.ex h
 clear h
 obtain⟨j,rfl,h⟩:=vI.ex h1
 exact⟨_,_,rfl,rfl,h⟩
def mU (g:Int->V):V->Hp->VK->Prop:=fun x H Q=>vI x fun i=>Q (g i) H
theorem mU.to {g:Int->V}:∀x H Q,mU g x H Q->rU g x H Q:=fun x H Q h=>vI.ex h
theorem bZ:OpR X (binaryOp .Add) (mI0 fun i j=> .int (i+j)):=a4O.imp mI0.to
theorem gB:OpR X (binaryOp .Sub) (mI0 fun i j=> .int (i-j)):=a4H.imp mI0.to
theorem gH:OpR X (binaryOp .Mult) (mI CMulB fun i j=> .int (i*j)):=a1R.imp mI.to
theorem a3L:OpR X (binaryOp .FloorDiv) (mI CDiv fun i j=> .int (i / j)):=a1S.imp mI.to
theorem jG:OpR X (binaryOp .Mod) (mI (fun _ j=>0<j) fun i j=> .int (i % j)):=a4K.imp mI.to
theorem a5S:OpR X (binaryOp .LShift) (mI CShl fun i j=> .int (i*2 ^ j.toNat)):=a1Q.imp mI.to
theorem vZ:OpR X (binaryOp .RShift) (mI (fun _ j=>0<=j) fun i j=> .int (i / 2 ^ j.toNat)):=a4I.imp mI.to
theorem oA:OpR X (binaryOp .BitAnd) (mI0 fun i j=> .int (Builtin.bitAnd i j)):=a4N.imp mI0.to
theorem a2T:OpR X (binaryOp .BitXor) (mI0 fun i j=> .int (Builtin.bitXor i j)):=a4G.imp mI0.to
theorem a2U:UnR X (unaryOp .USub) (mU fun i=> .int (-i)):=a3N.imp mU.to
theorem wC:OpR X (compareOp .Lt) (mI0 fun i j=> .bl (decide (i<j))):=a6F.imp mI0.to
theorem pZ:OpR X (compareOp .LtE) (mI0 fun i j=> .bl (decide (i<=j))):=a6G.imp mI0.to
theorem wF:OpR X (compareOp .Gt) (mI0 fun i j=> .bl (decide (j<i))):=a6H.imp mI0.to
theorem tY:OpR X (compareOp .GtE) (mI0 fun i j=> .bl (decide (j<=i))):=a6I.imp mI0.to
theorem dI {i j:Int}:decide (V.int i=V.int j)=decide (i=j):=by
 by_cases h:i=j
 ·rw[Yl h,Yl (YF V.int h)]
 ·rw[Ym h,Ym fun z=>h (V.int.inj z)]
theorem dS {i j:Str}:decide (V.str i=V.str j)=decide (i=j):=by
 by_cases h:i=j
 ·rw[Yl h,Yl (YF V.str h)]
 ·rw[Ym h,Ym fun z=>h (V.str.inj z)]
theorem dB {i j:Bool}:decide (V.bl i=V.bl j)=decide (i=j):=by
 by_cases h:i=j
 ·rw[Yl h,Yl (YF V.bl h)]
 ·rw[Ym h,Ym fun z=>h (V.bl.inj z)]
def eqW (f:Bool->Prop)(x y:V):Prop:=@V.rec (fun _=>Prop)
 (@V.rec (fun _=>Prop) (f true) (fun _=>False) (fun _=>f false) (fun _=>f false) (fun _=>False) (fun _=>False) (fun _=>False) (fun _=>False) y)
 (fun i=>@V.rec (fun _=>Prop) False (fun j=>f (decide (i=j))) (fun _=>False) (fun _=>False) (fun _=>False) (fun _=>False) (fun _=>False) (fun _=>False) y)
 (fun i=>@V.rec (fun _=>Prop) (f false) (fun _=>False) (fun j=>f (decide (i=j))) (fun _=>f false) (fun _=>False) (fun _=>False) (fun _=>False) (fun _=>False) y)
 (fun i=>@V.rec (fun _=>Prop) (f false) (fun _=>False) (fun _=>f false) (fun j=>f (decide (i=j))) (fun _=>False) (fun _=>False) (fun _=>False) (fun _=>False) y)
 (fun _=>False) (fun _=>False) (fun _=>False) (fun _=>False) x
theorem eqW.ex {f:Bool->Prop}{x y:V}(h:eqW f x y):scal x y=true/\f (decide (x=y)):=by
 cases x with
 |non=>cases y <;> first | exact h.elim | exact⟨rfl,h⟩
 |bl i=>cases y <;> first | exact h.elim | (exact⟨rfl,by rw[dB];exact h⟩)
 |int i=>cases y <;> first | exact h.elim | exact⟨rfl,h⟩ | (exact⟨rfl,by rw[dI];exact h⟩)
 |str i=>cases y <;> first | exact h.elim | exact⟨rfl,h⟩ | (exact⟨rfl,by rw[dS];exact h⟩)
 |_=>exact h.elim
def mEq:R2:=fun x y H Q=>eqW (fun b=>Q (.bl b) H) x y
def mNe:R2:=fun x y H Q=>eqW (fun b=>Q (.bl (!b)) H) x y
theorem cV:OpR X (compareOp .Eq) mEq:=a6J.imp fun x y H Q h=>eqW.ex (f:=fun b=>Q (.bl b) H) h
theorem iU:OpR X (compareOp .NotEq) mNe:=a6E.imp fun x y H Q h=>eqW.ex (f:=fun b=>Q (.bl (!b)) H) h
def vN (x:V)(k:Prop):Prop:=@V.rec (fun _=>Prop) k (fun _=>False) (fun _=>False) (fun _=>False) (fun _=>False) (fun _=>False) (fun _=>False) (fun _=>False) x
theorem vN.ex {x:V}{k:Prop}(h:vN x k):x= .non/\k:=by
 cases x with
 |non=>exact⟨rfl,h⟩
 |_=>exact h.elim
def mIsN:R2:=fun x y H Q=>vN y (Q (.bl (decide (x= .non))) H)
theorem a5U:OpR X (compareOp .Is) mIsN:=a4L.imp fun x y H Q h=>vN.ex h
section
variable {a b c:Expr}{ta tb tc:TE}{pos:Pos}{rest:List Expr}
theorem jK {x:V}{k:Bool->Prop}:vB x k=∃i,x= .bl i/\k i:=propext ⟨vB.ex,fun ⟨i,e,h⟩=>by subst e;exact h⟩
def dTest (t:TE):TT:=fun σ H Q=>t σ H fun x H'=>vB x fun k=>Q k H'
theorem pU (t:TE):dTest t=tTest t:=by
 funext σ H Q
 unfold dTest tTest
 simp only[jK]
theorem vV (t:TE):dTest t=tB t:=by
 funext σ H Q
 unfold dTest tB
 simp only[jK]
theorem aX {op:CmpOp}{r:R2}(ho:OpR X (compareOp op) r)(ha:PE X a ta)(hb:PE X b tb)(hm:behindInMarks op b=false):PT X (.Compare a [op] [b] pos) (dTest (tOp r ta tb)):=by
 rw[pU];exact a1D ho ha hb hm
theorem bY {e:Expr}{t:TE}(h:PE X e t)(he:∀whole,isTrue e X.env whole=(do let v<-whole;standAt e.pos;holding [v] (truthy v)):=by intro _;rfl):PT X e (dTest t):=by
 rw[vV];exact a3X h he
def dAnd (ta tb:TE):TE:=fun σ H Q=>ta σ H fun x H1=>vB x fun c=>if c=true then tb σ H1 Q else Q (.bl false) H1
def dNot (ta:TE):TE:=fun σ H Q=>ta σ H fun x H1=>vB x fun c=>Q (.bl (!c)) H1
theorem a2M:dAnd ta tb=tAndV ta tb:=by
 funext σ H Q
 unfold dAnd tAndV
 simp only[jK]
theorem a2L:dNot ta=tNotV ta:=by
 funext σ H Q
 unfold dNot tNotV
 simp only[jK]
theorem yL (ha:PE X a ta)(hb:PE X (.BoolOp .And (b::rest) pos) tb):PE X (.BoolOp .And (a::b::rest) pos) (dAnd ta tb):=by
 rw[a2M];exact a4C ha hb
theorem a4T (ha:PE X a ta):PE X (.UnaryOp .Not a pos) (dNot ta):=by
 rw[a2L];exact a4A ha
end
def SqA (K:W.Frag)(H:Hp)(a:Addr)(xs:List V):Prop:=SqL K H a xs\/SqT K H a xs
def mIxL (K:W.Frag):R2:=fun x y H Q=>vR x fun p=>vI y fun i=>∃xs v,SqL K H p xs/\atI xs i=some v/\Q v H
def mIxT (K:W.Frag):R2:=fun x y H Q=>vR x fun p=>vI y fun i=>∃xs v,SqT K H p xs/\atI xs i=some v/\Q v H
theorem bW:IxR X (mIxL X.K):=a2D.imp fun x y H Q h=>by
 obtain⟨p,rfl,h⟩:=vR.ex h
 obtain⟨i,rfl,xs,v,h1,h2,h3⟩:=vI.ex h
 exact⟨_,xs,_,v,rfl,rfl,h1,h2,h3⟩
theorem dG:IxR X (mIxT X.K):=a4Z.imp fun x y H Q h=>by
 obtain⟨p,rfl,h⟩:=vR.ex h
 obtain⟨i,rfl,xs,v,h1,h2,h3⟩:=vI.ex h
 exact⟨_,xs,_,v,rfl,rfl,h1,h2,h3⟩
def mLen (K:W.Frag):List V->Hp->VK->Prop:=fun xs H Q=>l1 xs fun x=>vR x fun p=>∃ys,SqA K H p ys/\Q (.int ys.length) H
theorem cH:CallR X (.builtin "len") (mLen X.K):=nO.imp fun xs H Q h=>by
 obtain⟨x,rfl,h⟩:=l1.ex h
 obtain⟨p,rfl,ys,h1,h2⟩:=vR.ex h
 exact⟨_,ys,rfl,h1,h2⟩
def mListOf (K:W.Frag):List V->Hp->VK->Prop:=fun xs H Q=>l1 xs fun x=>vR x fun p=>∃ys,SqA K H p ys/\∀l,H l=none->Q (.ref l) (upd H l (.lst ys))
theorem dM:CallR X (.type "list") (mListOf X.K):=nM.imp fun xs H Q h=>by
 obtain⟨x,rfl,h⟩:=l1.ex h
 obtain⟨p,rfl,ys,h1,h2⟩:=vR.ex h
 exact⟨_,ys,rfl,h1,h2⟩
def mMax2:List V->Hp->VK->Prop:=fun xs H Q=>l2 xs fun x y=>vI x fun i=>vI y fun j=>Q (.int (max i j)) H
theorem a3J (hc:X.calm=true):CallR X (.builtin "max") mMax2:=(vX hc).imp fun xs H Q h=>by
 obtain⟨x,y,rfl,h⟩:=l2.ex h
 obtain⟨i,rfl,h⟩:=vI.ex h
 obtain⟨j,rfl,h⟩:=vI.ex h
 refine⟨_,_,rfl,?_⟩
 have e:(if j > i then j else i)=max i j:=by omega
 rw[e];exact h
end
section
variable {K:W.Frag}
end
section
variable {X:Cx}
def tCutA (t:TA):TA:=fun σ H Q=>∃P:List V->Hp->Prop,t σ H P/\∀x H',P x H'->Q x H'
theorem gD {es:List Expr}{t:TA}(h:PA X es t):PA X es (tCutA t):=by
 intro pos pins s σ H Q I hw
 obtain⟨P,h1,h2⟩:=hw
 exact thn (h pos pins s σ H P I h1) fun v s1 ⟨x,H1,I1,r,q⟩=>⟨x,H1,I1,r,h2 x H1 q⟩
section
variable {o e:Expr}{es:List Expr}{to:TE}{t:TA}{apos cpos:Pos}
def dBl (to:TE):TE:=fun σ H Q=>to σ H fun x H1=>vI x fun i=>Q (.int ((Builtin.Int.intBits i:Nat):Int)) H1
theorem sS (ho:PE X o to)(hbase:attributeBase o "bit_length" X.env (eval o X.env)=eval o X.env:=by rfl)(hline:(apos.endLine == cpos.line)=true:=by rfl) :
  PE X (.Call (.Attribute o "bit_length" apos) [] [] cpos) (dBl to):=
 (a4B PySem.F.plainAttrs_int PySem.F.slot_int_bit_length PySem.F.type_int_bit_length a6O (bR ho) hbase hline).imp fun σ H Q h=>⟨_,h,fun x H1 q=>by
  obtain⟨i,rfl,q⟩:=vI.ex q
  exact⟨rfl,i,rfl,rfl,q⟩⟩
def dAppend (K:W.Frag)(to:TE)(t:TA):TE:=fun σ H Q=>to σ H fun x H1=>vR x fun l=>(∃xs,SqL K H1 l xs)/\t σ H1 fun vs H2=>l1 vs fun y=>∃xs,H2 l=some (.lst xs)/\xs.length<sizeLine/\Q .non (upd H2 l (.lst (xs++[y])))
theorem bO (ho:PE X o to)(ha:PA X [e] t)(hbase:attributeBase o "append" X.env (eval o X.env)=eval o X.env:=by rfl)
  (hfew:((backTo cpos (starEach [e] X.env)).all (fun x=>!x.1) && (backToKw cpos (keywordEach [] X.env)).all (fun x=>x.1.isSome)
   && decide (([e]:List Expr).length+([]:List Keyword).length+(if ([]:List Keyword).isEmpty then 0 else 1)<30))=true:=by rfl)
  (hline:(apos.endLine == cpos.line)=true:=by rfl) (hs:starEach [e] X.env=(false,eval e X.env)::starEach [] X.env:=by rfl) (hplain:(backTo cpos (starEach [] X.env)).any (·.1)=false:=by rfl) :
  PE X (.Call (.Attribute o "append" apos) [e] [] cpos) (dAppend X.K to t):=
 (rW XV PySem.F.slot_list_append PySem.F.type_list_append uO (bR ho) (gD ha) hbase hfew hline hs hplain).imp fun σ H Q h=>⟨_,h,fun x H1 q=>by
  obtain⟨l,rfl,q1,q2⟩:=vR.ex q
  refine⟨.inl ⟨rfl,q1⟩,_,q2,fun vs H2 q3=>?_⟩
  obtain⟨y,rfl,xs,h1,h2,h3⟩:=l1.ex q3
  exact⟨l,xs,y,rfl,rfl,h1,h2,h3⟩⟩
def dPart (t:TE):TO:=fun σ H Q=>t σ H fun x H1=>vI x fun i=>Q (some i) H1
theorem PO.imp {e:Option Expr}{t t':TO}(h:PO X e t)(i:∀σ H Q,t' σ H Q->t σ H Q):PO X e t':=fun pins s σ H Q I q=>h pins s σ H Q I (i σ H Q q)
theorem dY (h:PE X e to):PO X (some e) (dPart to):=(a1K (bR h)).imp fun σ H Q q=>⟨_,q,fun x H1 z=>vI.ex z⟩
def mSlL (K:W.Frag):V->Option Int->Option Int->Hp->VK->Prop:=fun x lo hi H Q=>vR x fun a=>∃xs,SqL K H a xs/\∀p,H p=none->Q (.ref p) (upd H p (.lst (cutV xs lo hi)))
theorem SlR.imp {r r':V->Option Int->Option Int->Hp->VK->Prop}(h:SlR X r)(i:∀x lo hi H Q,r' x lo hi H Q->r x lo hi H Q):SlR X r':=by
 intro pins s σ H x v vl vu lo hi sl Q I rx hs pl pu q
 exact h pins s σ H x v vl vu lo hi sl Q I rx hs pl pu (i _ _ _ _ _ q)
theorem nY:SlR X (mSlL X.K):=a0X.imp fun x lo hi H Q h=>by
 obtain⟨a,rfl,xs,h1,h2⟩:=vR.ex h
 exact⟨_,xs,rfl,h1,h2⟩
variable {tg:Expr}
theorem PI.imp {iter:Expr}{w w':TI}(h:PI X tg iter w)(i:∀σ H R,w' σ H R->w σ H R):PI X tg iter w':=fun pins s σ H R I q=>h pins s σ H R I (i σ H R q)
def dList (K:W.Frag)(tl:TE):TI:=fun σ H R=>tl σ H fun x H1=>vR x fun a=>(∃xs,SqL K H1 a xs)/\R (Itl K a) H1
theorem cM {l:Expr}{tl:TE}(hl:PE X l tl):PI X tg l (dList X.K tl):=(a1L (bR hl)).imp fun σ H R h=>⟨_,h,fun x H1 q=>vR.ex q⟩
def dRng1 (ta:TA):TI:=fun σ H R=>ta σ H fun vs H1=>l1 vs fun x=>vI x fun j=>(-(2 ^ 62)<=j/\j<2 ^ 62)/\R (Itr 0 j.toNat) H1
def dRng2 (ta:TA):TI:=fun σ H R=>ta σ H fun vs H1=>l2 vs fun x y=>vI x fun i=>vI y fun j=>(-(2 ^ 62)<=i/\i<2 ^ 62/\ -(2 ^ 62)<=j/\j<2 ^ 62)/\R (Itr i (j-i).toNat) H1
theorem bT {a:Expr}{ta:TA}{p pos:Pos}(hg:Gl X "range")(hm:X.mg "range"=none)(ha:PA X [a] ta)(hs:starEach [a] X.env= [(false,eval a X.env)]:=by rfl):PI X tg (.Call (.Name "range" p) [a] [] pos) (dRng1 ta):=
 (uI hg hm (gD ha) hs).imp fun σ H R h=>⟨_,h,fun vs H1 q=>by
  obtain⟨x,rfl,q⟩:=l1.ex q
  obtain⟨j,rfl,q⟩:=vI.ex q
  exact⟨j,rfl,q.1.1,q.1.2,q.2⟩⟩
theorem uP {a b:Expr}{ta:TA}{p pos:Pos}(hg:Gl X "range")(hm:X.mg "range"=none)(ha:PA X [a,b] ta)(hs:starEach [a,b] X.env= [(false,eval a X.env),(false,eval b X.env)]:=by rfl)(hs2:starEach [b] X.env= [(false,eval b X.env)]:=by rfl) :
  PI X tg (.Call (.Name "range" p) [a,b] [] pos) (dRng2 ta):=
 (uH hg hm (gD ha) hs hs2).imp fun σ H R h=>⟨_,h,fun vs H1 q=>by
  obtain⟨x,y,rfl,q⟩:=l2.ex q
  obtain⟨i,rfl,q⟩:=vI.ex q
  obtain⟨j,rfl,q⟩:=vI.ex q
  exact⟨i,j,rfl,q.1,q.2⟩⟩
end
end
end L2
namespace L2
open PySem PySem.Spec PyProof.Rows
section
variable {M:Model}{A:Around}{E:Value->Shared->Prop}{s:Shared}{B:Heap}{env:Env}{outer l:List Env}{L e:Addr}{k a0 fl:Value}{od:Option Addr}
theorem yQ {Q:Unit->Shared->Prop}(fr:A.frames=some (env::outer))(fL:env.frame=some L)(st:B.StaysIn s.heap/\B.get? e=none)(ff:s.heap.FunFrames B (env::outer))(tr:TrD s.heap B e k a0 od fl)
  (next:∀h',HeldD B (env::outer) e k a0 od L h'->s.heap.UpToSlots h'->Q () { s with heap:=h' }):wpAny M A (noteFrame (.ref e) env) Q E s:=by
 have tr0:=tr
 obtain⟨oe,vs,T,oT,ts,⟨q1,q2,q3,q4⟩,⟨q5,q6⟩,⟨q7,q8⟩,q9,q10,q11⟩:=tr
 subst q2 q3
 have off:∀b,b≠T->(s.heap.update T (Obj.mapFields (·.setIfInBounds 3 Value.none))).get? b=s.heap.get? b:=fun b n=>Xe _ _ (Ne.symm n)
 have apart:∀b o,s.heap.get? b=some o->(∀ws,o.data≠ .fields ws)->b≠T:=fun b o q n z=>by
  subst z
  cases q9.symm.trans q
  exact n ts q10
 unfold noteFrame
 simp only[fL]
 refine YC (XZ q1 q4 q6 ?_)
 rw[if_pos (show (Value.ref T != Value.none)=true by simp)]
 refine YC (XZ q9 q10 q11 ?_)
 by_cases hfl:(fl == rawInt L)=true
 ·rw[if_pos hfl]
  obtain rfl:=eq_of_beq hfl
  exact Y9 (next s.heap ⟨st,ff,tr0⟩ (Heap.UpToSlots.refl _))
 ·rw[if_neg hfl]
  refine YC (Jh q9 q10 (Y3.mp q11).1 ?_)
  refine qZ (B:=B) fr (ff.of_keeps fun b o q n=>⟨o,(off b (apart b o q n)).trans q,rfl⟩) fL ⟨fun b o q=>(off b fun z=>by rw[z,q7]at q;cases q).trans (st.1 b o q),st.2⟩ ((off e (Ne.symm q8)).trans q1) q4 (Y3.mp q6).1 q5 fun h' x1 x2=>?_
  exact next h' x1 fun b o q n=>x2 b o ((off b (apart b o q n)).trans q) n
theorem uX {Q:Unit->Shared->Prop}(fr:A.frames=some (env::outer))(fL:env.frame=some L)(st:B.StaysIn s.heap/\B.get? e=none)(ff:s.heap.FunFrames B (env::outer))(tr:TrD s.heap B e k a0 od fl)
  (next:∀h',FlyD B outer e k a0 od h'->s.heap.UpToSlots h'->Q () { s with heap:=h' }):wpAny M A (leaving env (.ref e)) Q E s:=by
 unfold leaving
 exact YC (yQ fr fL st ff tr fun h1 x1 x2=>sV x1 fun h2 x3 x4=>next h2 x3.tail (x2.trans x4))
theorem a1O {α:Type}{w:String}{cenv:Env}{Q:α->Shared->Prop}(st:B.StaysIn s.heap/\B.get? e=none)(ff:s.heap.FunFrames B l)(tr:TrD s.heap B e k a0 od fl)
  (next:∀h' fl',B.StaysIn h'->h'.FunFrames B l->TrD h' B e k a0 od fl'->s.heap.UpToSlots h'->E (.ref e) { s with heap:=h' }):wpAny M A (PySem.passOn w (.ref e) cenv:Sem α) Q E s:=by
 obtain⟨oe,vs,T,oT,ts,⟨q1,q2,q3,q4⟩,⟨q5,q6⟩,⟨q7,q8⟩,q9,q10,q11⟩:=tr
 have sz:3<ts.size:=(Y3.mp q11).1
 have off:∀(v:Value) b,b≠T->(s.heap.update T (Obj.mapFields (·.setIfInBounds 3 v))).get? b=s.heap.get? b:=fun v b n=>Xe _ _ (Ne.symm n)
 have apart:∀b o,s.heap.get? b=some o->(∀ws,o.data≠ .fields ws)->b≠T:=fun b o q n z=>by
  subst z
  cases q9.symm.trans q
  exact n ts q10
 unfold PySem.passOn setFlight
 refine YC (XZ q1 q4 q6 ?_)
 rw[if_neg (show ¬ ((Value.ref T == Value.none)=true) by simp)]
 refine YC (YC (XZ q1 q4 q6 ?_))
 rw[if_pos (show (Value.ref T != Value.none)=true by simp)]
 refine Jh q9 q10 sz (wpAny_throw ?_)
 refine next _ (cenv.frame.elim Value.none fun f=>rawInt f) (fun b o q=>(off _ b fun z=>by rw[z,q7]at q;cases q).trans (st.1 b o q)) (ff.of_keeps fun b o q n=>⟨o,(off _ b (apart b o q n)).trans q,rfl⟩) ?_ fun b o q n=>⟨o.slots,(off _ b (apart b o q n)).trans q⟩
 exact⟨oe,vs,T,_,_,⟨(off _ e (Ne.symm q8)).trans q1,q2,q3,q4⟩,⟨q5,q6⟩,⟨q7,q8⟩,Heap.get?_update_self _ q9 (Obj.isFreed_of_fields (XY q10 _)),XY q10 _,by simp only[Array.getElem?_setIfInBounds_self_of_lt sz]⟩
end
end L2
namespace L2
open PySem PySem.Spec PyProof.Rows
def subN (N:List Str)(ix:List Nat):List Str:=ix.map fun i=>N.getD i ""
def subS (σ:St)(ix:List Nat):St:=ix.map fun i=>σ.getD i none
def compXe (X:Cx)(scope:Scope)(cl:List (Str×Addr))(C:Addr):Value->Shared->Prop:=notedBy (model X.prog X.w) X.A (compEnvC scope cl C X.env) fun e s'=>
 ∃m,s'.heap.Ns C m/\∀h',Heap.SameBut C s'.heap h'->∀cenv:Env,cenv.locals=C->wpAny (model X.prog X.w) X.A (PySem.passOn "comprehension.variables-let-go" e cenv:Sem Value) (fun _ _=>False) X.xe { s' with heap:=h' }
def cxComp (X:Cx)(scope:Scope)(cl:List (Str×Addr))(x:Str)(ix:List Nat)(C:Addr)(fp:List Addr)(s₀:Shared)(H₀:Hp):Cx:=
 { X with N:=x::subN X.N ix,s₀:=s₀,H₀:=H₀,env:=compEnvC scope cl C X.env,outer:=X.stack,ex:=fp,fn:=fun _=>false,pn:=[],xe:=compXe X scope cl C }
structure CompScope (X:Cx)(scope:Scope)(cl:List (Str×Addr))(x:Str)(ix:List Nat):Prop where
 clos:closureFor scope X.env=pure cl
 kind:scope.kind= .function
 loc:scope.names.lookup x=some .local
 one:∀y∈scope.names,y.2= .local->y.1=x\/y.1=".0"
 locs:∀y∈scope.names,y.2= .local->scope.names.lookup y.1=some .local
 nocell:∀y∈scope.names,y.2≠ .cell
 free:∀y∈scope.names,y.2= .free->(X.env.kindOf y.1=some .cell\/X.env.kindOf y.1=some .free)
 cells:∀y∈scope.names,y.2= .free->∃c,cl.lookup y.1=some c
 same:∀y∈cl,X.env.cells.lookup y.1=some y.2
 nd:((".0":Str)::x::subN X.N ix).Nodup
theorem lookup_mem {α β:Type}[BEq α][LawfulBEq α]{a:α}{b:β}:∀{l:List (α×β)},l.lookup a=some b->(a,b)∈l
 |[],h=>by simp at h
 | (c,d)::r,h=>by
  rw[XH]at h
  cases e:a == c with
  | true=>
   rw[e]at h
   cases h
   rw[eq_of_beq e];exact YN
  | false=>
   rw[e]at h
   exact Yv _ (lookup_mem h)
theorem cY {scope:Scope}{env:Env}{y:Str}{k:NameKind}(h:(relabel scope env).names.lookup y=some k):∃k0,scope.names.lookup y=some k0/\(k=k0\/(k0= .free/\k= .cell)):=by
  have gen :∀(names:List (Str×NameKind)),(names.map fun (n,k)=>if (k == NameKind.free && env.scope.kind == .function && env.kindOf n == some .cell) then (n,NameKind.cell) else (n,k)).lookup y=some k->
      ∃k0,names.lookup y=some k0/\(k=k0\/(k0= .free/\k= .cell)):=by
    intro names
    induction names with
    |nil=>intro h;simp at h
    | cons p r ih=>
      obtain⟨n,k1⟩:=p
      intro h
      rw[YE]at h
      dsimp only at h
      cases hc:(k1 == NameKind.free && env.scope.kind == .function && env.kindOf n == some .cell) with
      | true=>
        rw[hc,if_pos rfl,XH]at h
        rw[XH]
        cases e:y == n with
        | true=>
          rw[e]at h
          cases h
          simp only[Xv]at hc
          exact⟨k1,rfl,.inr ⟨eq_of_beq hc.1.1,rfl⟩⟩
        | false=>
          rw[e]at h
          exact ih h
      | false=>
        rw[hc,if_neg Yn,XH]at h
        rw[XH]
        cases e:y == n with
        | true=>
          rw[e]at h
          cases h
          exact⟨k,rfl,.inl rfl⟩
        | false=>
          rw[e]at h
          exact ih h
  exact gen scope.names h
section
variable {X:Cx}{scope:Scope}{cl:List (Str×Addr)}{x:Str}{ix:List Nat}{C:Addr}{fp:List Addr}
theorem CompScope.look (S:CompScope X scope cl x ix){y:Str}{c:Addr}(h:cl.lookup y=some c):X.env.cells.lookup y=some c:=S.same _ (lookup_mem h)
theorem CompScope.ok (S:CompScope X scope cl x ix){pins:List (Addr×Obj)}{σ:St}{H:Hp}{s:Shared}(I:Inv X pins σ H s)(hf:∀b∈fp,FpOk X pins H b)(hfl:∀b∈fp,b<s.heap.objs.size)(hC:s.heap.objs.size<=C) :
  (cxComp X scope cl x ix C fp s H).Ok where
 mod:=I.ok.mod
 kind:=S.kind
 glob:=I.ok.glob
 blt:=I.ok.blt
 above:=hC
 inj:=fun y z c h1 h2=>I.ok.inj y z c (S.look h1) (S.look h2)
 has := fun y h=>by
  have h':(relabel scope X.env).names.lookup y=some .cell\/(relabel scope X.env).names.lookup y=some .free:=h
  have fr:scope.names.lookup y=some .free:=by
   rcases h' with h' | h'
   ·obtain⟨k0,e,q | q⟩:=cY h'
    ·exact absurd rfl (q▸S.nocell _ (lookup_mem e))
    ·rw[e,q.1]
   ·obtain⟨k0,e,q | q⟩:=cY h'
    ·rw[e,<-q]
    ·cases q.2
  exact S.cells _ (lookup_mem fr) rfl
 cab:=fun y c h=>absurd h Yn
 hd:=I.ok.hd
 frames:=I.ok.frames
 stk:= .inl rfl
 exf:=fun b hb=>⟨YO (Yh (hfl b hb) hC),fun y c e=>(hf b hb).2.2.2.2.1 y c (S.look e)⟩
 bs:=I.bs
 bsz:=Y4 I.ok.bsz I.sz
 noex:=fun b o e hb=>by
  rcases (hf b hb).2.2.2.1 with z | z
  ·exact I.ok.noex b o e z
  ·exact absurd (Yh (Yq e) (Y4 I.ok.bsz z)) (YX _)
 exfs:=fun b hb z=>by
  rcases YK.mp (I.stkSub b z) with e | e
  ·exact(hf b hb).2.1 e
  ·exact(hf b hb).2.2.1 e
 funs:=I.stack
 frf:=I.stkFree
theorem wO {N:List Str}{ix:List Nat}{j:Nat}{y:Str}(h:(subN N ix)[j]? =some y):∃i,ix[j]? =some i/\y=N.getD i "":=by
 unfold subN at h
 rw[Yj]at h
 cases e:ix[j]? with
 |none=>rw[e]at h;cases h
 |some i=>rw[e]at h;cases h;exact⟨i,rfl,rfl⟩
theorem wN {σ:St}{ix:List Nat}{j:Nat}{v:V}(h:(subS σ ix)[j]? =some (some v)):∃i,ix[j]? =some i/\σ[i]? =some (some v):=by
 unfold subS at h
 rw[Yj]at h
 cases e:ix[j]? with
 |none=>rw[e]at h;cases h
 | some i=>
  rw[e]at h
  have h':σ.getD i none=some v:=by simpa using h
  refine⟨i,rfl,?_⟩
  rw[Ye]at h'
  cases e2:σ[i]? with
  |none=>rw[e2]at h';cases h'
  |some u=>rw[e2]at h';exact YF some h'
theorem CompScope.inv (S:CompScope X scope cl x ix){pins:List (Addr×Obj)}{σ:St}{H:Hp}{s s1:Shared}{m:Str->Option Value}(I:Inv X pins σ H s)(hf:∀b∈fp,FpOk X pins H b)(hfl:∀b∈fp,b<s.heap.objs.size)
  (hC:s.heap.objs.size<=C) (os:s1.os=s.os) (bare:AllBare s1.gens) (k:∀b o,s.heap.get? b=some o->s1.heap.get? b=some o) (hn:s1.heap.Ns C m) :
  Inv (cxComp X scope cl x ix C fp s H) [] (none::subS σ ix) H s1 where
 ok:=S.ok I hf hfl hC
 os:=os
 bare:=bare
 base:=Un.kept k
 loc := ⟨m, hn,fun i y v h1 h2 h3=>by
  cases i with
  |zero=>cases (show none=some v from Yt h2)
  | succ j =>
   obtain⟨i,e1,e2⟩:=wO (N:=X.N) (show (subN X.N ix)[j]? =some y from h1)
   obtain⟨i',e1',e3⟩:=wN (σ:=σ) (show (subS σ ix)[j]? =some (some v) from h2)
   rw[e1]at e1';cases e1'
   have hi:i<X.N.length:=by rw[<-I.len];exact(Yg.mp e3).1
   have hy:X.N[i]? =some y:=by rw[e2,Ye,Yb hi];rfl
   have ne:y≠x:=by
    rintro rfl
    have nd:=(YS.mp S.nd).2
    exact(YS.mp nd).1 (Yw (show (subN X.N ix)[j]? =some y from h1))
   have h3':(relabel scope X.env).names.lookup y=some .local\/(relabel scope X.env).names.lookup y=some .cell\/(relabel scope X.env).names.lookup y=some .free:=h3
   have fr :scope.names.lookup y=some .free/\((relabel scope X.env).names.lookup y=some .cell\/(relabel scope X.env).names.lookup y=some .free):=by
    rcases h3' with z | z | z
    ·obtain⟨k0,e,q | q⟩:=cY z
     ·rcases S.one _ (lookup_mem e) q.symm with z | z
      ·exact absurd z ne
      ·have z':y=".0":=z
       exact absurd (Yv _ (Yw (show (subN X.N ix)[j]? =some y from h1))) (z'▸(YS.mp S.nd).1)
     ·cases q.2
    ·obtain⟨k0,e,q | q⟩:=cY z
     ·exact absurd rfl (q▸S.nocell _ (lookup_mem e))
     ·exact⟨by rw[e,q.1],.inl z⟩
    ·obtain⟨k0,e,q | q⟩:=cY z
     ·exact⟨by rw[e,<-q],.inr z⟩
     ·cases q.2
   have vis:=S.free _ (lookup_mem fr.1) rfl
   obtain⟨m0,_,l0⟩:=I.loc
   obtain⟨u,r,l⟩:=l0 i y v hy e3 (vis.elim (fun z=> .inr (.inl z)) fun z=> .inr (.inr z))
   refine⟨u,r,.inr ⟨fr.2,?_⟩⟩
   rcases l with ⟨k1,_⟩ | ⟨_,c,ec,oc,hoc,hd⟩
   ·rcases vis with z | z
    ·have:=k1.symm.trans z;cases this
    ·have:=k1.symm.trans z;cases this
   ·obtain⟨c',e'⟩:=S.cells _ (lookup_mem fr.1) rfl
    have:some c'=some c:=(S.look e').symm.trans ec
    cases this
    exact⟨c,e',oc,k _ _ hoc,hd⟩⟩
 cell:=fun y c e=>by
  obtain⟨v,oc,hoc,hd⟩:=I.cell y c (S.look e)
  exact⟨v,oc,k _ _ hoc,hd⟩
 free:=I.hok.fresh hC
 freeC:=fun y c e=>I.freeC y c (S.look e)
 pin:=fun p hp=>absurd (show p∈([]:List (Addr×Obj)) from hp) (by simp)
 hok:=I.hok.kept k
 len:=by show (none::subS σ ix).length=(x::subN X.N ix).length;simp[subS,subN]
end
def PTs (X:Cx)(ifs:List Expr)(t:TT):Prop:=
 ∀ (pins:List (Addr×Obj))(s:Shared)(σ:St)(H:Hp)(Q:Bool->Hp->Prop),Inv X pins σ H s->t σ H Q->
  wpAny (model X.prog X.w) X.A (forIn ifs true fun c r=>if r=true then do let ok<-isTrue c X.env (eval c X.env);pure (ForInStep.yield ok) else pure (ForInStep.yield r)) (TP X pins σ Q) X.xe s
def tYes:TT:=fun _ H Q=>Q true H
theorem cG {X:Cx}:PTs X [] tYes:=fun _ _ _ H _ I h=>wpAny_tests_nil ⟨H,I,h⟩
section
variable {prog:Program}{w:World}{A:Around}{R:Result->Shared->Prop}{s:Shared}
theorem nH {elt target iter:Expr}{ifs:List Expr}{scope:Scope}{pos:Pos}{it acc:Value}{env:Env}(I:Nat->Shared->Prop)
    (turn : ∀ n s,I n s->wpAny (model prog w) A (pyNext it) (fun r s₁=>match r with
      |none=>R (.ok .next) s₁
      | some v =>wpAny (model prog w) A (letOwnedTupleGo target it v) (fun _ s₀=>wpAny (model prog w) A (assign target env v) (fun _ s₂=>
          wpAny (model prog w) A (forIn ifs true fun c r=>if r=true then do let ok<-isTrue c env (eval c env);pure (ForInStep.yield ok) else pure (ForInStep.yield r)) (fun ok s₃=>
            if ok=true then wpAny (model prog w) A (eval elt env) (fun x s₄=>
              wpAny (model prog w) A (call (.builtin "list.append") [acc,x]) (fun _ s₅=>∃m,m<n/\I m s₅) (notedBy (model prog w) A env fun e s'=>R (.error e) s') s₄) (notedBy (model prog w) A env fun e s'=>R (.error e) s') s₃
            else ∃m,m<n/\I m s₃) (notedBy (model prog w) A env fun e s'=>R (.error e) s') s₂) (notedBy (model prog w) A env fun e s'=>R (.error e) s') s₀) (notedBy (model prog w) A env fun e s'=>R (.error e) s') s₁) (notedBy (model prog w) A env fun e s'=>R (.error e) s') s)
    (n:Nat) (h:I n s) :
    codeAny (model prog w) A (.compLoop (.ListComp elt [⟨target,iter,ifs,0⟩] scope pos) 0 it acc env) R s:=by
  refine codeAny_loop rfl I (fun n s hI=>?_) n h
  show wpAny _ A ((compTurn (.ListComp elt [⟨target,iter,ifs,0⟩] scope pos) 0 it acc env).onRaise (fun x=>do noteFrame x env;theTreesLotGoes x)) _ _ s
  refine wpAny_noted ?_
  rw[compTurn_list]
  refine YC (wpAny_standAt (YC (Y8 (turn n s hI) (fun r s₁ h₁=>?_) fun _ _ h'=>h')))
  cases r with
  |none=>exact Y9 h₁
  | some v=>
    refine YC (Y8 h₁ (fun _ s₀ h₀=>?_) fun _ _ h'=>h')
    refine YC (Y8 h₀ (fun _ s₂ h₂=>YC (Y8 h₂ (fun ok s₃ h₃=>?_) fun _ _ h'=>h')) fun _ _ h'=>h')
    cases ok with
    |false=>exact Y9 ⟨rfl,h₃⟩
    | true=>
      exact YC (YC (Y8 h₃ (fun x s₄ h₄=>YC (Y8 h₄ (fun _ s₅ h₅=>Y9 (Y9 ⟨rfl,h₅⟩)) fun _ _ h'=>h')) fun _ _ h'=>h'))
end
def cWord (J:It)(tt:TT)(te:TE)(σc:V->St)(H1:Hp)(Q:VK):Prop:=∃W:Nat->Nat->List V->Hp->Prop,(∃m,W 0 m [] H1)/\∀i m ys H,W i m ys H->ys.length<sizeLine/\
  ((J.stop i H/\∀p,H p=none->Q (.ref p) (upd H p (.lst ys)))\/
   (J.go i H/\∃N:List V->Hp->Prop,(∀ys' H',N ys' H'->∃m',m'<m/\W (i+1) m' ys' H')/\∀x H',J.yld i H x H'->tt (σc x) H' fun b H3=>if b=true then te (σc x) H3 fun y H4=>N (ys++[y]) H4 else N ys H3))
structure CompAt (X:Cx)(C:Addr)(fp:List Addr)(s:Shared)(H:Hp):Prop where
 inv:∃pins σ,Inv X pins σ H s/\∀b∈fp,FpOk X pins H b
 low:∀b∈fp,b<s.heap.objs.size
 up:s.heap.objs.size<=C
def tComp (ix:List Nat)(wi:TI)(tt:TT)(te:TE):TE:=fun σ H Q=>wi σ H fun J H1=>cWord J tt te (fun x=>some x::subS σ ix) H1 Q
section
variable {X:Cx}{scope:Scope}{cl:List (Str×Addr)}{x:Str}{ix:List Nat}{elt iter:Expr}{ifs:List Expr}{pos px:Pos}{wi:TI}{tt:TT}{te:TE}
theorem kO (S:CompScope X scope cl x ix)(hc:X.calm=true)
    (ht:∀C fp s H,CompAt X C fp s H->PTs (cxComp X scope cl x ix C fp s H) ifs tt) (he:∀C fp s H,CompAt X C fp s H->PE (cxComp X scope cl x ix C fp s H) elt te)
    {pins:List (Addr×Obj)} {σ:St} {Q:VK} {itv:Value} {s2:Shared} {E:Value->Shared->Prop} {RR:Value->Addr->Result->Shared->Prop} (h2:PIE X pins σ (.Name x px) (fun J H1=>cWord J tt te (fun x=>some x::subS σ ix) H1 Q) itv s2)
    (fin:∀(D C:Addr)(H:Hp)(s':Shared)(m:Str->Option Value),Inv X pins σ H s'->s'.heap.Ns C m->H C=none->s2.heap.objs.size<=C->(∀p∈X.pn++pins,p.1≠C)->X.env.locals≠C->(∀y c,X.env.cells.lookup y=some c->c≠C)->X.s₀.heap.objs.size<=C->Q (.ref D) H->RR (.ref D) C (.ok .next) s')
    (fex:∀(D C:Addr)(e:Value)(s':Shared),compXe X scope cl C e s'->notedBy (model X.prog X.w) X.A (compEnvC scope cl C X.env) (fun e s'=>RR (.ref D) C (.error e) s') e s') :
    wpAny (model X.prog X.w) X.A (newList []) (fun acc s₃=>wpAny (model X.prog X.w) X.A (newFunctionEnv scope X.env.globals cl [] X.env.qual none .none (some X.env)) (fun cenv s₄=>
      codeAny (model X.prog X.w) X.A (.compStart (.ListComp elt [⟨.Name x px,iter,ifs,0⟩] scope pos) 0 itv acc { cenv with scope:=relabel scope X.env }) (RR acc cenv.locals) s₄) E s₃) E s2:=by
  obtain⟨it,fp,tn,J,H2,rfl,I2,T,st2,f2,W,⟨m0,w0⟩,turn⟩:=h2
  have hfl:∀b∈fp,b<s2.heap.objs.size:=fun b hb=>by
    obtain⟨o,e,_⟩:=T.obj _ _ st2 b hb
    exact Yq e
  refine wpAny_newObj_type (wpAny_newFunctionEnv S.nocell (by intro y hy;simp at hy) (fun h₁ hns₁ hsb₁=>?_) S.kind)
  dsimp only at hns₁ hsb₁ ⊢
  generalize hH2:s2.heap.push { cls:= .type "list",dict:=none,data:= .seq ([]:List Value).toArray }=G2 at hns₁ hsb₁ ⊢
  have hC:G2.objs.size=s2.heap.objs.size+1:=by rw[<-hH2,Heap.size_push]
  have hDC:s2.heap.objs.size≠G2.objs.size:=by rw[hC];exact YO (Xf _)
  have hCle:s2.heap.objs.size<=G2.objs.size:=by rw[hC];exact Xn _
  have below:∀b,b<s2.heap.objs.size->b≠G2.objs.size/\b≠s2.heap.objs.size:=fun b hb=>⟨by rw[hC];exact YO (Nat.lt_succ_of_lt hb),YO hb⟩
  have at0:CompAt X G2.objs.size fp s2 H2:=⟨⟨pins,σ,I2,f2⟩,hfl,hCle⟩
  have old:∀b o,s2.heap.get? b=some o->h₁.get? b=some o:=fun b o e=>hsb₁.extBut b o (below b (Yq e)).1 (Yr _ (hH2▸Yr _ e))
  have hacc:h₁.get? s2.heap.objs.size=some { cls:= .type "list",data:= .seq ([]:List Value).toArray 0 }:=hsb₁.extBut _ _ hDC (Yr _ (hH2▸YL _ rfl))
  have st1:tn 0 h₁:=T.keep _ _ _ st2 fun b _ o e=>old b o e
  have stat:∀{H':Hp},(∀b∈fp,H' b=none)->∀b∈fp,FpOk (cxComp X scope cl x ix G2.objs.size fp s2 H2) [] H' b:=fun hn b hb=>
    ⟨hn b hb,(below b (hfl b hb)).1,fun z=>by
      rcases YK.mp (I2.stkSub b z) with e | e
      · exact(f2 b hb).2.1 e
      · exact(f2 b hb).2.2.1 e,.inl hb,fun y c e=>(f2 b hb).2.2.2.2.1 y c (S.look e),fun p hp=>absurd (show p∈([]:List (Addr×Obj)) from hp) (by simp)⟩
  have I3:∀s₃:Shared,s₃={ s2 with heap:=h₁,toks:=s2.toks+([]:List (Str×Value)).length }->Inv (cxComp X scope cl x ix G2.objs.size fp s2 H2) [] (none::subS σ ix) H2 s₃:=fun s₃ e=>by
    subst e
    exact S.inv I2 f2 hfl hCle rfl I2.bare old hns₁
  let Acc:List V->Heap->Prop:=fun ys h=>∃its n,Vals ys its/\h.get? s2.heap.objs.size=some { cls:= .type "list",data:= .seq its.toArray n }
  have loop :∀s₃:Shared,s₃={ s2 with heap:=h₁,toks:=s2.toks+([]:List (Str×Value)).length }->
      codeAny (model X.prog X.w) X.A (.compLoop (.ListComp elt [⟨.Name x px,iter,ifs,0⟩] scope pos) 0 (.ref it) (.ref s2.heap.objs.size) (compEnvC scope cl G2.objs.size X.env)) (RR (.ref s2.heap.objs.size) G2.objs.size) s₃:=by
    intro s₃ e₃
    refine nH (fun n s'=>∃i ys H',Inv (cxComp X scope cl x ix G2.objs.size fp s2 H2) [] (none::subS σ ix) H' s'/\H' s2.heap.objs.size=none/\Acc ys s'.heap/\tn i s'.heap/\(∀b∈fp,H' b=none)/\W i n ys H') ?_ m0
      ⟨0, [],H2,I3 s₃ e₃,I2.hok.fresh (Yd _),⟨[],0,.nil,by rw[e₃];exact hacc⟩,by rw[e₃];exact st1,fun b hb=>(f2 b hb).1,w0⟩
    rintro n s4 ⟨i,ys,H4,I4,hD4,⟨its,kk,rv,eD⟩,st4,fr4,w4⟩
    obtain⟨hsz,q4⟩:=turn i n ys H4 w4
    have hlen:=rv.length
    rcases q4 with ⟨stop,qn⟩ | ⟨go,N,hN,step⟩
    · refine Y8 (T.done (cxComp X scope cl x ix G2.objs.size fp s2 H2) rfl rfl rfl hc i [(s2.heap.objs.size,{ cls:= .type "list",data:= .seq its.toArray kk })] s4 (none::subS σ ix) H4 (fun _ _=>False) ?_ ?_ st4 stop) (fun r s5 ⟨hr,I5⟩=>?_) fun _ _ z=>z.elim
      · refine I4.pins_of fun p hp=>?_
        rw[Yp.mp hp]
        exact⟨eD,hD4,hDC,fun z=>by
          have:=Y6 I2.stack z
          obtain⟨_,o,ho,_⟩:=this
          exact YX _ (Yq ho),fun v z=>by cases z⟩
      · intro b hb
        obtain⟨a1,a2,a3,a4,a5,_⟩:=stat fr4 b hb
        exact⟨a1,a2,a3,a4,a5,fun p hp=>by
          rw[Yp.mp hp]
          exact fun z=>(below b (hfl b hb)).2 z.symm⟩
      subst hr
      have eD5:=(I5.pin _ (by simp:(s2.heap.objs.size,({ cls:= .type "list",data:= .seq its.toArray kk }:Obj))∈(cxComp X scope cl x ix G2.objs.size fp s2 H2).pn++[(s2.heap.objs.size,{ cls:= .type "list",data:= .seq its.toArray kk })])).1
      have neD:∀b u,H4 b=some u->b≠s2.heap.objs.size:=fun b u e z=>by rw[z,hD4]at e;cases e
      have new:HOk X.prog X.w (upd H4 s2.heap.objs.size (.lst ys)) s5.heap:=by
        intro b u e
        by_cases hb:b=s2.heap.objs.size
        · subst hb
          rw[aB]at e
          cases e
          exact⟨Xz hsz,its,kk,rv,eD5⟩
        · rw[aL hb]at e
          exact(I5.hok b u e).stay (fun c v _ q=>q) (fun c q=>by rw[aL (neD c _ q)];exact q) fun c xs q=>by rw[aL (neD c _ q)];exact q
      have un:Un (frs X.stack) fp H2 (upd H4 s2.heap.objs.size (.lst ys)) s2.heap s5.heap:=by
        have B:=I5.base
        exact⟨B.keep,B.slot,fun b o e n hx=>by rw[aL (below b (Yq e)).2];exact B.free b o e n hx,B.there,
          fun b xs e=>by rw[aL (neD b _ (B.tups b xs e))];exact B.tups b xs e,fun b o u e=>by rw[aL (neD b _ (B.frzs b o u e))];exact B.frzs b o u e,
          fun b ps e=>by
            obtain⟨mm,z⟩:=B.tbls b ps e
            exact⟨mm,by rw[aL (neD b _ z)];exact z⟩⟩
      have J5:Inv X pins σ (upd H4 s2.heap.objs.size (.lst ys)) s5:=I2.call' (ch:=fp) I5.os un new I5.bare fun b hb=>⟨(f2 b hb).2.2.2.1,(f2 b hb).2.1,(f2 b hb).2.2.2.2.1,(f2 b hb).2.2.2.2.2⟩
      obtain⟨mC,hnC,_⟩:=I5.loc
      refine fin _ _ _ _ mC J5 hnC (by rw[aL (Ne.symm hDC)];exact I5.free) hCle (fun p hp z=>?_) (YO (Yh I2.lt hCle)) (fun y c e z=>?_) (Y4 I2.sz hCle) (qn _ hD4)
      · exact absurd (Yh (Yq (I2.pin p hp).1) hCle) (by rw[z];exact YX _)
      · obtain⟨v,oc,hoc,_⟩:=I2.cell y c e
        exact absurd (Yh (Yq hoc) hCle) (by rw[z];exact YX _)
    · have pinD:∀{pl:List (Addr×Obj)}{σ':St}{H':Hp}{s':Shared}{its':List Value}{k':Nat},Inv (cxComp X scope cl x ix G2.objs.size fp s2 H2) pl σ' H' s'->s'.heap.get? s2.heap.objs.size=some { cls:= .type "list",data:= .seq its'.toArray k' }->H' s2.heap.objs.size=none->
          Inv (cxComp X scope cl x ix G2.objs.size fp s2 H2) [(s2.heap.objs.size,{ cls:= .type "list",data:= .seq its'.toArray k' })] σ' H' s':=fun I' e' n'=>I'.pins_of fun p hp=>by
        rw[Yp.mp hp]
        exact⟨e',n',hDC,fun z=>by
          obtain⟨_,o,ho,_⟩:=Y6 I2.stack z
          exact YX _ (Yq ho),fun v z=>by cases z⟩
      have stat2:∀{H':Hp},(∀b∈fp,H' b=none)->∀b∈fp,FpOk (cxComp X scope cl x ix G2.objs.size fp s2 H2) [(s2.heap.objs.size,{ cls:= .type "list",data:= .seq its.toArray kk })] H' b:=fun hn b hb=>by
        obtain⟨a1,a2,a3,a4,a5,_⟩:=stat hn b hb
        exact⟨a1,a2,a3,a4,a5,fun p hp=>by
          rw[Yp.mp hp]
          exact fun z=>(below b (hfl b hb)).2 z.symm⟩
      refine Y8 (T.item (cxComp X scope cl x ix G2.objs.size fp s2 H2) rfl rfl rfl hc i _ s4 _ H4 (fun _ _=>False) (pinD I4 eD hD4) (stat2 fr4) st4 go) (fun r s5 hz9=>?_) fun _ _ z=>z.elim
      obtain⟨u,hr,h5⟩:=hz9
      subst hr
      refine Y8 h5 (fun _ s6 hz9=>?_) fun _ _ z=>z.elim
      obtain⟨y,H6,I6,r6,y6,st6,fr6⟩:=hz9
      have I6':=I6.pinned (stat2 fr6) (T.obj _ _ st6)
      have hxl:(relabel scope X.env).names.lookup x=some .local:=lookup_relabel_local S.loc
      refine wpAny_assign_Name (jM (X:=cxComp X scope cl x ix G2.objs.size fp s2 H2) (i:=0) I6' (YS.mp S.nd).2 rfl (.inl hxl) r6 (fun s7 I7=>?_) (.inr hxl))
      have q7:=step y H6 y6
      refine Y8 (ht _ _ _ _ at0 _ s7 (some y::subS σ ix) H6 _ I7 q7) (fun ok s8 hz9=>?_) fun _ _ z=>fex _ _ _ _ z
      obtain⟨H8,I8,q8⟩:=hz9
      have kept:∀{σ9:St}{H9:Hp}{s9:Shared},Inv (cxComp X scope cl x ix G2.objs.size fp s2 H2) ([(s2.heap.objs.size,{ cls:= .type "list",data:= .seq its.toArray kk })]++pinsAt fp s6.heap) σ9 H9 s9->
          s9.heap.get? s2.heap.objs.size=some { cls:= .type "list",data:= .seq its.toArray kk }/\H9 s2.heap.objs.size=none/\tn (i+1) s9.heap/\∀b∈fp,H9 b=none:=fun {σ9 H9 s9} I9=>by
        have p0:=I9.pin (s2.heap.objs.size,{ cls:= .type "list",data:= .seq its.toArray kk }) (YQ _ (X5 _ (Yp.mpr rfl)))
        refine⟨p0.1,p0.2.1,T.keep _ _ _ st6 fun b hb o e=>(I9.pin (b,o) (YQ _ (YQ _ (eV hb e)))).1,fun b hb=>?_⟩
        obtain⟨o,e,d⟩:=T.obj _ _ st6 b hb
        exact(I9.pin (b,o) (YQ _ (YQ _ (eV hb e)))).2.1
      have back:∀{pl:List (Addr×Obj)}{H9:Hp}{s9:Shared},Inv (cxComp X scope cl x ix G2.objs.size fp s2 H2) pl (some y::subS σ ix) H9 s9->Inv (cxComp X scope cl x ix G2.objs.size fp s2 H2) [] (none::subS σ ix) H9 s9:=fun {pl H9 s9} I9=>
        (I9.weak (σ':=none::subS σ ix) rfl fun j v e=>by
          cases j with
          |zero=>cases (show none=some v from Yt e)
          |succ j=>exact e).pins_of fun p hp=>nomatch hp
      cases ok with
      | true=>
        rw[if_pos rfl]at q8 ⊢
        refine Y8 (he _ _ _ _ at0 _ s8 (some y::subS σ ix) H8 _ I8 q8) (fun yv s9 hz9=>?_) fun _ _ z=>fex _ _ _ _ z
        obtain⟨yy,H9,I9,r9,n9⟩:=hz9
        obtain⟨m',hm',w9⟩:=hN _ _ n9
        obtain⟨kD,kn,kt,kf⟩:=kept I9
        refine append_at (hsz:=by rw[Yx];omega) kD fun h10 hs10 hD10=>?_
        have neD:∀b u,H9 b=some u->b≠s2.heap.objs.size:=fun b u e z=>by rw[z,kn]at e;cases e
        have I9':=back I9
        have cellne:∀y c,cl.lookup y=some c->c≠s2.heap.objs.size:=fun y c e z=>by
          obtain⟨v,oc,hoc,_⟩:=I2.cell y c (S.look e)
          exact absurd (Yq hoc) (by rw[z];exact YX _)
        have I10:Inv (cxComp X scope cl x ix G2.objs.size fp s2 H2) [] (none::subS σ ix) H9 { s9 with heap:=h10 }:=I9'.turned (t':=s9.toks) (it:=s2.heap.objs.size) (fun b o hb e=>hs10.extBut b o hb e) kn hDC (.inr (Yd _)) cellne fun p hp=>absurd (show p∈([]:List (Addr×Obj)) from hp) (by simp)
        refine⟨m',hm',i+1,ys++[yy],H9,I10,kn,⟨its++[yv],kk+1,rv.append (.cons r9 .nil),?_⟩,T.keep _ _ _ kt fun b hb o e=>hs10.extBut b o (below b (hfl b hb)).2 e,kf,w9⟩
        refine hD10.trans (YF some ?_)
        simp
      | false=>
        rw[if_neg Yn]at q8 ⊢
        obtain⟨m',hm',w9⟩:=hN _ _ q8
        obtain⟨kD,kn,kt,kf⟩:=kept I8
        exact⟨m',hm',i+1,ys,H8,back I8,kn,⟨its,kk,rv,kD⟩,kt,kf,w9⟩
  exact codeAny_compStart_list (loop _ rfl) (T.self _ 0 _ _ _ st1 (loop _ rfl))
def closFrom (env:Env):List (Str×NameKind)->List (Str×Addr)->List (Str×Addr)
 |[],cs=>cs
 |(n,k)::r,cs=>closFrom env r (if k == .free then (n,(env.cells.lookup n).getD 0)::cs else cs)
theorem nJ {env:Env}:∀(names:List (Str×NameKind))(cs:List (Str×Addr)),(∀y∈names,y.2= .free->∃c,env.cells.lookup y.1=some c)->
  (forIn names cs fun (p:Str×NameKind) (r:List (Str×Addr))=>match p with | (name,kind)=>if (kind == .free)=true then do let c<-cellOf env name;pure (ForInStep.yield ((name,c)::r)) else pure (ForInStep.yield r):Sem (List (Str×Addr)))=pure (closFrom env names cs)
 |[],cs,_=>rfl
 | (n, k)::r,cs,h=>by
  rw[List.forIn_cons]
  cases hk:k == NameKind.free with
  | true=>
   obtain⟨c,hc⟩:=h (n,k) YN (eq_of_beq hk)
   have e1:cellOf env n=pure c:=by unfold cellOf;rw[hc]
   have e2:closFrom env ((n,k)::r) cs=closFrom env r ((n,c)::cs):=by
    show closFrom env r (if (k == .free)=true then (n,(env.cells.lookup n).getD 0)::cs else cs)=_
    rw[hk,if_pos rfl,hc];rfl
   rw[e2,<-nJ r ((n,c)::cs) fun y hy=>h y (Yv _ hy)]
   dsimp only
   rw[if_pos hk,e1]
   rfl
  | false=>
   have e2:closFrom env ((n,k)::r) cs=closFrom env r cs:=by
    show closFrom env r (if (k == .free)=true then (n,(env.cells.lookup n).getD 0)::cs else cs)=_
    rw[hk,if_neg Yn]
   rw[e2,<-nJ r cs fun y hy=>h y (Yv _ hy)]
   dsimp only
   rw[if_neg (by rw[hk];exact Yn)]
   rfl
theorem gZ {env:Env}{y:Str×Addr}:∀(names:List (Str×NameKind))(cs:List (Str×Addr)),y∈closFrom env names cs->y∈cs\/∃k∈names,k.2= .free/\k.1=y.1/\y.2=(env.cells.lookup y.1).getD 0
 |[],cs,h=> .inl h
 | (n, k)::r,cs,h=>by
  rcases gZ r _ h with z | ⟨p,hp,e⟩
  ·cases hk:k == NameKind.free with
   | true=>
    rw[hk,if_pos rfl]at z
    rcases YK.mp z with z | z
    ·exact .inr ⟨(n,k),YN,eq_of_beq hk,by rw[z],by rw[z]⟩
    ·exact .inl z
   | false=>
    rw[hk,if_neg Yn]at z
    exact .inl z
  ·exact .inr ⟨p,Yv _ hp,e⟩
theorem dU {y:Str}{c:Addr}:∀{l:List (Str×Addr)},(y,c)∈l->∃d,l.lookup y=some d
 |[],h=>by simp at h
 | (n, d)::r,h=>by
  rw[XH]
  cases e:y == n with
  |true=>exact⟨d,rfl⟩
  | false=>
   rcases YK.mp h with z | z
   ·have:y=n:=(Prod.mk.inj z).1
    rw[this,beq_self_eq_true]at e;cases e
   ·exact dU z
theorem gQ {env:Env}{y:Str}:∀(names:List (Str×NameKind))(cs:List (Str×Addr)),((y,NameKind.free)∈names\/∃c,(y,c)∈cs)->∃c,(y,c)∈closFrom env names cs
 | [],cs,h=>by
  rcases h with h | h
  ·simp at h
  ·exact h
 | (n, k)::r,cs,h=>by
  refine gQ r _ ?_
  rcases h with h | ⟨c,h⟩
  ·rcases YK.mp h with z | z
   ·obtain⟨e1,e2⟩:=Prod.mk.inj z
    subst e1 e2
    exact .inr ⟨(env.cells.lookup y).getD 0,by rw[if_pos (beq_self_eq_true _)];exact YN⟩
   ·exact .inl z
  ·refine .inr ⟨c,?_⟩
   split
   ·exact Yv _ h
   ·exact h
def compOk (scope:Scope)(env:Env)(x:Str):Bool:=scope.names.all fun y=>(y.2 != .local || ((y.1 == x || y.1 == ".0") && scope.names.lookup y.1 == some .local)) && y.2 != .cell && (y.2 != .free || env.kindOf y.1 == some .cell || env.kindOf y.1 == some .free)
theorem gY (ok:X.Ok)(hk:scope.kind= .function)(hx:scope.names.lookup x=some .local)(hall:compOk scope X.env x=true)(nd:((".0":Str)::x::subN X.N ix).Nodup):CompScope X scope (closFrom X.env scope.names []) x ix:=by
 have all:∀y∈scope.names,(y.2= .local->(y.1=x\/y.1=".0")/\scope.names.lookup y.1=some .local)/\y.2≠ .cell/\(y.2= .free->(X.env.kindOf y.1=some .cell\/X.env.kindOf y.1=some .free)):=fun y hy=>by
  have z:=X0.mp hall y hy
  simp only[Xv,Bool.or_eq_true,bne_iff_ne,XF,ne_eq]at z
  refine⟨fun e=>z.1.1.resolve_left fun q=>q e,z.1.2,fun e=>?_⟩
  rcases z.2 with (q | q) | q
  ·exact absurd e q
  ·exact .inl q
  ·exact .inr q
 have cells:∀y∈scope.names,y.2= .free->∃c,X.env.cells.lookup y.1=some c:=fun y hy e=>ok.has y.1 ((all y hy).2.2 e)
 refine⟨?_,hk,hx,fun y hy e=>((all y hy).1 e).1,fun y hy e=>((all y hy).1 e).2,fun y hy=>(all y hy).2.1,fun y hy=>(all y hy).2.2,fun y hy e=>?_,fun y hy=>?_,nd⟩
 ·have q:=nJ scope.names [] cells
  unfold closureFor
  have q2:(forIn scope.names [] fun (p:Str×NameKind) (r:List (Str×Addr))=>match p with | (name,kind)=>if (kind == .free)=true then do let c<-cellOf X.env name;pure (ForInStep.yield ((name,c)::r)) else pure (ForInStep.yield r):Sem (List (Str×Addr))) >>= (fun cs=>pure cs)=pure (closFrom X.env scope.names []):=by
   rw[q];rfl
  exact q2
 ·obtain⟨n,k⟩:=y
  have e':k= .free:=e
  subst e'
  obtain⟨c,hc⟩:=gQ (env:=X.env) scope.names [] (.inl hy)
  exact dU hc
 ·rcases gZ scope.names [] hy with z | ⟨p,hp,e1,e2,e3⟩
  ·simp at z
  ·obtain⟨c,hc⟩:=cells p hp e1
   rw[e2]at hc
   rw[e3,hc];rfl
theorem dH (hc:X.calm=true)(hi:PI X (.Name x px) iter wi)(ht:∀C fp s H,CompAt X C fp s H->PTs (cxComp X scope (closFrom X.env scope.names []) x ix C fp s H) ifs tt)(he:∀C fp s H,CompAt X C fp s H->PE (cxComp X scope (closFrom X.env scope.names []) x ix C fp s H) elt te)
  (hk:scope.kind= .function) (hx:scope.names.lookup x=some .local) (hall:compOk scope X.env x=true) (nd:((".0":Str)::x::subN X.N ix).Nodup)
  (hs:∀x,foldedSetIterable iter X.env x=pure x:=by intro _;rfl):PE X (.ListComp elt [⟨.Name x px,iter,ifs,0⟩] scope pos) (tComp ix wi tt te):=by
 intro pins s σ H Q I h
 have S:CompScope X scope (closFrom X.env scope.names []) x ix:=gY I.ok hk hx hall nd
 rw[eval_ListComp]
 refine wpAny_comprehension_free (use:=none) rfl hs S.clos S.kind S.locs (thn (hi pins s σ H _ I h) fun v s1 h1=>thn h1 fun itv s2 h2=>?_)
 refine kO S hc ht he h2 (fun D C H' s' m J hn hCn hCle hp hL hcl hs0 q=>?_) fun D C e s' z=>z
 exact⟨m,hn,fun h' sb=>⟨.ref D,H',J.turned (t':=s'.toks) (fun b o hb e=>sb.extBut b o hb e) hCn (Ne.symm hL) (.inr hs0) hcl hp,rfl,q⟩⟩
theorem cZ {j:Nat}{y:Str}{py spos:Pos}(hN:X.N.Nodup)(hj:X.N[j]? =some y)(hy:X.env.scope.names.lookup y=some .local)(hc:X.calm=true)(hi:PI X (.Name x px) iter wi)
  (ht:∀C fp s H,CompAt X C fp s H->PTs (cxComp X scope (closFrom X.env scope.names []) x ix C fp s H) ifs tt) (he:∀C fp s H,CompAt X C fp s H->PE (cxComp X scope (closFrom X.env scope.names []) x ix C fp s H) elt te)
  (hk:scope.kind= .function) (hx:scope.names.lookup x=some .local) (hall:compOk scope X.env x=true) (nd:((".0":Str)::x::subN X.N ix).Nodup)
  (hsw:swapsWith (.ListComp elt [⟨.Name x px,iter,ifs,0⟩] scope pos) (some (.Name y py)) spos.line X.env=pure true:=by rfl) (hs:∀x,foldedSetIterable iter X.env x=pure x:=by intro _;rfl) :
  PS X (.Assign [.Name y py] (.ListComp elt [⟨.Name x px,iter,ifs,0⟩] scope pos) spos) (tAsg (tComp ix wi tt te) (gName j)):=by
 intro pins s σ H D I h
 have S:CompScope X scope (closFrom X.env scope.names []) x ix:=gY I.ok hk hx hall nd
 rw[exec_Assign_Name_used _ _ _ _ hsw]
 refine YC (wpAny_standAt (YC ?_))
 show wpAny _ _ (do let _<-comprehension (.ListComp elt [⟨.Name x px,iter,ifs,0⟩] scope pos) scope X.env _ (newList []) false (eval iter X.env) (some (assign (.Name y py) X.env))) _ _ s
 refine YC (Y8 (wpAny_comprehension_free (use:=some (assign (.Name y py) X.env)) (Q:=fun _ s'=>SP X pins D .next s') rfl hs S.clos S.kind S.locs
  (thn (hi pins s σ H _ I h) fun v s1 h1=>thn h1 fun itv s2 h2=>?_)) (fun _ s' hq=>Y9 (Y9 hq)) fun _ _ e=>e)
 refine kO (Q:=fun v H1=>D.nx (σ.set j (some v)) H1) S hc ht he h2 (fun D' C H' s' m J hn hCn hCle hp hL hcl hs0 q=>?_) fun D' C e s' z=>z
 show wpAny _ _ (assign (.Name y py) X.env (.ref D')) _ _ _
 refine wpAny_assign_Name (lJ J hN hj (.inl hy) (v:= .ref D') rfl (fun s'' J' hz9=>?_) (.inr hy))
 obtain⟨a,sb,ha⟩:=hz9
 have hCa:C≠a:=by
  rcases ha with e | e
  ·rw[e];exact Ne.symm hL
  ·exact Ne.symm (hcl y a e)
 exact⟨m,hn.sameBut sb hCa,fun h' sb'=>⟨σ.set j (some (.ref D')),H',J'.turned (t':=s''.toks) (fun b o hb e=>sb'.extBut b o hb e) hCn (Ne.symm hL) (.inr hs0) hcl hp,q⟩⟩
end
theorem cQ {lo:Int}{n:Nat}{tt:TT}{te:TE}{σc:V->St}{H:Hp}{Q:VK}(Pv:Nat->List V->Hp->Prop)(hn:∀i ys H,i<=n->Pv i ys H->ys.length<sizeLine)(h0:Pv 0 [] H)
  (hs:∀i ys H,i<n->Pv i ys H->tt (σc (.int (lo+i))) H fun b H3=>if b=true then te (σc (.int (lo+i))) H3 fun y H4=>Pv (i+1) (ys++[y]) H4 else Pv (i+1) ys H3)
  (hd:∀ys H,Pv n ys H->∀p,H p=none->Q (.ref p) (upd H p (.lst ys))):cWord (Itr lo n) tt te σc H Q:=by
 refine⟨fun i m ys H=>m=n-i/\i<=n/\Pv i ys H,⟨n,by simp,Xx _,h0⟩,?_⟩
 rintro i m ys H ⟨rfl,hi,p⟩
 refine⟨hn i ys H hi p,?_⟩
 by_cases hlt:i<n
 ·refine .inr ⟨hlt,Pv (i+1),fun ys' H' q=>⟨n-(i+1),by omega,rfl,hlt,q⟩,fun x H' y=>?_⟩
  obtain⟨e,y⟩:=y
  subst e y
  exact hs i ys _ hlt p
 ·have e:i=n:=by omega
  subst e
  exact .inl ⟨Yd _,hd ys H p⟩
theorem cU {K:W.Frag}{a:Addr}{xs:List V}{tt:TT}{te:TE}{σc:V->St}{H:Hp}{Q:VK}(Pv:Nat->List V->Hp->Prop)(hn:∀i ys H,i<=xs.length->Pv i ys H->ys.length<sizeLine)(h0:Pv 0 [] H)
  (hl:∀i ys H,i<=xs.length->Pv i ys H->SqL K H a xs)
  (hs:∀i x ys H,xs[i]? =some x->Pv i ys H->tt (σc x) H fun b H3=>if b=true then te (σc x) H3 fun y H4=>Pv (i+1) (ys++[y]) H4 else Pv (i+1) ys H3)
  (hd:∀ys H,Pv xs.length ys H->∀p,H p=none->Q (.ref p) (upd H p (.lst ys))):cWord (Itl K a) tt te σc H Q:=by
 refine⟨fun i m ys H=>m=xs.length-i/\i<=xs.length/\Pv i ys H,⟨xs.length,by simp,Xx _,h0⟩,?_⟩
 rintro i m ys H ⟨rfl,hi,p⟩
 have q:=hl i ys H hi p
 refine⟨hn i ys H hi p,?_⟩
 by_cases hlt:i<xs.length
 ·refine .inr ⟨⟨xs,xs[i],q,by simp[hlt]⟩,Pv (i+1),fun ys' H' q=>⟨xs.length-(i+1),by omega,rfl,hlt,q⟩,fun x H' y=>?_⟩
  obtain⟨e,y⟩:=y
  subst e
  exact hs i x ys _ (y xs q) p
 ·have e:i=xs.length:=by omega
  subst e
  exact .inl ⟨⟨xs,q,Yd _⟩,hd ys H p⟩
end L2
namespace L2
open PySem PySem.Spec PyProof.Rows PySem.W PySem.Builtin PySem.Builtin.ObjectAttr PySem.Builtin.Getset_descriptor
section
variable {prog:Program}{w:World}{A:Around}{E:Value->Shared->Prop}{K:W.Frag}{a C:Addr}
structure ExcC (K:W.Frag)(C:Addr):Prop where
 cd:(W.clsIn K C).isSome=true
 ga:W.findIn K (.ref C) "__getattribute__"=some (some (.builtin "BaseException.__getattribute__"))
 hk:W.findIn K (.ref C) "__getattr__"=some none
 cl:W.findIn K (.ref C) "__class__"=some (some (.builtin "object.__class__"))
 gt:W.specialIn K (.builtin "object.__class__") "__get__"=some (some (.builtin "getset_descriptor.__get__"))
 tk:W.takesIn K (.builtin "object.__class__")=some true
 ob:W.mroIn K C (.type "object")=some true
 ba:W.mroIn K C (.type "BaseException")=some true
end
section
variable {X:Cx}
end
end L2
namespace L2
open PySem PySem.Spec PyProof.Rows
mutual
inductive DV (K:W.Frag)(H:Hp):V->PyData->Prop
 |non:DV K H .non .none
 |bl (b:Bool):DV K H (.bl b) (.bool b)
 |int (i:Int):DV K H (.int i) (.int i)
 |str (x:Str):DV K H (.str x) (.str x)
 |lst {a:Addr} {xs:List V} {ds:List PyData}:SqL K H a xs->DVs K H xs ds->DV K H (.ref a) (.list ds)
 |tup {a:Addr} {xs:List V} {ds:List PyData}:SqT K H a xs->DVs K H xs ds->DV K H (.ref a) (.tuple ds)
inductive DVs (K:W.Frag)(H:Hp):List V->List PyData->Prop
 |nil:DVs K H [] []
 |cons {x:V} {xs:List V} {d:PyData} {ds:List PyData}:DV K H x d->DVs K H xs ds->DVs K H (x::xs) (d::ds)
end
theorem DVs.ints {K:W.Frag}{H:Hp}:∀ns:List Int,DVs K H (ns.map V.int) (ns.map PyData.int)
 |[]=> .nil
 |n::r=> .cons (.int n) (DVs.ints r)
theorem DV.ints {K:W.Frag}{H:Hp}{a:Addr}{ns:List Int}(h:SqL K H a (ns.map V.int)):DV K H (.ref a) (.list (ns.map .int)):= .lst h (DVs.ints ns)
section
variable {X:Cx}{pins:List (Addr×Obj)}{σ:St}{H:Hp}{s:Shared}
mutual
theorem Inv.reads (I:Inv X pins σ H s):∀{x:V}{d:PyData}{u:Value},DV X.K H x d->RelV x u->∃as,Reads s.heap u d as
 |_,_,_,.non,r=>by cases r;exact⟨_,Reads.none⟩
 |_,_,_,.bl b,r=>by cases r;exact⟨_,Reads.bool b⟩
 |_,_,_,.int i,r=>by obtain⟨t,rfl⟩:=r;exact⟨_,Reads.int i t⟩
 |_,_,_,.str x,r=>by obtain⟨t,rfl⟩:=r;exact⟨_,Reads.str x t⟩
 | _,_,_,.lst h r,rr=>by
  cases rr
  obtain⟨its,rv,⟨o,n,e,c,_,dt⟩,_⟩:=I.list h
  obtain⟨as,q⟩:=Inv.readsAll I r rv
  exact⟨_,reads_list_at e c dt (by simpa using q)⟩
 | _,_,_,.tup h r,rr=>by
  cases rr
  obtain⟨its,rv,⟨o,e,c,n,dt⟩,_⟩:=I.tuple h
  obtain⟨as,q⟩:=Inv.readsAll I r rv
  exact⟨_,reads_tuple_at e c dt (by simpa using q)⟩
theorem Inv.readsAll (I:Inv X pins σ H s):∀{xs:List V}{ds:List PyData}{us:List Value},DVs X.K H xs ds->Vals xs us->∃as,ReadsAll s.heap us ds as
 |_,_,_,.nil,.nil=>⟨_,ReadsAll.nil⟩
 | _,_,_,.cons h r,.cons q p=>by
  obtain⟨as,q1⟩:=Inv.reads I h q
  obtain⟨bs,q2⟩:=Inv.readsAll I r p
  exact⟨_,ReadsAll.cons q1 q2⟩
end
end
section
variable {X:Cx}
theorem a5Z (hu:X.A.units+64<cLine):OpR X (compareOp .Eq) (fun x y H Q=>∃d e,DV X.K H x d/\DV X.K H y e/\SeqAt.shaped d=true/\SeqAt.shaped e=true/\Q (.bl (PyData.eqv d e)) H):=by
 intro pins s σ H x y v u Q I rx ry h
 obtain⟨d,e,hd,he,sd,se,q⟩:=h
 obtain⟨as,ra⟩:=I.reads hd rx
 obtain⟨bs,rb⟩:=I.reads he ry
 exact eq_dataH ra rb sd se hu ⟨.bl _,H,I,rfl,q⟩
theorem a5T (hu:X.A.units+64<cLine):OpR X (compareOp .NotEq) (fun x y H Q=>∃d e,DV X.K H x d/\DV X.K H y e/\SeqAt.shaped d=true/\SeqAt.shaped e=true/\Q (.bl (!PyData.eqv d e)) H):=by
 intro pins s σ H x y v u Q I rx ry h
 obtain⟨d,e,hd,he,sd,se,q⟩:=h
 obtain⟨as,ra⟩:=I.reads hd rx
 obtain⟨bs,rb⟩:=I.reads he ry
 exact ne_dataH ra rb sd se hu ⟨.bl _,H,I,rfl,q⟩
theorem a5X (hu:X.A.units+64<cLine):OpR X (compareOp .Eq) (fun x y H Q=>∃d,DV X.K H x d/\DV X.K H y d/\SeqAt.shaped d=true/\Q (.bl true) H):=(a5Z hu).imp fun x y H Q ⟨d,h1,h2,h3,q⟩=>⟨d,d,h1,h2,h3,h3,by rw[SeqAt.eqv_refl d (SeqAt.canLay_of_shaped h3)];exact q⟩
theorem nZ (hu:X.A.units+64<cLine):OpR X (compareOp .NotEq) (fun x y H Q=>∃d,DV X.K H x d/\DV X.K H y d/\SeqAt.shaped d=true/\Q (.bl false) H):=(a5T hu).imp fun x y H Q ⟨d,h1,h2,h3,q⟩=>⟨d,d,h1,h2,h3,h3,by rw[SeqAt.eqv_refl d (SeqAt.canLay_of_shaped h3)];exact q⟩
def mEqL (K:W.Frag):R2:=fun x y H Q=>vR x fun a=>vR y fun b=>∃ns ms:List Int,SqL K H a (ns.map V.int)/\SqL K H b (ms.map V.int)/\Q (.bl (decide (ns=ms))) H
def mNeL (K:W.Frag):R2:=fun x y H Q=>vR x fun a=>vR y fun b=>∃ns ms:List Int,SqL K H a (ns.map V.int)/\SqL K H b (ms.map V.int)/\Q (.bl (!decide (ns=ms))) H
theorem a5Y (hu:X.A.units+64<cLine):OpR X (compareOp .Eq) (mEqL X.K):=by
 intro pins s σ H x y v u Q I rx ry h
 obtain⟨a,rfl,hh⟩:=vR.ex h
 clear h
 obtain⟨b,rfl,ns,ms,h1,h2,q⟩:=vR.ex hh
 cases rx;cases ry
 obtain⟨its,rv,pl,_⟩:=I.list h1
 obtain⟨jts,rw',pl',_⟩:=I.list h2
 exact W.eq_intsK pl.isList (intsAre_of rv) pl'.isList (intsAre_of rw') hu ⟨.bl _,H,I,rfl,q⟩
theorem a2V (hu:X.A.units+64<cLine):OpR X (compareOp .NotEq) (mNeL X.K):=by
 intro pins s σ H x y v u Q I rx ry h
 obtain⟨a,rfl,hh⟩:=vR.ex h
 clear h
 obtain⟨b,rfl,ns,ms,h1,h2,q⟩:=vR.ex hh
 cases rx;cases ry
 obtain⟨its,rv,pl,_⟩:=I.list h1
 obtain⟨jts,rw',pl',_⟩:=I.list h2
 exact W.ne_intsK pl.isList (intsAre_of rv) pl'.isList (intsAre_of rw') hu ⟨.bl _,H,I,rfl,q⟩
end
theorem rK {ds:List PyData}(h:∀d∈ds,d.canLay0=true/\d.depth<=60):SeqAt.shaped (.list ds)=true:=by
 have all:∀ds:List PyData,(∀d∈ds,d.canLay0=true/\d.depth<=60)->PyData.canLayAll0 ds=true/\PyData.depthAll ds<=60:=by
  intro ds
  induction ds with
  |nil=>intro _;simp[PyData.canLayAll0,PyData.depthAll]
  | cons d r ih=>
   intro h
   have h1:=h d YN
   have h2:=ih fun z hz=>h z (Yv _ hz)
   simp only[PyData.canLayAll0,PyData.depthAll,h1.1,h2.1,Bool.and_self,true_and]
   have:=h1.2;have:=h2.2;omega
 have z:=all ds h
 unfold SeqAt.shaped
 rw[Xv]
 refine⟨by simp only[PyData.canLay0];exact z.1,Yl ?_⟩
 simp only[PyData.depth]
 have:=z.2;omega
theorem lay_ints (ns:List Int):(PyData.list (ns.map .int)).canLay0=true/\(PyData.list (ns.map .int)).depth<=60:=by
 refine⟨by simp only[PyData.canLay0];exact W.canLayAll0_ints ns,?_⟩
 have:=W.depthAll_ints ns
 simp only[PyData.depth];omega
end L2
namespace L2
open PySem PySem.Spec PyProof.Rows
section
variable {X:Cx}
theorem qU {its:List Value}{ns:List Int}(hi:IntsAre its ns):∃xs:Array (Int×Tok),its.toArray=intItems xs/\ns=xs.toList.map (·.1):=by
 obtain⟨xs,hx⟩:=hi.allInts.items
 refine⟨xs,hx,?_⟩
 rw[<-nums_intItems,<-hx]
 exact(show numsOf its.toArray.toList=ns from hi.numsOf).symm
def mBest (K:W.Frag)(lt:Int->Int->Prop):List V->Hp->VK->Prop:=fun xs H Q=>l1 xs fun x=>vR x fun p=>∃ns:List Int,SqL K H p (ns.map V.int)/\ns≠ []/\∀m,m∈ns->(∀z∈ns,lt m z)->Q (.int m) H
theorem wB (hc:X.calm=true):CallR X (.builtin "min") (mBest X.K (·<= ·)):=by
 intro pins s σ H xs us Q I r h
 obtain⟨x,rfl,h⟩:=l1.ex h
 obtain⟨p,rfl,ns,hS,hne,q⟩:=vR.ex h
 obtain⟨u,rfl,ru⟩:=vals1 r
 cases ru
 obtain⟨its,rv,pl,_⟩:=I.list hS
 obtain⟨zs,e1,e2⟩:=qU (intsAre_of rv)
 have hl:s.heap.IsList p (intItems zs):=e1▸pl.isList
 have hsz:0<zs.size:=by
  have h3:0<ns.length:=List.length_pos_iff.mpr hne
  rw[e2,Ya,XN]at h3;exact h3
 refine min_intList (I.ok.hd hc) hl hsz fun v h' tk hv hk=>?_
 obtain⟨t,rfl⟩:=intItems_at hv
 obtain⟨h1,h2⟩:=argBest_lt (numAt zs) (zs.size-1)
 refine⟨.int _,H,I.kept hk,⟨_,rfl⟩,q _ ?_ fun a ha=>?_⟩
 ·rw[e2,numAt_eq];exact getD_mem (by rw[Ya,XN];omega)
 ·rw[e2]at ha
  obtain⟨j,hj,rfl⟩:=mem_getD ha
  rw[Ya,XN]at hj
  rw[<-numAt_eq];exact h2 j (by omega)
def mCat:R2:=fun x y H Q=>vR x fun l=>vR y fun b=>∃xs zs,H l=some (.lst xs)/\H b=some (.lst zs)/\xs.length+zs.length<=sizeLine/\∀p,H p=none->Q (.ref p) (upd H p (.lst (xs++zs)))
theorem fJ:OpR X (binaryOp .Add) mCat:=a4M.imp fun x y H Q h=>by
 obtain⟨l,rfl,hh⟩:=vR.ex h
 clear h
 obtain⟨b,rfl,xs,zs,h1,h2,h3,h4⟩:=vR.ex hh
 exact⟨l,b,xs,zs,rfl,rfl,h1,h2,h3,h4⟩
end
theorem a2N {bs:List Int}{a n:Nat}(h:a+n<=bs.length):cutV (bs.map V.int) (some (a:Int)) (some ((a+n:Nat):Int))=((bs.drop a).take n).map V.int:=by
 unfold cutV
 rw[HT.sIx_nat,HT.sIx_nat,Ya,Nat.min_eq_left (by omega),Nat.min_eq_left (by omega),Nat.add_sub_cancel_left,List.map_take,List.map_drop]
end L2
namespace L2
open PySem PySem.Spec PyProof.Rows
def l3 (vs:List V)(k:V->V->V->Prop):Prop:=@List.rec V (fun _=>Prop) False (fun x r _=>l2 r fun y z=>k x y z) vs
section
variable {X:Cx}{tg:Expr}
end
section
variable {X:Cx}
end
end L2
namespace L2
open PySem PySem.Spec PyProof.Rows
section
variable {X:Cx}{a b c:Expr}{ta tb tc:TE}{pos:Pos}
def dChain (r r':R2)(ta tb tc:TE):TE:=fun σ H Q=>ta σ H fun x H1=>tb σ H1 fun y H2=>r x y H2 fun z H3=>vB z fun k=>if k=true then tc σ H3 fun u H4=>r' y u H4 Q else Q (.bl false) H3
theorem lY (r r':R2)(ta tb tc:TE):dChain r r' ta tb tc=tChain r r' ta tb tc:=by
 funext σ H Q
 unfold dChain tChain
 simp only[jK]
theorem pH {op op':CmpOp}{r r':R2}(ho:OpR X (compareOp op) r)(ho':OpR X (compareOp op') r')(ha:PE X a ta)(hb:PE X b tb)(hc:PE X c tc)
  (hm:lastMarks [op,op'] [b,c]=false:=by with_unfolding_all rfl):PE X (.Compare a [op,op'] [b,c] pos) (dChain r r' ta tb tc):=by
 rw[lY];exact xR ho ho' ha hb hc hm
theorem pA {op op':CmpOp}{r r':R2}(ho:OpR X (compareOp op) r)(ho':OpR X (compareOp op') r')(ha:PE X a ta)(hb:PE X b tb)(hc:PE X c tc)
  (hm:lastMarks [op,op'] [b,c]=false:=by with_unfolding_all rfl):PT X (.Compare a [op,op'] [b,c] pos) (dTest (dChain r r' ta tb tc)):=by
 rw[lY,pU];exact xG ho ho' ha hb hc hm
theorem jY (z:Int):∀ns:List Int,inV (.int z) (ns.map V.int)=decide (z∈ns)/\(ns.map V.int).all flatV=true
 |[]=>⟨rfl,rfl⟩
 | n ::r=>by
  have ih:=jY z r
  refine⟨?_,?_⟩
  ·unfold inV at ih ⊢
   rw[YE,X4,ih.1]
   show ((n == z) || decide (z∈r))=decide (z∈n::r)
   rw[X7]
   simp only[Bool.or_eq_true,XF,decide_eq_true_iff,YK]
   exact⟨fun h=>h.imp Eq.symm id,fun h=>h.imp Eq.symm id⟩
  ·rw[YE,XR,ih.2];rfl
def mInI (K:W.Frag)(f:Bool->Bool):R2:=fun x y H Q=>vI x fun z=>vR y fun p=>∃ns:List Int,SqA K H p (ns.map V.int)/\Q (.bl (f (decide (z∈ns)))) H
theorem a5W:OpR X (compareOp .In) (mInI X.K id):=uJ.imp fun x y H Q h=>by
 obtain⟨z,rfl,hh⟩:=vI.ex h
 clear h
 obtain⟨p,rfl,ns,h1,q⟩:=vR.ex hh
 have e:=jY z ns
 exact⟨p,_,rfl,h1,rfl,e.2,by show Q (.bl (inV (.int z) (ns.map V.int))) H;rw[e.1];exact q⟩
theorem wA:OpR X (compareOp .NotIn) (mInI X.K not):=mR.imp fun x y H Q h=>by
 obtain⟨z,rfl,hh⟩:=vI.ex h
 clear h
 obtain⟨p,rfl,ns,h1,q⟩:=vR.ex hh
 have e:=jY z ns
 exact⟨p,_,rfl,h1,rfl,e.2,by show Q (.bl (!inV (.int z) (ns.map V.int))) H;rw[e.1];exact q⟩
end
end L2
namespace L2
open PySem PySem.Spec PyProof.Rows
section
variable {X:Cx}{K:W.Frag}
theorem wD (hK:X.K=K:=by rfl):IxR X (mIxT K):=by subst hK;exact dG
theorem a3K (hK:X.K=K:=by rfl):CallR X (.builtin "len") (mLen K):=by subst hK;exact cH
theorem tX (hK:X.K=K:=by rfl):CallR X (.type "list") (mListOf K):=by subst hK;exact dM
theorem a3I (hK:X.K=K:=by rfl):SlR X (mSlL K):=by subst hK;exact nY
end
end L2
namespace L2
open PySem PySem.Spec PyProof.Rows
theorem a5L:bootBuiltins "all"=some (.builtin "all"):=by decide +kernel
section
variable {X:Cx}
def mRep:R2:=fun x y H Q=>vR x fun l=>vI y fun k=>∃xs,H l=some (.lst xs)/\(-(2 ^ 63)<=k/\k<2 ^ 63)/\xs.length*k.toNat<=sizeLine/\∀p,H p=none->Q (.ref p) (upd H p (.lst (List.replicate k.toNat xs).flatten))
theorem rG:OpR X (binaryOp .Mult) mRep:=a4J.imp fun x y H Q h=>by
 obtain⟨l,rfl,h⟩:=vR.ex h
 obtain⟨k,rfl,xs,h1,h2,h3,h4⟩:=vI.ex h
 exact⟨l,k,xs,rfl,rfl,h1,h2.1,h2.2,h3,h4⟩
def mInt:List V->Hp->VK->Prop:=fun xs H Q=>l1 xs fun x=>@V.rec (fun _=>Prop) False (fun b=>Q (.int (if b then 1 else 0)) H) (fun i=>Q (.int i) H) (fun _=>False) (fun _=>False) (fun _=>False) (fun _=>False) (fun _=>False) x
theorem a5V:CallR X (.type "int") mInt:=vY.imp fun xs H Q h=>by
 obtain⟨x,rfl,h⟩:=l1.ex h
 cases x with
 |int i=>exact .inl ⟨i,rfl,h⟩
 |bl b=>exact .inr ⟨b,rfl,h⟩
 |_=>exact h.elim
section
variable {o e:Expr}{es:List Expr}{to:TE}{t:TA}{apos cpos:Pos}
def dExtend (to:TE)(t:TA):TE:=fun σ H Q=>to σ H fun x H1=>vR x fun l=>(∃xs,H1 l=some (.lst xs))/\t σ H1 fun vs H2=>l1 vs fun y=>vR y fun b=>∃xs zs,H2 l=some (.lst xs)/\H2 b=some (.lst zs)/\xs.length+zs.length<=sizeLine/\Q .non (upd H2 l (.lst (xs++zs)))
theorem uR (ho:PE X o to)(ha:PA X [e] t)(hbase:attributeBase o "extend" X.env (eval o X.env)=eval o X.env:=by rfl)
  (hfew:((backTo cpos (starEach [e] X.env)).all (fun x=>!x.1) && (backToKw cpos (keywordEach [] X.env)).all (fun x=>x.1.isSome)
   && decide (([e]:List Expr).length+([]:List Keyword).length+(if ([]:List Keyword).isEmpty then 0 else 1)<30))=true:=by rfl)
  (hline:(apos.endLine == cpos.line)=true:=by rfl) (hs:starEach [e] X.env=(false,eval e X.env)::starEach [] X.env:=by rfl) (hplain:(backTo cpos (starEach [] X.env)).any (·.1)=false:=by rfl) :
  PE X (.Call (.Attribute o "extend" apos) [e] [] cpos) (dExtend to t):=
 (rW XV PySem.F.slot_list_extend PySem.F.type_list_extend uN (bR ho) (gD ha) hbase hfew hline hs hplain).imp fun σ H Q h=>⟨_,h,fun x H1 q=>by
  obtain⟨l,rfl,⟨xs,q1⟩,q2⟩:=vR.ex q
  refine⟨.inl ⟨rfl,xs,SqL.of q1⟩,_,q2,fun vs H2 q3=>?_⟩
  obtain⟨y,rfl,q3⟩:=l1.ex q3
  obtain⟨b,rfl,xs,zs,h1,h2,h3,h4⟩:=vR.ex q3
  exact⟨l,b,xs,zs,rfl,rfl,h1,h2,h3,h4⟩⟩
def dPopAt (to:TE)(t:TA):TE:=fun σ H Q=>to σ H fun x H1=>vR x fun l=>(∃xs,H1 l=some (.lst xs))/\t σ H1 fun vs H2=>l1 vs fun y=>vI y fun i=>∃xs k y,H2 l=some (.lst xs)/\(-(2 ^ 63)<=i/\i<2 ^ 63)/\seqIndex? i xs.length=some k/\xs[k]? =some y/\Q y (upd H2 l (.lst (xs.eraseIdx k)))
theorem yI (ho:PE X o to)(ha:PA X [e] t)(hbase:attributeBase o "pop" X.env (eval o X.env)=eval o X.env:=by rfl)
  (hfew:((backTo cpos (starEach [e] X.env)).all (fun x=>!x.1) && (backToKw cpos (keywordEach [] X.env)).all (fun x=>x.1.isSome)
   && decide (([e]:List Expr).length+([]:List Keyword).length+(if ([]:List Keyword).isEmpty then 0 else 1)<30))=true:=by rfl)
  (hline:(apos.endLine == cpos.line)=true:=by rfl) (hs:starEach [e] X.env=(false,eval e X.env)::starEach [] X.env:=by rfl) (hplain:(backTo cpos (starEach [] X.env)).any (·.1)=false:=by rfl) :
  PE X (.Call (.Attribute o "pop" apos) [e] [] cpos) (dPopAt to t):=
 (rW XV PySem.F.slot_list_pop PySem.F.type_list_pop yF (bR ho) (gD ha) hbase hfew hline hs hplain).imp fun σ H Q h=>⟨_,h,fun x H1 q=>by
  obtain⟨l,rfl,⟨xs,q1⟩,q2⟩:=vR.ex q
  refine⟨.inl ⟨rfl,xs,SqL.of q1⟩,_,q2,fun vs H2 q3=>?_⟩
  obtain⟨y,rfl,q3⟩:=l1.ex q3
  obtain⟨i,rfl,xs,k,y,h1,h2,h3,h4,h5⟩:=vI.ex q3
  exact⟨l,xs,i,k,y,rfl,rfl,h1,h2.1,h2.2,h3,h4,h5⟩⟩
end
theorem jH:∀{bs:List Bool}{us:List Value},Vals (bs.map V.bl) us->us=bs.map Value.bool
 |[],_,.nil=>rfl
 | b::r,_,.cons h t=>by
  cases (show _=Value.bool b from h)
  rw[jH t];rfl
def mAll (K:W.Frag):List V->Hp->VK->Prop:=fun xs H Q=>l1 xs fun x=>vR x fun p=>∃bs:List Bool,SqL K H p (bs.map V.bl)/\Q (.bl (bs.all id)) H
theorem all_range (bs:List Bool):(List.range bs.length).all (fun i=>bs.getD i false)=bs.all id:=by
 have e:(List.range bs.length).map (fun i=>bs.getD i false)=bs:=by
  apply List.ext_getElem
  ·simp
  ·intro i h1 h2
   simp[Ye,h2]
 conv=>rhs;rw[<-e,List.all_map]
 rfl
theorem a6A (hc:X.calm=true):CallR X (.builtin "all") (mAll X.K):=by
 intro pins s σ H xs us Q I r h
 obtain⟨x,rfl,h⟩:=l1.ex h
 obtain⟨p,rfl,bs,hS,q⟩:=vR.ex h
 obtain⟨u,rfl,ru⟩:=vals1 r
 cases ru
 obtain⟨its,rv,pl,_⟩:=I.list hS
 have ei:=jH rv
 subst ei
 have hl:=pl.isList
 have hlt:p<s.heap.objs.size:=by obtain⟨_,e,_⟩:=hl;exact Yq e
 refine call_all_walk (wpAny_pyIter_list hl ?_)
 refine⟨_,_,_,_,_,_,fun i=>bs.getD i false,rfl,Walks.list (A:=X.A.in1) (I.ok.hd hc) _ p (YO hlt) _,⟨⟨_,YL _ rfl,rfl,rfl⟩,hl.push _⟩,?_,fun h' tk hk=>?_⟩
 ·intro i v s' Q' E' hP hq
  have hv:(bs.map Value.bool)[i]? =some v:=by simpa using hP
  rw[Yj]at hv
  obtain⟨b,hb,rfl⟩:=YZ.mp hv
  have:bs.getD i false=b:=by rw[Ye,hb];rfl
  simp only[this]at hq
  exact Xd hq
 ·have e:(bs.map Value.bool).toArray.size=bs.length:=by simp
  rw[e,all_range]
  exact⟨.bl _,H,I.kept (old_kept hk),rfl,q⟩
end
end L2
namespace L2
open PySem PySem.Spec PyProof.Rows
section
variable {P:Program}{w:World}{K:W.Frag}{mg:Str->Option Value}{base:Heap}{N:List Str}{qual:Str}{scope:Scope}{f:Addr}{cd:Value}{A:Around}{outer:List Env}{s:Shared}{H:Hp}{E:XK}
theorem a1P {pins:List (Addr×Obj)}{σ:St}{H1 H':Hp}{s1 s3:Shared}{h5 B:Heap}{a t C:Addr}{cls fl:Value}{od:Option Addr}(I:Inv (cxOf (CXR P w) P w K mg base N qual scope f cd A outer s H E) pins σ H1 s1)
  (F:Fly P w (cxOf (CXR P w) P w K mg base N qual scope f cd A outer s H E).stack H1 H' s1 s3 a t cls od B) (hC:s.heap.get? C=none) (hCf:H' C=none)
  (st:(W.hideAll B [C]).StaysIn h5) (ff:h5.FunFrames (W.hideAll B [C]) (cxOf (CXR P w) P w K mg base N qual scope f cd A outer s H E).stack) (tr:TrD h5 (W.hideAll B [C]) a cls (.ref t) od fl)
  (slt:∀b o,s3.heap.get? b=some o->b∈frs (cxOf (CXR P w) P w K mg base N qual scope f cd A outer s H E).stack->∃sl,h5.get? b=some { o with slots:=sl }) (hE:E cls od H') :
  (cxOf (CXR P w) P w K mg base N qual scope f cd A outer s H E).xe (.ref a) { s3 with heap:=h5 }:=by
 have fr:=I.ok.frames
 have nB:(W.hideAll B [C]).get? a=none:=by
  cases q:(W.hideAll B [C]).get? a with
  |none=>rfl
  |some o=>have z:=W.of_hideAll _ q;rw[F.fly.1.2]at z;cases z
 refine uX (s:={ s3 with heap:=h5 }) fr rfl ⟨st,nB⟩ ff tr fun h2 x1 x2=>?_
 have inB:∀b o,b≠C->B.get? b=some o->(W.hideAll B [C]).get? b=some o:=fun b o n e=>W.hideAll_get _ e fun z=>n (Yp.mp z)
 have neC:∀b o,s.heap.get? b=some o->b≠C:=fun b o e z=>by rw[z,hC]at e;cases e
 have old:∀b o,s.heap.get? b=some o->H b=none->b∉frs outer->(W.hideAll B [C]).get? b=some o:=fun b o e n nf=>
  inB b o (neC b o e) (F.old b o (I.base.keep b o e n nf (fun z=>by cases z)) (I.base.free b o e n (fun z=>by cases z)) (dR I e nf))
 have hst:∀b,b∈frs outer->b∈frs (cxOf (CXR P w) P w K mg base N qual scope f cd A outer s H E).stack:=fun b hb=>by
  obtain⟨env,h,hf⟩:=YV.mp hb
  exact YV.mpr ⟨env,Yv _ h,hf⟩
 have slots:∀b o,s3.heap.get? b=some o->b∈frs outer->∃sl,h2.get? b=some { o with slots:=sl }:=fun b o e hb=>by
  obtain⟨_,o',ho',nf⟩:=Y6 F.fly.2.1 (hst b hb)
  rw[e]at ho';cases ho'
  obtain⟨sl,e1⟩:=slt b o e (hst b hb)
  obtain⟨sl2,e2⟩:=x2 b _ e1 nf
  exact⟨sl2,e2⟩
 have trk:∀b u,H' b=some u->∃o,s3.heap.get? b=some o/\(W.hideAll B [C]).get? b=some o:=fun b u z=>by
  obtain⟨o,e1,e2⟩:=F.trk b u z
  exact⟨o,e1,inB b o (fun q=>by rw[q,hCf]at z;cases z) e2⟩
 refine⟨a,t,cls,od,H',_,rfl,⟨F.os.trans I.os,F.bare,⟨?_,?_,?_,?_,?_,?_,?_⟩,HOk.fromB F.hok trk x1.1.1,F.new,x1,old,?_,?_⟩,hE⟩
 ·exact fun b o e n nf _=>x1.1.1 b o (old b o e n nf)
 ·intro b o e n hb nx
  obtain⟨sl,q1⟩:=I.base.slot b o e n hb nx
  obtain⟨sl1,q2⟩:=F.un.slot b _ q1 (I.base.free b o e n nx) (hst b hb) (fun z=>by cases z)
  obtain⟨sl2,q3⟩:=slots b _ q2 hb
  exact⟨sl2,q3⟩
 ·exact fun b o e n nx=>by
   obtain⟨o1,q1⟩:=I.base.there b o e nx
   exact F.un.free b o1 q1 (I.base.free b o e n nx) (fun z=>by cases z)
 ·intro b o e nx
  obtain⟨o1,q1⟩:=I.base.there b o e nx
  obtain⟨o2,q2⟩:=F.un.there b o1 q1 (fun z=>by cases z)
  by_cases hb:b∈frs outer
  ·obtain⟨sl',q3⟩:=slots b _ q2 hb
   exact⟨_,q3⟩
  ·obtain⟨o3,q3⟩:=F.all b o1 q1 (dR I e hb)
   exact⟨o3,x1.1.1 b o3 (inB b o3 (neC b o e) q3)⟩
 ·exact fun b xs z=>F.un.tups b xs (I.base.tups b xs z)
 ·exact fun b o u z=>F.un.frzs b o u (I.base.frzs b o u z)
 ·intro b ps z
  obtain⟨m1,z1⟩:=I.base.tbls b ps z
  obtain⟨m2,z2⟩:=F.un.tbls b _ z1
  exact⟨m1++m2,by rw[<-Array.append_assoc];exact z2⟩
 ·intro b u z
  obtain⟨o,_,e2⟩:=trk b u z
  exact⟨o,x1.1.1 b o e2,e2⟩
 ·intro b o e nf
  obtain⟨o1,q1⟩:=I.base.there b o e (fun z=>by cases z)
  obtain⟨o3,q3⟩:=F.all b o1 q1 (dR I e nf)
  exact⟨o3,inB b o3 (neC b o e) q3⟩
theorem a6D {E1:XK}{sc:Scope}{cl:List (Str×Addr)}{x:Str}{ix:List Nat}{C:Addr}{fp:List Addr}{s2:Shared}{H2:Hp}(hE:∀cls od H',E1 cls od H'->E cls od H')(at0:CompAt (cxOf (CXR P w) P w K mg base N qual scope f cd A outer s H E) C fp s2 H2) :
  Passes (CXR P w) (cxComp (cxOf (CXR P w) P w K mg base N qual scope f cd A outer s H E) sc cl x ix C fp s2 H2) E1:=by
 intro pins' σ' H1 s1 ev s3 J hq
 obtain⟨⟨pins,σ,I2,f2⟩,hfl,hCle⟩:=at0
 obtain⟨a,t,cls,od,H',B,rfl,F,q⟩:=hq
 have I:Inv (cxOf (CXR P w) P w K mg base N qual scope f cd A outer s H E) pins σ H1 s1:=I2.call' (ch:=fp) J.os J.base J.hok J.bare fun b hb=>⟨(f2 b hb).2.2.2.1,(f2 b hb).2.1,(f2 b hb).2.2.2.2.1,(f2 b hb).2.2.2.2.2⟩
 obtain⟨m,hn,_⟩:=J.loc
 have hnC:s1.heap.Ns C m:=hn
 have freeC:H1 C=none:=J.free
 have nfC:C∉frs (cxOf (CXR P w) P w K mg base N qual scope f cd A outer s H E).stack:=fun z=>by
  obtain⟨_,o,ho,_⟩:=Y6 I2.stack z
  exact absurd (Yh (Yq ho) hCle) (YX _)
 have hC0:s.heap.get? C=none:=Heap.get?_none_of_le (Y4 I2.sz hCle)
 obtain⟨oC,es,ep,eC,rC⟩:=hnC
 have BC:B.get? C=some oC:=F.old C oC eC freeC nfC
 have n3:s3.heap.Ns C m:=⟨oC,es,ep,F.fly.1.1 C oC BC,rC⟩
 have H'C:H' C=none:=F.un.free C oC eC freeC (fun z=>by cases z)
 have aC:a≠C:=fun z=>by have:=F.fly.1.2;rw[z,BC]at this;cases this
 show wpAny (model P w) _ (noteFrame (.ref a) (cxOf (CXR P w) P w K mg base N qual scope f cd A outer s H E).env) _ _ s3
 refine mZ I.ok.frames rfl F.fly fun h4 held sm=>?_
 refine⟨m,sm.ns n3,fun h' sb cenv hl=>?_⟩
 have sub:∀b o,(W.hideAll B [C]).get? b=some o->B.get? b=some o/\b≠C:=fun b o e=>⟨W.of_hideAll _ e,fun z=>by
  rw[z,W.hideAll_none [C] (Yp.mpr rfl)]at e;cases e⟩
 have st':(W.hideAll B [C]).StaysIn h':=fun b o e=>by
  obtain⟨e1,n⟩:=sub b o e
  exact(sb.2 b n).trans (held.1.1 b o e1)
 have nn:∀b,B.get? b=none->(W.hideAll B [C]).get? b=none:=fun b e=>by
  cases z:(W.hideAll B [C]).get? b with
  |none=>rfl
  |some o=>rw[(sub b o z).1]at e;cases e
 have ff':h'.FunFrames (W.hideAll B [C]) (cxOf (CXR P w) P w K mg base N qual scope f cd A outer s H E).stack:=by
  have go:∀l:List Env,(∀env∈l,env∈(cxOf (CXR P w) P w K mg base N qual scope f cd A outer s H E).stack)->h4.FunFrames B l->h'.FunFrames (W.hideAll B [C]) l:=by
   intro l
   induction l with
   |nil=>intro _ _;trivial
   | cons env r ih=>
    rintro hm ⟨z1,⟨L,o,z2,z3,z4,z5⟩,z6⟩
    refine⟨z1,⟨L,o,z2,nn L z3,(sb.2 L fun q=>nfC ?_).trans z4,z5⟩,ih (fun v hv=>hm v (Yv _ hv)) z6⟩
    rw[<-q]
    exact YV.mpr ⟨env,hm env YN,z2⟩
  exact go _ (fun _ z=>z) held.2.1
 have tr':TrD h' (W.hideAll B [C]) a cls (.ref t) od (rawInt (cxOf (CXR P w) P w K mg base N qual scope f cd A outer s H E).env.locals):=by
  obtain⟨oe,vs,T,oT,ts,⟨q1,q2,q3,q4⟩,q5,⟨q7,q8⟩,q9,q10⟩:=held.2.2
  refine⟨oe,vs,T,oT,ts,⟨(sb.2 a aC).trans q1,q2,q3,q4⟩,q5,⟨nn T q7,q8⟩,(sb.2 T fun z=>?_).trans q9,q10⟩
  rw[z,BC]at q7;cases q7
 refine a1O (s:={ s3 with heap:=h' }) ⟨st',nn a F.fly.1.2⟩ ff' tr' fun h5 fl' y1 y2 y3 y4=>?_
 have sl5:∀b o,s3.heap.get? b=some o->b∈frs (cxOf (CXR P w) P w K mg base N qual scope f cd A outer s H E).stack->∃sl,h5.get? b=some { o with slots:=sl }:=fun b o e hb=>by
  obtain⟨_,o',ho',nf⟩:=Y6 F.fly.2.1 hb
  rw[e]at ho';cases ho'
  obtain⟨sl,e1⟩:=sm b o e nf
  have e2:h'.get? b=some { o with slots:=sl }:=(sb.2 b fun z=>nfC (z▸hb)).trans e1
  obtain⟨sl2,e3⟩:=y4 b _ e2 nf
  exact⟨sl2,e3⟩
 exact a1P (s3:=s3) I F hC0 H'C y1 y2 y3 sl5 (hE _ _ _ q)
end
end L2
namespace L2
open PySem PySem.Spec PyProof.Rows
section
variable {X:Cx}
abbrev Cx.pinned (X:Cx)(pins0:List (Addr×Obj)):Cx:={ X with pn:=X.pn++pins0 }
abbrev Cx.tried (X:Cx)(pins0:List (Addr×Obj))(σ0:St)(EX:XK):Cx:=(X.pinned pins0).wish fun ev s'=>∃pins H1 s1,Inv (X.pinned pins0) pins σ0 H1 s1/\CXR X.prog X.w X.stack H1 s1 EX ev s'
theorem Inv.pinUp {pins0:List (Addr×Obj)}{σ:St}{H:Hp}{s:Shared}(I:Inv X pins0 σ H s):Inv (X.pinned pins0) [] σ H s:=
 ⟨⟨I.ok.mod,I.ok.kind,I.ok.glob,I.ok.blt,I.ok.above,I.ok.inj,I.ok.has,I.ok.cab,I.ok.hd,I.ok.frames,I.ok.stk,I.ok.exf,I.ok.bs,I.ok.bsz,I.ok.noex,I.ok.exfs,I.ok.funs,I.ok.frf⟩,I.os,I.bare,I.base,I.loc,I.cell,I.free,I.freeC,
  fun p hp=>I.pin p (by simpa using hp),I.hok,I.len⟩
theorem Inv.pinDown {pins0 pins:List (Addr×Obj)}{σ:St}{H:Hp}{s:Shared}(I:Inv (X.pinned pins0) pins σ H s):Inv X pins0 σ H s:=
 ⟨⟨I.ok.mod,I.ok.kind,I.ok.glob,I.ok.blt,I.ok.above,I.ok.inj,I.ok.has,I.ok.cab,I.ok.hd,I.ok.frames,I.ok.stk,I.ok.exf,I.ok.bs,I.ok.bsz,I.ok.noex,I.ok.exfs,I.ok.funs,I.ok.frf⟩,I.os,I.bare,I.base,I.loc,I.cell,I.free,I.freeC,
  fun p hp=>I.pin p (X5 _ hp),I.hok,I.len⟩
abbrev TH:=Ends->St->Value->Option Addr->Hp->Prop
def PH (X:Cx)(hs:List ExceptHandler)(th:TH):Prop:=∀(pins:List (Addr×Obj))(σ:St)(H':Hp)(s5:Shared)(a t:Addr)(cls:Value)(od:Option Addr)(B:Heap)(D:Ends),
 (∀h6,FlyD B X.stack a cls (.ref t) od h6->s5.heap.UpToSlots h6->Inv X pins σ (upd H' a (excO cls a od)) { s5 with heap:=h6 })->FlyD B X.stack a cls (.ref t) od s5.heap->H' a=none->th D σ cls od H'->
 wpAny (model X.prog X.w) X.A (handleBy (.ref a) X.env hs) (SP X pins D) X.xe s5
variable {np hpos pos:Pos}{y n:Str}{C:Addr}{i:Nat}{b₀:Stmt}{suite:List Stmt}{ts:TS}{hs:List ExceptHandler}{th:TH}
def hNo (K:W.Frag)(C:Addr)(ts:TS)(th:TH):TH:=fun D σ cls od H'=>(W.exmOne K cls (.ref C)=some true/\∀a,H' a=none->ts D σ (upd H' a (excO cls a od)))\/(W.exmOne K cls (.ref C)=some false/\th D σ cls od H')
def hNil:TH:=fun _ _ _ _ _=>False
theorem a3Y:PH X [] hNil:=fun _ _ _ _ _ _ _ _ _ _ _ _ _ z=>z.elim
theorem a6C (hg:Gl X y)(hm:X.mg y=some (.ref C))(hs':∀ev,PSs (X.marked ev) (b₀::suite) ts)(hr:PH X hs th)
  (hd:(y == ("__debug__":Str))=false:=by decide):PH X (.ExceptHandler (some (.Name y np)) none (b₀::suite) hpos::hs) (hNo X.K C ts th):=by
 intro pins σ H' s5 a t cls od B D land fl5 new q
 have J5:=land _ fl5 (Heap.UpToSlots.refl _)
 obtain⟨oe,_,he,hc,_⟩:=fl5.obj
 have LT:∀M,W.Looks M s5.heap (typeOf (.ref a)) cls:=fun M=>hc▸(W.Looks.ld he).andThen .now
 refine wpAny_handleBy_cons (codeAny_handlers_test (dZ (X:=X.marked (.ref a)) (J5.marked _) hg hm ?_ hd)) (by intro z;cases z)
 rcases q with ⟨hexm,q⟩ | ⟨hexm,q⟩
 ·refine W.exm_one (K:=X.K) J5.kIn (LT _) hexm _ _ _ _ (fun _ _ z=>z) ?_
  refine codeAny_handlers_suite ?_
  refine qQ fl5 fun h6 fl6 sm6=>?_
  have J6:=land _ fl6 sm6
  refine Y8 (hs' (.ref a) pins _ σ _ D (J6.marked _) (q a new)) (fun f s8 hf=>?_) (fun _ _ z=>False.elim z)
  cases f with
  |next=>obtain⟨σ',H8,J8,q8⟩:=hf;exact⟨σ',H8,J8.unmarked J5.ok,q8⟩
  |brk=>obtain⟨σ',H8,J8,q8⟩:=hf;exact⟨σ',H8,J8.unmarked J5.ok,q8⟩
  |cont=>obtain⟨σ',H8,J8,q8⟩:=hf;exact⟨σ',H8,J8.unmarked J5.ok,q8⟩
  |ret u=>obtain⟨v,σ',H8,J8,r8,q8⟩:=hf;exact⟨v,σ',H8,J8.unmarked J5.ok,r8,q8⟩
 ·refine W.exm_one (K:=X.K) J5.kIn (LT _) hexm _ _ _ _ (fun _ _ z=>z) ?_
  exact hr pins σ H' s5 a t cls od B D land fl5 new q
def tTryH (tb:St->XK->TS)(th:TH):TS:=fun D σ H=>tb σ (fun cls od H1=>th D σ cls od H1) D σ H
theorem a1G {body:List Stmt}{h₀:ExceptHandler}{tb:St->XK->TS}(hb:∀pins0 σ0 EX,PSs (X.tried pins0 σ0 EX) body (tb σ0 EX))(hh:PH X (h₀::hs) th)(hstk:X.stack=X.env::X.outer)(hfr:X.env.frame=some X.env.locals) :
  PS X (.Try body (h₀::hs) [] [] pos) (tTryH tb th):=by
 intro pins s σ H D I hw
 refine wpAny_Try_except ?_
 refine Y8 (hb pins σ _ [] s σ H D (I.pinUp.wish _) hw) (fun f s1 hf=>?_) (fun ev s2 hq=>?_)
 ·cases f with
  |next=>obtain⟨σ',H8,J8,q8⟩:=hf;exact Jf ⟨σ',H8,J8.unwish.pinDown,q8⟩
  |brk=>obtain⟨σ',H8,J8,q8⟩:=hf;exact⟨σ',H8,J8.unwish.pinDown,q8⟩
  |cont=>obtain⟨σ',H8,J8,q8⟩:=hf;exact⟨σ',H8,J8.unwish.pinDown,q8⟩
  |ret u=>obtain⟨v,σ',H8,J8,r8,q8⟩:=hf;exact⟨v,σ',H8,J8.unwish.pinDown,r8,q8⟩
 ·obtain⟨pins1,H1,s1,I1,a,t,cls,od,H',B,rfl,F,q⟩:=hq
  have I1':=I1.pinDown
  have fr:X.A.frames=some (X.env::X.outer):=by rw[I1'.ok.frames,hstk]
  refine mZ fr hfr (hstk▸F.fly) fun h4 held4 sm4=>?_
  refine sV held4 fun h5 fl5 sm5=>?_
  have fl5':FlyD B X.stack a cls (.ref t) od h5:=hstk▸fl5
  exact hh pins σ H' _ a t cls od B D (fun h6 fl6 sm6=>land (s':=s2) I1' F fl6 ((sm4.trans sm5).trans sm6)) fl5' F.new q
end
end L2
namespace L2
open PySem PySem.Spec PyProof.Rows
section
variable {X:Cx}{o e value:Expr}{es:List Expr}{to ta tv:TE}{t:TA}{apos cpos pos pos':Pos}{C:Addr}{f m:Str}
def dFld (C:Addr)(ta:TE)(f:Str):TE:=fun σ H Q=>ta σ H fun x H1=>vR x fun a=>∃dx fs v,H1 a=some (.ins C dx fs)/\fs.lookup f=some v/\Q v H1
theorem aO (c:Cls X.K C)(n:NoAttr X.K C f)(he:PE X e ta)(hb:attributeBase e f X.env (eval e X.env)=eval e X.env:=by rfl):PE X (.Attribute e f pos) (dFld C ta f):=
 (xO (bR he) hb).imp fun σ H Q h=>⟨_,h,fun x H1 q=>by
  obtain⟨a,rfl,dx,fs,v,h1,h2,h3⟩:=vR.ex q
  exact⟨a,C,dx,fs,v,rfl,h1,c,n,h2,h3⟩⟩
def dSet (C:Addr)(ta tv:TE)(f:Str):TS:=fun D σ H=>tv σ H fun y H1=>ta σ H1 fun x H2=>vR x fun a=>∃dx fs,H2 a=some (.ins C dx fs)/\fs.length<1000/\D.nx σ (upd H2 a (.ins C dx (putF f y fs)))
theorem bJ (c:Cls X.K C)(n:NoAttr X.K C f)(ha:PE X o ta)(hv:PE X value tv)(hs:swapsWith value (some (.Attribute o f pos')) pos.line X.env=pure false:=by rfl) :
  PS X (.Assign [.Attribute o f pos'] value pos) (dSet C ta tv f):=
 (xH (bR ha) (bR hv) hs).imp fun D σ H h=>⟨_,h,fun y H1 q=>⟨_,q,fun x H2 q2=>by
  obtain⟨a,rfl,dx,fs,h1,h2,h3⟩:=vR.ex q2
  exact⟨a,C,dx,fs,rfl,h1,c,n,h2,h3⟩⟩⟩
variable {CX:CXT}{k:Nat}{fa:Addr}{fd:FuncData}{ps:List Str}{sp:Sp}{dvs:List V}{ds:List Value}{E:XK}
def dMeth (C:Addr)(m:Str)(sp:Sp)(dvs:List V)(E:XK)(ta:TE)(t:TA):TE:=fun σ H Q=>ta σ H fun x H1=>vR x fun a=>(∃dx fs,H1 a=some (.ins C dx fs)/\fs.lookup m=none)/\t σ H1 fun vs H2=>sp (.ref a::(vs++dvs)) H2 Q E
theorem bH {pl:Sem Bool}(c:Cls X.K C)(hm:Meth X.K C m fa)(F:FnOk X.prog X.w X.K X.mg X.base CX k fa fd ps sp)(hr:Room k X.A)(hb:Binds X.K fd ps ds)(hd:Vals dvs ds)(hx:Passes CX X E)(he:PE X o ta)(ha:PA X (e::es) t)
  (hst:starEach (e::es) X.env=(false,eval e X.env)::starEach es X.env:=by rfl) (hpl:(backTo pos (starEach es X.env)).any (·.1)=false:=by rfl)
  (ht:eval (.Call (.Attribute o m apos) (e::es) [] pos) X.env=(do
   let ov<-eval o X.env
   standAt apos.atName
   let (f,first)<-holding [ov] (getMethod ov m pl)
   callWith pos f first (backTo pos (starEach (e::es) X.env)) (backToKw pos (keywordEach [] X.env))):=by rfl) :
  PE X (.Call (.Attribute o m apos) (e::es) [] pos) (dMeth C m sp dvs E ta t):=
 (a1N (pl:=pl) (bR he) c hm F hr hb hd hx (gD ha) hst hpl ht).imp fun σ H Q h=>⟨_,h,fun x H1 q=>by
  obtain⟨a,rfl,⟨dx,fs,h1,h2⟩,h3⟩:=vR.ex q
  exact⟨a,dx,fs,rfl,h1,h2,_,h3,fun vs H2 z=>z⟩⟩
theorem bD {pl:Sem Bool}(c:Cls X.K C)(hm:Meth X.K C m fa)(F:FnOk X.prog X.w X.K X.mg X.base CX k fa fd ps sp)(hr:Room k X.A)(hb:Binds X.K fd ps ds)(hd:Vals dvs ds)(hx:Passes CX X E)(he:PE X o ta)
  (ht:eval (.Call (.Attribute o m apos) [] [] pos) X.env=(do
   let ov<-eval o X.env
   standAt apos.atName
   let (f,first)<-holding [ov] (getMethod ov m pl)
   callWith pos f first (backTo pos (starEach [] X.env)) (backToKw pos (keywordEach [] X.env))):=by rfl) :
  PE X (.Call (.Attribute o m apos) [] [] pos) (dMeth C m sp dvs E ta tNil):=
 (xM (pl:=pl) (bR he) c hm F hr hb hd hx ht).imp fun σ H Q h=>⟨_,h,fun x H1 q=>by
  obtain⟨a,rfl,⟨dx,fs,h1,h2⟩,h3⟩:=vR.ex q
  exact⟨a,dx,fs,rfl,h1,h2,h3⟩⟩
end
end L2
namespace L2
open PySem PySem.Spec PyProof.Rows
section
variable {X:Cx}
end
inductive PrsQ (K:W.Frag)(H:Hp):List Addr->List (Int×Int)->Prop
 |nil:PrsQ K H [] []
 |cons {q:Addr} {p:Int×Int} {qs:List Addr} {ps:List (Int×Int)}:SqT K H q [.int p.1,.int p.2]->PrsQ K H qs ps->PrsQ K H (q::qs) (p::ps)
section
variable {X:Cx}
end
end L2
namespace L2
open PySem
end L2
namespace L2
open PySem
def TupK (K:W.Frag)(a:Addr)(ns:List Int):Prop:=∃(o:Obj)(its:Array Value)(n:Nat),K.lookup a=some o/\o.cls= .type "tuple"/\o.data= .seq its n/\its.size<=sizeLine/\Vals (ns.map V.int) its.toList
theorem TupK.of {K:W.Frag}{a:Addr}{od:Option Addr}{sl:Array (Option Value)}{n:Nat}{its:Array Value}{ns:List Int}(h:K.lookup a=some ⟨.type "tuple",od,.seq its n,sl⟩)(hs:its.size<=sizeLine)(hv:Vals (ns.map V.int) its.toList):TupK K a ns:=⟨_,its,n,h,rfl,rfl,hs,hv⟩
theorem TupK.sq {K:W.Frag}{a:Addr}{ns:List Int}(h:TupK K a ns)(H:Hp):SqT K H a (ns.map V.int):= .inr h
end L2
namespace L2
open PySem PySem.Spec PyProof.Rows
theorem vW (xs:List V)(a:Nat):cutV xs none (some (a:Int))=xs.take a:=by
 unfold cutV
 rw[HT.sIx_nat,HT.sIx_none,List.drop_zero,Nat.sub_zero]
 by_cases h:a<=xs.length
 ·rw[Nat.min_eq_left h]
 ·rw[Nat.min_eq_right (by omega),Yi (Yd _),Yi (by omega)]
end L2
namespace L2
open PySem PySem.Spec PyProof.Rows
end L2
namespace L2
open PySem PySem.Spec PyProof.Rows
section
variable {X:Cx}{o e:Expr}{to:TE}{t:TA}{apos cpos:Pos}
end
end L2
namespace L2
open PySem PySem.Spec PyProof.Rows
section
variable {X:Cx}{o e:Expr}{to:TE}{t:TA}{apos cpos:Pos}
end
end L2
namespace L2
open PySem PySem.Spec PyProof.Rows
theorem uZ {ns:List Int}:∀{us:List Value},Vals (ns.map V.int) us->W.kf_ints us=true:=by
 induction ns with
 |nil=>intro us r;rw[List.map_nil]at r;cases r;rfl
 | cons n ns ih=>
  intro us r
  rw[YE]at r
  cases r with
  | cons r1 r2=>
   obtain⟨t,e⟩:=r1
   subst e
   have:=ih r2
   exact this
theorem a2C {ns:List Int}{k:Int}:∀{us:List Value}{j:Nat},Vals (ns.map V.int) us->ns[j]? =some k->(∀m,m<j->ns[m]?≠some k)->W.kf_at k us=some j:=by
 induction ns with
 |nil=>intro us j r h _;simp at h
 | cons n ns ih=>
  intro us j r h hn
  rw[YE]at r
  cases r with
  | cons r1 r2=>
   obtain⟨t,e⟩:=r1
   subst e
   unfold W.kf_at
   cases j with
   | zero=>
    have:n=k:=Yt h
    subst this
    have e1:isInt n (Value.int n t)=true:=by simp[isInt]
    rw[e1];rfl
   | succ j=>
    have h0:n≠k:=fun z=>hn 0 (Nat.succ_pos _) (by rw[z];rfl)
    have e1:isInt k (Value.int n t)=false:=by simp[isInt,h0]
    rw[e1,ih r2 h fun m hm=>hn (m+1) (Nat.succ_lt_succ hm)]
    rfl
section
variable {X:Cx}{o e:Expr}{to:TE}{t:TA}{apos cpos:Pos}
def rIndex:V->List V->Hp->VK->Prop:=fun x vs H Q=>∃(l:Addr)(ns:List Int)(k:Int)(j:Nat),x= .ref l/\vs= [.int k]/\H l=some (.lst (ns.map V.int))/\j<100000/\ns[j]? =some k/\(∀m,m<j->ns[m]?≠some k)/\Q (.int (j:Nat)) H
theorem yG:MtM X "list.index" rIndex:=by
 intro pins s σ H x vs v us Q I rx rv h
 obtain⟨l,ns,k,j,rfl,rfl,hH,hz,h1,h2,q⟩:=h
 cases rx
 obtain⟨u,rfl,ru⟩:=rv.one
 obtain⟨t,rfl⟩:=ru
 obtain⟨z,its,n,r,hl,e⟩:=I.lstM hH
 have ha:=a2C r h1 h2
 have hi:=uZ r
 obtain⟨a,b,c⟩:=W.kf_at_spec ha
 refine call_meets PySem.F.slot_list_index ⟨_,e,rfl⟩ PySem.F.entry_list_index (PySem.F.args_list_index_2 _ _)
  (MeetsSeq.list_index l its.toArray n (.int k t) (isInt k) (fun y hy=>W.kf_eq hi y (by simpa using hy)) j (by simpa using a) (by omega) (by simpa using b) (fun i hi hlt=>by simpa using (c i (by simpa using hi) hlt:isInt k its[i]=false))) ⟨e,?_⟩
 exact⟨.int (j:Nat),H,I.tok _,⟨_,rfl⟩,q⟩
def dIndex (to:TE)(t:TA):TE:=fun σ H Q=>to σ H fun x H1=>vR x fun l=>(∃xs,H1 l=some (.lst xs))/\t σ H1 fun vs H2=>l1 vs fun y=>vI y fun k=>∃(ns:List Int)(j:Nat),H2 l=some (.lst (ns.map V.int))/\j<100000/\ns[j]? =some k/\(∀m,m<j->ns[m]?≠some k)/\Q (.int (j:Nat)) H2
theorem yK (ho:PE X o to)(ha:PA X [e] t)(hbase:attributeBase o "index" X.env (eval o X.env)=eval o X.env:=by rfl)
  (hfew:((backTo cpos (starEach [e] X.env)).all (fun x=>!x.1) && (backToKw cpos (keywordEach [] X.env)).all (fun x=>x.1.isSome)
   && decide (([e]:List Expr).length+([]:List Keyword).length+(if ([]:List Keyword).isEmpty then 0 else 1)<30))=true:=by rfl)
  (hline:(apos.endLine == cpos.line)=true:=by rfl) (hs:starEach [e] X.env=(false,eval e X.env)::starEach [] X.env:=by rfl) (hplain:(backTo cpos (starEach [] X.env)).any (·.1)=false:=by rfl) :
  PE X (.Call (.Attribute o "index" apos) [e] [] cpos) (dIndex to t):=
 (rW XV PySem.F.slot_list_index PySem.F.type_list_index yG (bR ho) (gD ha) hbase hfew hline hs hplain).imp fun σ H Q h=>⟨_,h,fun x H1 q=>by
  obtain⟨l,rfl,⟨xs,q1⟩,q2⟩:=vR.ex q
  refine⟨.inl ⟨rfl,xs,SqL.of q1⟩,_,q2,fun vs H2 q3=>?_⟩
  obtain⟨y,rfl,q3⟩:=l1.ex q3
  obtain⟨k,rfl,ns,j,h1,h2,h3,h4,h5⟩:=vI.ex q3
  exact⟨l,ns,k,j,rfl,rfl,h1,h2,h3,h4,h5⟩⟩
end
end L2
namespace L2
open PySem PySem.Spec PyProof.Rows PySem.MeetsSeq PySem.SeqAt
section
variable {X:Cx}{o e:Expr}{to:TE}{t:TA}{apos cpos:Pos}
end
end L2
namespace L2
open PySem PySem.Spec PyProof.Rows
set_option maxRecDepth 100000
section
variable {prog:Program}{w:World}{A:Around}{I:Addr}{fp wr:List Addr}{n:Nat}{P:Nat->Value->Prop}{St:Nat->Heap->Prop}{d:Value}
end
section
variable {prog:Program}{w:World}{A:Around}{E:Value->Shared->Prop}{s:Shared}
end
section
variable {X:Cx}
end
end L2
namespace L2
open PySem PySem.Spec PyProof.Rows
theorem nP:bootBuiltins "enumerate"=some (.type "enumerate"):=by decide +kernel
section
variable {X:Cx}{pins:List (Addr×Obj)}{σ:St}{H:Hp}{s:Shared}
theorem Inv.turnedT {h':Heap}{t':Nat}{fp:List Addr}{T:Addr}{xs:List V}(I:Inv X pins σ H s)(hf:∀b∈fp,FpOk X pins H b)(k:∀b o,b∉fp->s.heap.get? b=some o->h'.get? b=some o)(hT:s.heap.objs.size<=T)
  (new:ObjOk X.prog X.w (upd H T (.tup xs)) h' T (.tup xs)):Inv X pins σ (upd H T (.tup xs)) { s with heap:=h',toks:=t' }:=by
 have hN:H T=none:=I.hok.fresh hT
 have neT:∀b o,s.heap.get? b=some o->b≠T:=fun b o e z=>by
  have:=Yq e
  rw[z]at this
  exact absurd (Yh this hT) (YX _)
 have up:∀b u,H b=some u->upd H T (.tup xs) b=some u:=fun b u e=>by rw[aL (aQ e hN)];exact e
 have nit:∀b u,H b=some u->b∉fp:=fun b u e z=>by rw[(hf b z).1]at e;cases e
 refine I.step (g':=s.gens) (d':=s.drawn) (ch:=fp) (fun b hb=>?_) (fun b o _ _ hc e _=>k b o hc e) (fun b o _ _ hc e _=>⟨o.slots,k b o hc e⟩) (fun b o _ e n=>by rw[aL (neT b o e)];exact n)
  (fun b o hc e=>⟨o,k b o hc e⟩) (fun b _ e=>up b _ e) (fun b _ _ e=>up b _ e) (fun b ps e=>⟨#[],by rw[up b _ e];simp⟩) (fun m hm=>?_) (fun b u e=>?_) I.bare
 ·obtain⟨f0,f1,f2,f3,f4,f5⟩:=hf b hb
  exact⟨f3,f1,f4,f5⟩
 ·obtain⟨o,es,ep,ho,r⟩:=hm
  exact⟨o,es,ep,k _ o (fun z=>(hf _ z).2.1 rfl) ho,r⟩
 ·by_cases hb:b=T
  ·subst hb
   rw[aB]at e
   cases e
   exact new
  ·rw[aL hb]at e
   refine(I.hok b u e).stay (fun c v hc q=>k c v ?_ q) (fun _ q=>up _ _ q) fun _ _ q=>up _ _ q
   rcases hc with z | z
   ·rw[z];exact nit b u e
   ·exact nit c _ z
end
def Ite (K:W.Frag)(a:Addr):It:=
 ⟨fun i H=>∃xs x,SqL K H a xs/\xs[i]? =some x,fun i H v H'=>∃p x,H p=none/\v= .ref p/\(∀xs,SqL K H a xs->xs[i]? =some x)/\H'=upd H p (.tup [.int ((i:Nat):Int),x]),fun i H=>∃xs,SqL K H a xs/\xs.length<=i⟩
theorem tZ {P:Program}{w:World}{K:W.Frag}{elts:List Expr}{k':Nat}{pos:Pos}(a e it:Addr)(hei:e≠it) :
  Turn P w K (.Tuple elts k' pos) (Ite K a) [e,it] e (fun i h=>(∃old,IsEnum h e it ((i:Nat):Int) old)/\h.IsListIter it a i) where
 mem:=by simp
 obj := fun i h st b hb=>by
  obtain⟨⟨old,he⟩,o,e1,c,d⟩:=st
  simp only[YK,X1,or_false]at hb
  rcases hb with rfl | rfl
  ·exact⟨_,he,fun v z=>by
    have z':Data.fields _=Data.cell v:=z
    cases z'⟩
  ·exact⟨o,e1,fun v z=>by rw[d]at z;cases z⟩
 keep:=fun i h h' st k=>by
  obtain⟨⟨old,he⟩,hit⟩:=st
  exact⟨⟨old,k e (by simp) _ he⟩,hit.at fun o x=>k it (by simp) o x⟩
 item :=by
  intro X hP hw hK hc i pins s σ H E I hf st hg
  subst hP hw hK
  obtain⟨⟨old,he⟩,hit⟩:=st
  obtain⟨xs,x,hq,hx⟩:=hg
  obtain⟨its,rv,p,hz⟩:=I.list hq
  obtain⟨u,hu,ru⟩:=rv.get hx
  refine wpAny_pyNext_enum_item he hit p.isList (x:=u) (by simpa using hu) hei fun h1 ho hit1 hT hsz hk=>?_
  refine⟨_,rfl,wpAny_letOwnedTupleGo_enum (s:={ s with heap:=h1,toks:=s.toks+1 }) ho fun h2 he2 hs2=>?_⟩
  have hs2':Heap.SameBut e h1 h2:=hs2
  have eT:e≠s.heap.objs.size:=YO (Yq he)
  have iT:it≠s.heap.objs.size:=by obtain⟨o,e1,_⟩:=hit;exact YO (Yq e1)
  have hN:H s.heap.objs.size=none:=I.hok.fresh (Yd _)
  refine⟨.ref s.heap.objs.size,upd H s.heap.objs.size (.tup [.int ((i:Nat):Int),x]),I.turnedT hf (fun b o hb q=>?_) (Yd _) ?_,rfl,⟨_,x,hN,rfl,fun ys hy=>by rw[I.list_inj hy hq];exact hx,rfl⟩,⟨⟨u,?_⟩,?_⟩,fun b hb=>?_⟩
  ·have b1:b≠e:=fun z=>hb (by simp[z])
   have b2:b≠it:=fun z=>hb (by simp[z])
   exact(hs2'.2 b b1).trans (hk b o b1 b2 q)
  ·exact⟨(by show 2<=sizeLine;decide), [.int ((i:Nat):Int) s.toks,u],.cons ⟨_,rfl⟩ (.cons ru .nil),⟨_,(hs2'.2 _ (Ne.symm eT)).trans hT,rfl,_,rfl⟩⟩
  ·have:((i+1:Nat):Int)=((i:Nat):Int)+1:=by push_cast;rfl
   rw[this];exact he2
  ·exact hit1.at fun o y=>(hs2'.2 it (Ne.symm hei)).trans y
  ·have h1:=(hf b hb).1
   have:b≠s.heap.objs.size:=by
    simp only[YK,X1,or_false]at hb
    rcases hb with rfl | rfl
    ·exact eT
    ·exact iT
   rw[aL this];exact h1
 done:=by
  intro X hP hw hK hc i pins s σ H E I hf st hg
  subst hP hw hK
  obtain⟨⟨old,he⟩,hit⟩:=st
  obtain⟨xs,hq,hx⟩:=hg
  obtain⟨its,rv,p,hz⟩:=I.list hq
  obtain⟨f0,f1,f2,f3,f4,f5⟩:=hf it (by simp)
  have hl:=rv.length
  exact wpAny_pyNext_enum_end (I.ok.hd hc) he hit p.isList (Array.getElem?_eq_none (by simp;omega)) fun h' eb=>⟨rfl,I.turned (t':=s.toks) (fun b o hb e=>eb b o hb e) f0 f1 f3 f4 f5⟩
 self:=fun _ _ _ _ _ st h=>by
  obtain⟨⟨old,he⟩,_⟩:=st
  exact wpAny_pyIter_enum he h
section
variable {X:Cx}
def dEnum (K:W.Frag)(ta:TA):TI:=fun σ H R=>ta σ H fun vs H1=>l1 vs fun x=>vR x fun a=>(∃xs,SqL K H1 a xs)/\R (Ite K a) H1
theorem a1Z {a:Expr}{ta:TA}{p pos tpos:Pos}{elts:List Expr}{k':Nat}(hg:Gl X "enumerate")(hm:X.mg "enumerate"=none)(ha:PA X [a] ta)(hs:starEach [a] X.env= [(false,eval a X.env)]:=by rfl) :
  PI X (.Tuple elts k' tpos) (.Call (.Name "enumerate" p) [a] [] pos) (dEnum X.K ta):=by
 intro pins s σ H R I h
 refine Call_ (jX I hg hm nP (XC (thn (ha pos pins s σ H _ I h) fun us s1 hz9=>?_) hs rfl))
 obtain⟨vs,H1,I1,r1,q1⟩:=hz9
 obtain⟨x,rfl,q1⟩:=l1.ex q1
 obtain⟨l,rfl,⟨xs,hq⟩,q⟩:=vR.ex q1
 obtain⟨u,rfl,ru⟩:=vals1 r1
 cases ru
 obtain⟨its,rv,pl,hz⟩:=I1.list hq
 refine call_enumerate_list pl.isList fun h' he hit hsz hk=>?_
 refine wpAny_pyIter_enum (s:={ s1 with heap:=h' }) he ?_
 have I2:Inv X pins σ H1 { s1 with heap:=h' }:=I1.kept (t':=s1.toks) hk
 refine⟨s1.heap.objs.size+1, [s1.heap.objs.size+1,s1.heap.objs.size],_,_,H1,rfl,I2,tZ l _ _ (Nat.succ_ne_self _),⟨⟨_,he⟩,hit⟩,fun b hb=>?_,q⟩
 simp only[YK,X1,or_false]at hb
 rcases hb with rfl | rfl
 ·exact I1.fpOk (Xn _) (I1.hok.fresh (Xn _))
 ·exact I1.fpOk (Yd _) (I1.hok.fresh (Yd _))
end
def gT2 (K:W.Frag)(i j:Nat):TG:=fun v σ H Q=>vR v fun a=>∃x y,SqT K H a [x,y]/\Q ((σ.set i (some x)).set j (some y)) H
theorem mg2 {X:Cx}{tg:Expr}{i j:Nat}(h:PG X tg (gTup X.K 2 (gCons (gName i) (gCons (gName j) gNil)))):PG X tg (gT2 X.K i j):=by
 intro pins s σ H v u Q I r q
 obtain⟨a,rfl,x,y,h1,h2⟩:=vR.ex q
 exact h pins s σ H _ u Q I r ⟨a,_,rfl,h1,rfl,_,_,rfl,_,_,rfl,rfl,h2⟩
theorem zN {K:W.Frag}{a:Addr}{xs:List V}{g:TG}{tb:TS}{D:Ends}{σ:St}{H:Hp}(Pv:Nat->St->Hp->Prop)(h0:Pv 0 σ H)(hl:∀i σ H,i<=xs.length->Pv i σ H->SqL K H a xs)
  (hs:∀i x σ H p,xs[i]? =some x->Pv i σ H->H p=none->g (.ref p) σ (upd H p (.tup [.int ((i:Nat):Int),x])) fun σ2 H2=>tb { D with nx:=Pv (i+1),ct:=Pv (i+1),bk:=D.nx } σ2 H2) (hd:∀σ H,Pv xs.length σ H->D.nx σ H) :
  ∃ W:Nat->Nat->St->Hp->Prop,(∃m,W 0 m σ H)/\∀i m σ H,W i m σ H->
   ((Ite K a).stop i H/\D.nx σ H)\/((Ite K a).go i H/\∃N:St->Hp->Prop,(∀σ' H',N σ' H'->∃m',m'<m/\W (i+1) m' σ' H')/\∀x H',(Ite K a).yld i H x H'->g x σ H' fun σ2 H2=>tb { D with nx:=N,ct:=N,bk:=D.nx } σ2 H2):=by
 refine⟨fun i m σ H=>m=xs.length-i/\i<=xs.length/\Pv i σ H,⟨xs.length,by simp,Xx _,h0⟩,?_⟩
 rintro i m σ H ⟨rfl,hi,p⟩
 have q:=hl i σ H hi p
 by_cases hlt:i<xs.length
 ·refine .inr ⟨⟨xs,xs[i],q,by simp[hlt]⟩,Pv (i+1),fun σ' H' p'=>⟨xs.length-(i+1),by omega,rfl,hlt,p'⟩,?_⟩
  rintro v H' ⟨t,x,ht,rfl,hx,rfl⟩
  exact hs i x σ H t (hx xs q) p ht
 ·have e:i=xs.length:=by omega
  subst e
  exact .inl ⟨⟨xs,q,Yd _⟩,hd σ H p⟩
end L2
namespace L2
open PySem PySem.Spec PyProof.Rows
structure CMeth (K:W.Frag)(C:Addr)(m:Str)(f:Addr):Prop where
 ga:W.specialIn K (.ref C) "__getattribute__"=some (some (.builtin "type.__getattribute__"))
 rd:W.readsIn K C (.type "type")=true
 at_:W.findCls K (.ref C) (.type "type") m=some (.val (.ref f))
 kp:W.keepIn K (.ref f)=true
section
variable {X:Cx}{o e value:Expr}{es:List Expr}{to ta tv:TE}{t:TA}{apos cpos pos pos':Pos}{C:Addr}{f m:Str}
variable {CX:CXT}{k:Nat}{fa:Addr}{fd:FuncData}{ps:List Str}{sp:Sp}{dvs:List V}{ds:List Value}{E:XK}
def dMethC (C:Addr)(sp:Sp)(dvs:List V)(E:XK)(ta:TE)(t:TA):TE:=fun σ H Q=>ta σ H fun x H1=>x= .ref C/\t σ H1 fun vs H2=>sp (vs++dvs) H2 Q E
theorem pG {pl:Sem Bool}(hm:CMeth X.K C m fa)(F:FnOk X.prog X.w X.K X.mg X.base CX k fa fd ps sp)(hr:Room k X.A)(hb:Binds X.K fd ps ds)(hd:Vals dvs ds)(hx:Passes CX X E)(he:PE X o ta)(ha:PA X (e::es) t)
  (hst:starEach (e::es) X.env=(false,eval e X.env)::starEach es X.env:=by rfl) (hpl:(backTo pos (starEach es X.env)).any (·.1)=false:=by rfl)
  (ht:eval (.Call (.Attribute o m apos) (e::es) [] pos) X.env=(do
   let ov<-eval o X.env
   standAt apos.atName
   let (f,first)<-holding [ov] (getMethod ov m pl)
   callWith pos f first (backTo pos (starEach (e::es) X.env)) (backToKw pos (keywordEach [] X.env))):=by rfl) :
  PE X (.Call (.Attribute o m apos) (e::es) [] pos) (dMethC C sp dvs E ta t):=by
 intro pins s σ H Q I h
 refine Xr (pl:=pl) (thn (he pins s σ H _ I h) fun u s1 hz9=>?_) ht
 obtain⟨x,H1,I1,rx,ex,q⟩:=hz9
 subst ex
 obtain rfl:u=Value.ref C:=rx
 refine W.method_cls I1.kIn hm.ga (W.cls_value I1.kIn hm.rd hm.at_ rfl ?_)
 refine X6 (first:=[]) (h₀:=X.base) I.ok.mod.kin hm.kp (thn (ha pos pins _ σ H1 _ (I1.tok _) q) fun us s2 ⟨vs,H2,I2,r,q2⟩=>⟨I2.kIn,?_⟩) hst hpl
 exact fM F hr hb hd hx I2 r q2
def dFldP (K:W.Frag)(ta:TE)(f:Str):TE:=fun σ H Q=>ta σ H fun x H1=>vR x fun a=>∃C dx fs v,H1 a=some (.ins C dx fs)/\Cls K C/\NoAttr K C f/\fs.lookup f=some v/\Q v H1
theorem cN (he:PE X e ta)(hb:attributeBase e f X.env (eval e X.env)=eval e X.env:=by rfl):PE X (.Attribute e f pos) (dFldP X.K ta f):=
 (xO (bR he) hb).imp fun σ H Q h=>⟨_,h,fun x H1 q=>by
  obtain⟨a,rfl,C,dx,fs,v,h1,c,n,h2,h3⟩:=vR.ex q
  exact⟨a,C,dx,fs,v,rfl,h1,c,n,h2,h3⟩⟩
def dSetP (K:W.Frag)(ta tv:TE)(f:Str):TS:=fun D σ H=>tv σ H fun y H1=>ta σ H1 fun x H2=>vR x fun a=>∃C dx fs,H2 a=some (.ins C dx fs)/\Cls K C/\NoAttr K C f/\fs.length<1000/\D.nx σ (upd H2 a (.ins C dx (putF f y fs)))
theorem gA (ha:PE X o ta)(hv:PE X value tv)(hs:swapsWith value (some (.Attribute o f pos')) pos.line X.env=pure false:=by rfl) :
  PS X (.Assign [.Attribute o f pos'] value pos) (dSetP X.K ta tv f):=
 (xH (bR ha) (bR hv) hs).imp fun D σ H h=>⟨_,h,fun y H1 q=>⟨_,q,fun x H2 q2=>by
  obtain⟨a,rfl,C,dx,fs,h1,c,n,h2,h3⟩:=vR.ex q2
  exact⟨a,C,dx,fs,rfl,h1,c,n,h2,h3⟩⟩⟩
def dMethP (K:W.Frag)(m:Str)(fa:Addr)(sp:Sp)(dvs:List V)(E:XK)(ta:TE)(t:TA):TE:=fun σ H Q=>ta σ H fun x H1=>vR x fun a=>(∃C dx fs,H1 a=some (.ins C dx fs)/\Cls K C/\Meth K C m fa/\fs.lookup m=none)/\t σ H1 fun vs H2=>sp (.ref a::(vs++dvs)) H2 Q E
theorem jW {pl:Sem Bool}(F:FnOk X.prog X.w X.K X.mg X.base CX k fa fd ps sp)(hr:Room k X.A)(hb:Binds X.K fd ps ds)(hd:Vals dvs ds)(hx:Passes CX X E)(he:PE X o ta)(ha:PA X (e::es) t)
  (hst:starEach (e::es) X.env=(false,eval e X.env)::starEach es X.env:=by rfl) (hpl:(backTo pos (starEach es X.env)).any (·.1)=false:=by rfl)
  (ht:eval (.Call (.Attribute o m apos) (e::es) [] pos) X.env=(do
   let ov<-eval o X.env
   standAt apos.atName
   let (f,first)<-holding [ov] (getMethod ov m pl)
   callWith pos f first (backTo pos (starEach (e::es) X.env)) (backToKw pos (keywordEach [] X.env))):=by rfl) :
  PE X (.Call (.Attribute o m apos) (e::es) [] pos) (dMethP X.K m fa sp dvs E ta t):=by
 intro pins s σ H Q I h
 refine Xr (pl:=pl) (thn (he pins s σ H _ I h) fun u s1 hz9=>?_) ht
 obtain⟨x,H1,I1,rx,q⟩:=hz9
 obtain⟨a,rfl,⟨C,dx,fs,ea,c,hm,l⟩,q⟩:=vR.ex q
 obtain rfl:u=Value.ref a:=rx
 refine cP I1 ea c hm l ?_
 refine X6 (first:=[.ref a]) (h₀:=X.base) I.ok.mod.kin hm.kp (thn (ha pos pins s1 σ H1 _ I1 q) fun us s2 ⟨vs,H2,I2,r,q2⟩=>⟨I2.kIn,?_⟩) hst hpl
 exact fM (us:= .ref a::us) (vs:= .ref a::vs) F hr hb hd hx I2 (.cons rfl r) q2
theorem uQ {pl:Sem Bool}(F:FnOk X.prog X.w X.K X.mg X.base CX k fa fd ps sp)(hr:Room k X.A)(hb:Binds X.K fd ps ds)(hd:Vals dvs ds)(hx:Passes CX X E)(he:PE X o ta)
  (ht:eval (.Call (.Attribute o m apos) [] [] pos) X.env=(do
   let ov<-eval o X.env
   standAt apos.atName
   let (f,first)<-holding [ov] (getMethod ov m pl)
   callWith pos f first (backTo pos (starEach [] X.env)) (backToKw pos (keywordEach [] X.env))):=by rfl) :
  PE X (.Call (.Attribute o m apos) [] [] pos) (dMethP X.K m fa sp dvs E ta tNil):=by
 intro pins s σ H Q I h
 refine Xr (pl:=pl) (thn (he pins s σ H _ I h) fun u s1 hz9=>?_) ht
 obtain⟨x,H1,I1,rx,q⟩:=hz9
 obtain⟨a,rfl,⟨C,dx,fs,ea,c,hm,l⟩,q⟩:=vR.ex q
 obtain rfl:u=Value.ref a:=rx
 refine cP I1 ea c hm l ?_
 exact W.callWith_K0 (first:=[.ref a]) I1.kIn hm.kp (fM (us:=[.ref a]) (vs:=[.ref a]) F hr hb hd hx I1 (.cons rfl .nil) q)
end
end L2
namespace L2
open PySem PySem.Spec PyProof.Rows
section
variable {X:Cx}{o e:Expr}{es:List Expr}{ta:TE}{t:TA}{apos pos:Pos}{C:Addr}{m:Str}
variable {k:Nat}{fa:Addr}{fd:FuncData}{ps:List Str}{sp:Sp}{dvs:List V}{ds:List Value}
def dMethT (C:Addr)(m:Str)(sp:Sp)(dvs:List V)(σ0:St)(EX:XK)(ta:TE)(t:TA):TE:=fun σ H Q=>ta σ H fun x H1=>vR x fun a=>(∃dx fs,H1 a=some (.ins C dx fs)/\fs.lookup m=none)/\t σ H1 fun vs H2=>σ=σ0/\sp (.ref a::(vs++dvs)) H2 Q EX
theorem yJ {pins0:List (Addr×Obj)}{σ0:St}{EX:XK}{pl:Sem Bool}(c:Cls X.K C)(hm:Meth X.K C m fa)(F:FnOk X.prog X.w X.K X.mg X.base (CXR X.prog X.w) k fa fd ps sp)(hr:Room k X.A)(hb:Binds X.K fd ps ds)(hd:Vals dvs ds)(he:PE (X.tried pins0 σ0 EX) o ta)(ha:PA (X.tried pins0 σ0 EX) (e::es) t)
  (hst:starEach (e::es) X.env=(false,eval e X.env)::starEach es X.env:=by rfl) (hpl:(backTo pos (starEach es X.env)).any (·.1)=false:=by rfl)
  (ht:eval (.Call (.Attribute o m apos) (e::es) [] pos) X.env=(do
   let ov<-eval o X.env
   standAt apos.atName
   let (f,first)<-holding [ov] (getMethod ov m pl)
   callWith pos f first (backTo pos (starEach (e::es) X.env)) (backToKw pos (keywordEach [] X.env))):=by rfl) :
  PE (X.tried pins0 σ0 EX) (.Call (.Attribute o m apos) (e::es) [] pos) (dMethT C m sp dvs σ0 EX ta t):=by
 intro pins s σ H Q I h
 refine Xr (pl:=pl) (thn (he pins s σ H _ I h) fun u s1 hz9=>?_) ht
 obtain⟨x,H1,I1,rx,q⟩:=hz9
 obtain⟨a,rfl,⟨dx,fs,ea,l⟩,q⟩:=vR.ex q
 obtain rfl:u=Value.ref a:=rx
 refine cP (X:=X.tried pins0 σ0 EX) I1 ea c hm l ?_
 refine X6 (first:=[.ref a]) (h₀:=X.base) I.ok.mod.kin hm.kp (thn (ha pos pins s1 σ H1 _ I1 q) fun us s2 ⟨vs,H2,I2,r,eσ,q2⟩=>⟨I2.kIn,?_⟩) hst hpl
 subst eσ
 have r2:Vals (.ref a::(vs++dvs)) (.ref a::(us++ds)):= .cons rfl (r.append hd)
 have hl:(Value.ref a::us++ds).length=ps.length:=by rw[List.cons_append,<-r2.length];exact F.len _ _ _ _ q2
 refine wpAny_call (Jg (F.run X.A X.stack s2 H2 ⟨.ref a::us, []⟩ (.ref a::(us++ds)) (.ref a::(vs++dvs)) Q EX hr I2.env0 (hb s2 (.ref a::us) I2.kIn hl) r2 q2) fun r s' hq=>?_)
 cases r with
 |error ev=>exact⟨pins,H2,s2,I2.unwish,hq⟩
 | ok fl=>
  cases fl with
  |ret u=>exact I2.after hq
  |next=>exact False.elim hq
  |brk=>exact False.elim hq
  |cont=>exact False.elim hq
end
end L2
namespace L2
open PySem PySem.Spec PyProof.Rows
section
variable {X:Cx}{tg:Expr}
def dSeq (K:W.Frag)(tl:TE):TI:=fun σ H R=>tl σ H fun x H1=>vR x fun a=>((∃xs,SqL K H1 a xs)/\R (Itl K a) H1)\/((∃xs,SqT K H1 a xs)/\R (Itt K a) H1)
theorem a4S {l:Expr}{tl:TE}(hl:PE X l tl):PI X tg l (dSeq X.K tl):=by
 intro pins s σ H R I h
 refine thn (hl pins s σ H _ I h) fun v s1 hz9=>?_
 obtain⟨x,H1,I1,r1,q1⟩:=hz9
 obtain⟨a,e,q⟩:=vR.ex q1
 subst e
 cases r1
 rcases q with ⟨⟨xs,hq⟩,q⟩ | ⟨⟨xs,hq⟩,q⟩
 ·obtain⟨its,rv,p,hz⟩:=I1.list hq
  refine wpAny_pyIter_list p.isList ?_
  refine⟨s1.heap.objs.size, [s1.heap.objs.size],_,_,H1,rfl,I1.kept (t':=s1.toks) fun b o e=>Yr _ e,lF a _,⟨_,YL _ rfl,rfl,rfl⟩,fun b hb=>?_,q⟩
  have e:b=s1.heap.objs.size:=by simpa using hb
  subst e
  exact I1.fpOk (Yd _) (I1.hok.fresh (Yd _))
 ·obtain⟨its,rv,p,hz⟩:=I1.tuple hq
  refine wpAny_pyIter_tuple (show s1.heap.IsTuple a its.toArray from p) ?_
  refine⟨s1.heap.objs.size, [s1.heap.objs.size],_,_,H1,rfl,I1.kept (t':=s1.toks) fun b o e=>Yr _ e,qG a _,⟨_,YL _ rfl,rfl,rfl⟩,fun b hb=>?_,q⟩
  have e:b=s1.heap.objs.size:=by simpa using hb
  subst e
  exact I1.fpOk (Yd _) (I1.hok.fresh (Yd _))
end
theorem a0C {K:W.Frag}{a:Addr}{xs:List V}{tt:TT}{te:TE}{σc:V->St}{H:Hp}{Q:VK}(Pv:Nat->List V->Hp->Prop)(hn:∀i ys H,i<=xs.length->Pv i ys H->ys.length<sizeLine)(h0:Pv 0 [] H)
  (hl:∀i ys H,i<=xs.length->Pv i ys H->SqT K H a xs)
  (hs:∀i x ys H,xs[i]? =some x->Pv i ys H->tt (σc x) H fun b H3=>if b=true then te (σc x) H3 fun y H4=>Pv (i+1) (ys++[y]) H4 else Pv (i+1) ys H3)
  (hd:∀ys H,Pv xs.length ys H->∀p,H p=none->Q (.ref p) (upd H p (.lst ys))):cWord (Itt K a) tt te σc H Q:=by
 refine⟨fun i m ys H=>m=xs.length-i/\i<=xs.length/\Pv i ys H,⟨xs.length,by simp,Xx _,h0⟩,?_⟩
 rintro i m ys H ⟨rfl,hi,p⟩
 have q:=hl i ys H hi p
 refine⟨hn i ys H hi p,?_⟩
 by_cases hlt:i<xs.length
 ·refine .inr ⟨⟨xs,xs[i],q,by simp[hlt]⟩,Pv (i+1),fun ys' H' q=>⟨xs.length-(i+1),by omega,rfl,hlt,q⟩,fun x H' y=>?_⟩
  obtain⟨e,y⟩:=y
  subst e
  exact hs i x ys _ (y xs q) p
 ·have e:i=xs.length:=by omega
  subst e
  exact .inl ⟨⟨xs,q,Yd _⟩,hd ys H p⟩
theorem a0D {K:W.Frag}{a:Addr}{xs:List V}{tt:TT}{te:TE}{σc:V->St}{H:Hp}{Q:VK}(h:SqA K H a xs)(Pv:Nat->List V->Prop)(hn:∀i ys,i<=xs.length->Pv i ys->ys.length<sizeLine)(h0:Pv 0 [])
  (hs:∀i x ys,xs[i]? =some x->Pv i ys->tt (σc x) H fun b H3=>if b=true then te (σc x) H3 fun y H4=>Pv (i+1) (ys++[y])/\H4=H else Pv (i+1) ys/\H3=H)
  (hd:∀ys,Pv xs.length ys->∀p,H p=none->Q (.ref p) (upd H p (.lst ys))):((∃xs,SqL K H a xs)/\cWord (Itl K a) tt te σc H Q)\/((∃xs,SqT K H a xs)/\cWord (Itt K a) tt te σc H Q):=by
 rcases h with h | h
 ·refine .inl ⟨⟨_,h⟩,cU (xs:=xs) (fun i ys H'=>Pv i ys/\H'=H) (fun i ys H' hi z=>hn i ys hi z.1) ⟨h0,rfl⟩ (fun i ys H' hi z=>by rw[z.2];exact h) ?_ ?_⟩
  ·rintro i x ys H' hx ⟨z,rfl⟩
   exact hs i x ys hx z
  ·rintro ys H' ⟨z,rfl⟩
   exact hd ys z
 ·refine .inr ⟨⟨_,h⟩,a0C (xs:=xs) (fun i ys H'=>Pv i ys/\H'=H) (fun i ys H' hi z=>hn i ys hi z.1) ⟨h0,rfl⟩ (fun i ys H' hi z=>by rw[z.2];exact h) ?_ ?_⟩
  ·rintro i x ys H' hx ⟨z,rfl⟩
   exact hs i x ys hx z
  ·rintro ys H' ⟨z,rfl⟩
   exact hd ys z
def MOk (P:Program)(w:World)(K:W.Frag)(mg:Str->Option Value)(base:Heap)(CX:CXT)(k:Nat)(C:Addr)(m:Str)(sp:Sp):Prop:=
 ∃fa fd ps,Cls K C/\Meth K C m fa/\FnOk P w K mg base CX k fa fd ps sp/\Binds K fd ps []
section
variable {X:Cx}{o e value:Expr}{es:List Expr}{to ta tv:TE}{t:TA}{apos cpos pos pos' p:Pos}{C:Addr}{f m x:Str}
variable {CX:CXT}{k:Nat}{fa:Addr}{fd:FuncData}{ps:List Str}{sp:Sp}{dvs:List V}{ds:List Value}{E:XK}{R:Addr->Sp->Prop}
def dMethD (R:Addr->Sp->Prop)(m:Str)(E:XK)(ta:TE)(t:TA):TE:=fun σ H Q=>ta σ H fun x H1=>vR x fun a=>∃C dx fs sp,H1 a=some (.ins C dx fs)/\fs.lookup m=none/\R C sp/\t σ H1 fun vs H2=>sp (.ref a::vs) H2 Q E
theorem pD {pl:Sem Bool}(hR:∀C sp,R C sp->MOk X.prog X.w X.K X.mg X.base CX k C m sp)(hr:Room k X.A)(hx:Passes CX X E)(he:PE X o ta)(ha:PA X (e::es) t)
  (hst:starEach (e::es) X.env=(false,eval e X.env)::starEach es X.env:=by rfl) (hpl:(backTo pos (starEach es X.env)).any (·.1)=false:=by rfl)
  (ht:eval (.Call (.Attribute o m apos) (e::es) [] pos) X.env=(do
   let ov<-eval o X.env
   standAt apos.atName
   let (f,first)<-holding [ov] (getMethod ov m pl)
   callWith pos f first (backTo pos (starEach (e::es) X.env)) (backToKw pos (keywordEach [] X.env))):=by rfl) :
  PE X (.Call (.Attribute o m apos) (e::es) [] pos) (dMethD R m E ta t):=by
 intro pins s σ H Q I h
 refine Xr (pl:=pl) (thn (he pins s σ H _ I h) fun u s1 hz9=>?_) ht
 obtain⟨x,H1,I1,rx,q⟩:=hz9
 obtain⟨a,rfl,C,dx,fs,sp,ea,l,hC,q⟩:=vR.ex q
 obtain⟨fa,fd,ps,c,hm,F,hb⟩:=hR C sp hC
 obtain rfl:u=Value.ref a:=rx
 refine cP I1 ea c hm l ?_
 refine X6 (first:=[.ref a]) (h₀:=X.base) I.ok.mod.kin hm.kp (thn (ha pos pins s1 σ H1 _ I1 q) fun us s2 ⟨vs,H2,I2,r,q2⟩=>⟨I2.kIn,?_⟩) hst hpl
 exact fM (dvs:=[]) (us:= .ref a::us) (vs:= .ref a::vs) F hr hb .nil hx I2 (.cons rfl r) (by rw[YJ];exact q2)
structure MkB (K:W.Frag)(C:Addr):Prop where
 makes:W.makesIn K C=true
 init:W.findIn K (.ref C) "__init__"=some (some (.builtin "object.__init__"))
 kp:W.keepIn K (.ref C)=true
def tMakeB (C:Addr):TE:=fun _ H Q=>∀x dx,H x=none->H dx=none->dx≠x->Q (.ref x) (upd (upd H dx (.own x)) x (.ins C dx []))
theorem xN (M:MkB X.K C)(hg:Gl X x)(hm:X.mg x=some (.ref C))(hdb:(x == ("__debug__":Str))=false:=by decide):PE X (.Call (.Name x p) [] [] pos) (tMakeB C):=by
 intro pins s σ H Q I h
 refine Xh (dZ I hg hm ?_ hdb)
 refine W.callWith_K0 I.kIn M.kp ?_
 have hq:=h (s.heap.objs.size+1) s.heap.objs.size (I.hok.fresh (Xn _)) (I.hok.fresh (Yd _)) (YO (Xf _))
 have I2:=Inv.made (C:=C) I
 refine wpAny_call (uT I.kIn M.makes M.init (fun self=>W.Looks.of_pure (W.oi_bind self)) ?_)
 have Y:=W.makes_of (M:=model X.prog X.w) I.kIn M.makes
 have hx:((s.heap.push W.emptyDict).push (W.instObj C s.heap.objs.size)).get? (s.heap.objs.size+1)=some (W.instObj C s.heap.objs.size):=by
  have:=YL (s.heap.push W.emptyDict) (o:=W.instObj C s.heap.objs.size) rfl
  rwa [Heap.size_push]at this
 have t1:W.Looks (model X.prog X.w) ((s.heap.push W.emptyDict).push (W.instObj C s.heap.objs.size)) (typeOf (.ref (s.heap.objs.size+1))) (.ref C):=(W.Looks.ld hx).andThen .now
 have t2:W.Looks (model X.prog X.w) ((s.heap.push W.emptyDict).push (W.instObj C s.heap.objs.size)) (isInstance (.ref (s.heap.objs.size+1)) (.type "object")) true:=t1.andThen (Y.top.keeps fun b o e=>Yr _ (Yr _ e))
 refine codeAny_call_builtin W.oi_plain W.entry_oi (@W.check_slot (model X.prog X.w) _ _ _ "object.__init__" "object" "__init__" (.ref (s.heap.objs.size+1)) [] [] _ W.oi_kind W.oi_split t2 (W.oi_args (.ref (s.heap.objs.size+1))) ?_)
 rw[W.oi_run]
 exact Y9 (And.intro rfl ⟨V.ref (s.heap.objs.size+1),_,I2,rfl,hq⟩)
end
end L2
namespace L2
open PySem PySem.Spec PyProof.Rows
section
variable {X:Cx}{o e e2:Expr}{to:TE}{t:TA}{apos cpos:Pos}
end
end L2
namespace L2
open PySem PySem.Spec PyProof.Rows
section
variable {κ:Type}[DecidableEq κ]
def valV (kvs:List (κ×V))(k:κ):Option V:=(kvs.find? fun kv=>decide (kv.1=k)).map (·.2)
def putK (kvs:List (κ×V))(k:κ)(v:V):List (κ×V):=
 if (kvs.any fun kv=>decide (kv.1=k))=true then kvs.map (fun kv=>if kv.1=k then (kv.1,v) else kv) else kvs++[(k,v)]
theorem cI {p:κ×V}{r:List (κ×V)}{k:κ}(e:p.1=k):valV (p::r) k=some p.2:=by simp[valV,XT,e]
theorem cJ {p:κ×V}{r:List (κ×V)}{k:κ}(e:¬ p.1=k):valV (p::r) k=valV r k:=by simp[valV,XT,e]
theorem fK (k:κ):∀kvs:List (κ×V),(kvs.any fun kv=>decide (kv.1=k))=(valV kvs k).isSome
 |[]=>rfl
 | p::r=>by
  rw[X4]
  by_cases e:p.1=k
  ·simp only[cI e,Yl e,Bool.true_or,Option.isSome_some]
  ·rw[cJ e,Ym e,Bool.false_or];exact fK k r
theorem oE (k j:κ)(y:V):∀kvs:List (κ×V),valV (kvs.map fun kv=>if kv.1=k then (kv.1,y) else kv) j=(valV kvs j).map fun x=>if j=k then y else x
 |[]=>rfl
 | p ::r=>by
  have ih:=oE k j y r
  rw[YE]
  by_cases h:p.1=k
  ·rw[if_pos h]
   by_cases e:p.1=j
   ·rw[cI (p:=(p.1,y)) e,cI e,Option.map_some,if_pos (e.symm.trans h)]
   ·rw[cJ (p:=(p.1,y)) e,cJ e,ih]
  ·rw[if_neg h]
   by_cases e:p.1=j
   ·rw[cI (p:=p) e,cI e,Option.map_some,if_neg (fun z=>h (e.trans z))]
   ·rw[cJ (p:=p) e,cJ e,ih]
theorem lE (k j:κ)(y:V):∀kvs:List (κ×V),valV kvs k=none->valV (kvs++[(k,y)]) j=if j=k then some y else valV kvs j
 | [],_=>by
  by_cases e:k=j
  ·rw[if_pos e.symm];exact cI (p:=(k,y)) e
  ·rw[if_neg (fun z=>e z.symm)];exact cJ (p:=(k,y)) e
 | p::r,hn=>by
  rw[List.cons_append]
  have hk:¬ p.1=k:=fun z=>by rw[cI z]at hn;cases hn
  rw[cJ hk]at hn
  have ih:=lE k j y r hn
  by_cases e:p.1=j
  ·rw[cI e,cI e,if_neg (fun z=>hk (e.trans z))]
  ·rw[cJ e,cJ e,ih]
theorem jJ (kvs:List (κ×V))(k j:κ)(y:V):valV (putK kvs k y) j=if j=k then some y else valV kvs j:=by
 unfold putK
 by_cases a:(kvs.any fun kv=>decide (kv.1=k))=true
 ·rw [if_pos a,oE]
  rw[fK]at a
  by_cases e:j=k
  ·obtain⟨x,hx⟩:=Option.isSome_iff_exists.mp a
   rw[if_pos e,e,hx,Option.map_some,if_pos rfl]
  ·rw[if_neg e]
   cases valV kvs j with
   |none=>rfl
   |some x=>rw[Option.map_some,if_neg e]
 ·rw[if_neg a]
  refine lE k j y kvs ?_
  rw[fK]at a
  cases q:valV kvs k with
  |none=>rfl
  |some x=>rw[q]at a;exact(a rfl).elim
theorem iQ (kvs:List (κ×V))(k:κ)(v:V):(putK kvs k v).length<=kvs.length+1:=by
 unfold putK
 split
 ·rw[Ya];omega
 ·rw[Yc,YW,List.length_nil];omega
theorem xF {kvs:List (κ×V)}{k:κ}(v:V)(h:valV kvs k=none):putK kvs k v=kvs++[(k,v)]:=by
 unfold putK
 rw[fK,h]
 exact if_neg (by decide)
theorem RelO.isSome_eq {o:Option V}{u:Option Value}(r:RelO o u):o.isSome=u.isSome:=by
 cases o with
 | none=>cases u with
  |none=>rfl
  |some _=>exact(show False from r).elim
 | some _=>cases u with
  |none=>exact(show False from r).elim
  |some _=>rfl
theorem RelO.getD {o:Option V}{u:Option Value}{d:V}{d':Value}(r:RelO o u)(rd:RelV d d'):RelV (o.getD d) (u.getD d'):=by
 cases o with
 | none=>cases u with
  |none=>exact rd
  |some _=>exact(show False from r).elim
 | some _=>cases u with
  |none=>exact(show False from r).elim
  |some _=>exact r
theorem KV.val {kvs:List (κ×V)}{vs:List (κ×Value)}(r:KV kvs vs)(k:κ):RelO (valV kvs k) (valueAt vs k):=by
 unfold KV at r
 induction r with
 |nil=>exact True.intro
 | @cons p q ps qs h t ih=>
  obtain⟨h1,h2⟩:=h
  by_cases e:p.1=k
  ·have e':q.1=k:=h1.symm.trans e
   have b:valueAt (q::qs) k=some q.2:=by simp[valueAt,XT,e']
   rw[cI e,b];exact h2
  ·have e':¬ q.1=k:=fun z=>e (h1.trans z)
   have b:valueAt (q::qs) k=valueAt qs k:=by simp[valueAt,XT,e']
   rw[cJ e,b];exact ih
theorem KV.any {kvs:List (κ×V)}{vs:List (κ×Value)}(r:KV kvs vs)(k:κ):(kvs.any fun kv=>decide (kv.1=k))=vs.any fun kv=>decide (kv.1=k):=by
 unfold KV at r
 induction r with
 |nil=>rfl
 |cons h t ih=>rw[X4,X4,ih,h.1]
theorem KV.repl {kvs:List (κ×V)}{vs:List (κ×Value)}(r:KV kvs vs)(k:κ){y:V}{u:Value}(ry:RelV y u) :
  KV (kvs.map fun kv=>if kv.1=k then (kv.1,y) else kv) (vs.map fun kv=>if kv.1=k then (kv.1,u) else kv):=by
 unfold KV at r ⊢
 induction r with
 |nil=>exact .nil
 | @cons p q ps qs h t ih=>
  rw[YE,YE]
  refine .cons ?_ ih
  obtain⟨h1,h2⟩:=h
  by_cases e:p.1=k
  ·rw[if_pos e,if_pos (h1.symm.trans e)];exact⟨h1,ry⟩
  ·rw[if_neg e,if_neg (fun z=>e (h1.trans z))];exact⟨h1,h2⟩
theorem KV.put {kvs:List (κ×V)}{vs:List (κ×Value)}(r:KV kvs vs)(k:κ){y:V}{u:Value}(ry:RelV y u):KV (putK kvs k y) (stored vs k u):=by
 unfold putK stored
 rw[r.any k]
 by_cases e:(vs.any fun kv=>decide (kv.1=k))=true
 ·rw[if_pos e,if_pos e];exact r.repl k ry
 ·rw[if_neg e,if_neg e];exact Paired.snoc r ⟨rfl,ry⟩
theorem KV.length {kvs:List (κ×V)}{vs:List (κ×Value)}(r:KV kvs vs):kvs.length=vs.length:=Paired.length r
end
theorem yX {P:Program}{w:World}{k:Key}{u:Value}(r:RelV (kV k) u):(mixKind P w).is k u=true:=by
 cases k with
 |inl i=>obtain⟨t,e⟩:=(show ∃t,u=Value.int i t from r);subst e;exact pC P w i t
 |inr x=>obtain⟨t,e⟩:=(show ∃t,u=Value.str x t from r);subst e;exact pB P w x t
theorem lR {P:Program}{w:World}:∀{ks:List Key}{us:List Value},Vals (ks.map kV) us->ItemsAre (mixKind P w) ks us
 |[],_,r=>by rw[List.map_nil]at r;cases r;exact .nil
 | k::ks,_,r=>by
  rw[YE]at r
  cases r with
  |cons h t=>exact .cons (yX h) (lR t)
abbrev KT (H:Hp):List (List Key×V)->List (List Key×Addr×Value)->Prop:=Paired fun p q=>p.1=q.1/\H q.2.1=some (.tup (p.1.map kV))/\RelV p.2 q.2.2
theorem KT.val {H:Hp}{kvs:List (List Key×V)}{xs:List (List Key×Addr×Value)}(r:KT H kvs xs)(k:List Key):RelO (valV kvs k) ((atKey xs k).map (·.2)):=by
 induction r with
 |nil=>exact True.intro
 | @cons p q ps qs h t ih=>
  obtain⟨h1,_,h2⟩:=h
  by_cases e:p.1=k
  ·have e':q.1=k:=h1.symm.trans e
   have b:atKey (q::qs) k=some q.2:=by simp[atKey,XT,e']
   rw[cI e,b];exact h2
  ·have e':¬ q.1=k:=fun z=>e (h1.trans z)
   have b:atKey (q::qs) k=atKey qs k:=by simp[atKey,XT,e']
   rw[cJ e,b];exact ih
theorem KT.repl {H:Hp}{kvs:List (List Key×V)}{xs:List (List Key×Addr×Value)}(r:KT H kvs xs)(k:List Key){y:V}{u:Value}(ry:RelV y u) :
  KT H (kvs.map fun kv=>if kv.1=k then (kv.1,y) else kv) (xs.map (putAt k u)):=by
 induction r with
 |nil=>exact .nil
 | @cons p q ps qs h t ih=>
  rw[YE,YE]
  refine .cons ?_ ih
  obtain⟨h1,h2,h3⟩:=h
  unfold putAt
  by_cases e:p.1=k
  ·rw[if_pos e,if_pos (h1.symm.trans e)];exact⟨h1,h2,ry⟩
  ·rw[if_neg e,if_neg (fun z=>e (h1.trans z))];exact⟨h1,h2,h3⟩
theorem KT.put {H:Hp}{kvs:List (List Key×V)}{xs:List (List Key×Addr×Value)}(r:KT H kvs xs)(k:List Key){b:Addr}{y:V}{u:Value}(hb:H b=some (.tup (k.map kV)))(ry:RelV y u) :
  KT H (putK kvs k y) (storedH xs k b u):=by
 have e:(kvs.any fun kv=>decide (kv.1=k))=(atKey xs k).isSome:=by
  rw[fK,(r.val k).isSome_eq,Option.isSome_map]
 unfold putK storedH
 rw[e]
 by_cases q:(atKey xs k).isSome=true
 ·rw[if_pos q,if_pos q];exact r.repl k ry
 ·rw[if_neg q,if_neg q];exact Paired.snoc r ⟨rfl,hb,ry⟩
theorem KT.keeps {H H':Hp}{kvs:List (List Key×V)}{xs:List (List Key×Addr×Value)}(r:KT H kvs xs)(ht:∀b ys,H b=some (.tup ys)->H' b=some (.tup ys)):KT H' kvs xs:=
 Paired.mapP r fun _ _ z=>⟨z.1,ht _ _ z.2.1,z.2.2⟩
section
variable {P:Program}{w:World}{H:Hp}{h:Heap}{a:Addr}
theorem a3A {u:HO}(ok:HOk P w H h)(e:Rd H a u):ObjOk P w H h a u:=e.ok ok
theorem zT {kvs:List (Key×V)}(ok:HOk P w H h)(e:Rd H a (.dK kvs)):kvs.length<=sizeLine/\(a == sysModules)=false/\∃vs,KV kvs vs/\h.DictOf (mixKind P w) a vs:=
 show ObjOk P w H h a (.dK kvs) from a3A ok e
theorem a6S {kvs:List (Key×V)}(ok:HOk P w H h)(e:H a=some (.dK kvs)):kvs.length<=sizeLine/\(a == sysModules)=false/\∃vs,KV kvs vs/\h.DictOf (mixKind P w) a vs:=zT ok (.inl e)
theorem qT {ks:List Key}(ok:HOk P w H h)(e:H a=some (.tup (ks.map kV))):(tupleKind (mixKind P w)).is h ks a:=by
 obtain⟨_,its,r,o,h1,h2,n,h3⟩:=(show ObjOk P w H h a (.tup (ks.map kV)) from ok a _ e)
 exact⟨o,its.toArray,n,h1,h2,h3,by simpa using lR r⟩
theorem zR {kvs:List (List Key×V)}(ok:HOk P w H h)(e:Rd H a (.dT kvs)):kvs.length<=sizeLine/\(a == sysModules)=false/\
  ∃xs,KT H kvs xs/\h.DictOfH (tupleKind (mixKind P w)) a xs:=by
 obtain⟨z,y,xs,r,o,es,ep,h1,h2,h3,h4,h5⟩:=(show ObjOk P w H h a (.dT kvs) from a3A ok e)
 refine⟨z,y,xs,r,o,es,ep,h1,h2,h3,h4,fun x hx=>?_,h5⟩
 have all:∀{l:List (List Key×V)}{m:List (List Key×Addr×Value)},KT H l m->∀x∈m,(tupleKind (mixKind P w)).is h x.1 x.2.1:=by
  intro l m q
  induction q with
  |nil=>intro x hx;exact nomatch hx
  | @cons p q ps qs hq t ih=>
   intro x hx
   rcases YK.mp hx with e | hx
   ·subst e
    exact qT ok (by rw[<-hq.1];exact hq.2.1)
   ·exact ih x hx
 exact all r x hx
theorem a6R {kvs:List (List Key×V)}(ok:HOk P w H h)(e:H a=some (.dT kvs)):kvs.length<=sizeLine/\(a == sysModules)=false/\
  ∃xs,KT H kvs xs/\h.DictOfH (tupleKind (mixKind P w)) a xs:=zR ok (.inl e)
end
def DGet (H:Hp)(a:Addr)(y:V)(r:Option V):Prop:=
 (∃kvs k,Rd H a (.dK kvs)/\y=kV k/\r=valV kvs k)\/∃kvs k b,Rd H a (.dT kvs)/\y= .ref b/\H b=some (.tup (k.map kV))/\r=valV kvs k
def DPut (H:Hp)(a:Addr)(y v:V)(H':Hp):Prop:=
 (∃kvs k,H a=some (.dK kvs)/\y=kV k/\kvs.length<sizeLine/\H'=upd H a (.dK (putK kvs k v)))\/
 ∃kvs k b,H a=some (.dT kvs)/\y= .ref b/\H b=some (.tup (k.map kV))/\kvs.length<sizeLine/\H'=upd H a (.dT (putK kvs k v))
section
variable {X:Cx}{pins:List (Addr×Obj)}{σ:St}{H:Hp}{s:Shared}{a:Addr}{y v:V}{u r:Value}{o:Option V}{A:Around}{E:Value->Shared->Prop}
theorem Inv.big (I:Inv X pins σ H s):sysModules<s.heap.objs.size:=by
 have h:mainGlobals<s.heap.objs.size:=(I.mod.glob.keeps I.bk).lt
 exact Nat.lt_trans (by decide) h
theorem tQ {h':Heap}{t':Nat}{ob:HO}(I:Inv X pins σ H s)(mu:Mut (H a))(hs:Heap.SameBut a s.heap h')(he:∃q,h'.get? a=some q)(new:ObjOk X.prog X.w (upd H a ob) h' a ob) :
  Inv X pins σ (upd H a ob) { s with heap:=h',toks:=t' }:=
 I.write (x:=a) (e:=a) mu (.inl rfl) (fun b q hb z=>(hs.2 b hb).trans z) he new
theorem a5G {P:Program}{w:World}{H':Hp}{h':Heap}{kvs:List (Key×V)}{vs:List (Key×Value)}(z:kvs.length<=sizeLine)(hd:(a == sysModules)=false)(rel:KV kvs vs)(dd:h'.DictOf (mixKind P w) a vs) :
  ObjOk P w H' h' a (.dK kvs):=⟨z,hd,vs,rel,dd⟩
theorem vU {H':Hp}{Q:Unit->Shared->Prop}(hu:A.units+1<cLine)(I:Inv X pins σ H s)(g:DPut H a y v H')(ry:RelV y u)(rv:RelV v r)(h:∀s',Inv X pins σ H' s'->Q () s') :
  wpAny (model X.prog X.w) A (setItem (.ref a) u r) Q E s:=by
 rcases g with ⟨kvs,k,e,ey,l,eH⟩ | ⟨kvs,k,b,e,ey,eb,l,eH⟩
 ·subst ey eH
  obtain⟨z,hd,vs,rel,dd⟩:=a6S I.hok e
  have hz:vs.length<=sizeLine:=by rw[<-rel.length];exact z
  have hl:(putK kvs k v).length<=sizeLine:=by have:=iQ kvs k v;omega
  refine wpAny_setItem_pairs (hsz:=hz) (yX ry) dd fun h' dd' hs=>h _ ?_
  have he:∃q,h'.get? a=some q:=let ⟨q,_,_,hq,_⟩:=dd';⟨q,hq⟩
  exact tQ I (by rw[e];exact True.intro) hs he (a5G hl hd (rel.put k rv) dd')
 ·subst ey eH
  cases (show u=Value.ref b from ry)
  obtain⟨z,hd,xs,rel,dd⟩:=a6R I.hok e
  have hz:xs.length<=sizeLine:=by rw[<-Paired.length rel];exact z
  have hl:(putK kvs k v).length<=sizeLine:=by have:=iQ kvs k v;omega
  refine wpAny_setItem_heap (hsz:=hz) (tupleKind_room_in1 hu) (qT I.hok eb) dd fun h' dd' hs=>h _ ?_
  obtain⟨q,es,ep,hq,h2,h3,h4,_,h5⟩:=dd'
  refine tQ I (by rw[e];exact True.intro) hs ⟨q,hq⟩ ⟨hl,hd,_,(rel.put k eb rv).keeps fun c ys ec=>?_,q,es,ep,hq,h2,h3,h4,h5⟩
  rw[aL (a6N ec e (fun z=>nomatch z))]
  exact ec
end
section
variable {X:Cx}{pins:List (Addr×Obj)}{σ:St}{H:Hp}{s:Shared}{a:Addr}{kvs:List (Key×V)}{k:Key}{u:Value}{A:Around}{E:Value->Shared->Prop}
end
def sDPut (td ty tv:TE):TS:=fun D σ H=>tv σ H fun v H1=>td σ H1 fun x H2=>ty σ H2 fun y H3=>∃a H4,x= .ref a/\DPut H3 a y v H4/\D.nx σ H4
section
variable {X:Cx}{o i e value:Expr}{pos pos' tpos:Pos}{td ty tv:TE}
theorem a1H (hu:X.A.units+1<cLine)(ho:PE X o td)(hi:PE X i ty)(hv:PE X value tv)(hs:swapsWith value (some (.Subscript o i pos')) pos.line X.env=pure false) :
  PS X (.Assign [.Subscript o i pos'] value pos) (sDPut td ty tv):=by
 intro pins s σ H D I h
 refine wpAny_Assign_Subscript (thn (hv pins s σ H _ I h) fun r s1 ⟨v,H1,I1,rv,q1⟩=>thn (ho pins s1 σ H1 _ I1 q1) fun u s2 ⟨x,H2,I2,rx,q2⟩=>thn (hi pins s2 σ H2 _ I2 q2) fun iv s3 ⟨y,H3,I3,ry,a,H4,ex,g,q3⟩=>?_) hs
 subst ex
 obtain rfl:u=Value.ref a:=rx
 exact vU hu I3 g ry rv fun s4 I4=>⟨σ,H4,I4,q3⟩
end
theorem zV {P:Program}{w:World}{H:Hp}(h:Heap)(hb:sysModules<h.objs.size):ObjOk P w H (h.push { cls:= .type "dict",data:= .dict #[] }) h.objs.size (.dK []):=
 ⟨Xx _,XM.mpr (Ne.symm (YO hb)), [],.nil,Heap.DictOf.new h⟩
def tDNewK:TE:=fun _ H Q=>∀p,H p=none->Q (.ref p) (upd H p (.dK []))
section
variable {X:Cx}{pos:Pos}
theorem xP:PE X (.Dict [] [] pos) tDNewK:=fun pins s σ H Q I h=>
 wpAny_Dict_empty ⟨.ref s.heap.objs.size,_,I.laid (a:=s.heap.objs.size) (o:= .dK []) (t':=s.toks) (fun _ _ q=>Yr _ q) (Yd _) (zV s.heap I.big),rfl,h _ (I.hok.fresh (Yd _))⟩
end
structure M1 (X:Cx)(o:Expr)(m:Str)(apos:Pos)(e:Expr)(cpos:Pos):Prop where
 base:attributeBase o m X.env (eval o X.env)=eval o X.env
 few:((backTo cpos (starEach [e] X.env)).all (fun x=>!x.1) && (backToKw cpos (keywordEach [] X.env)).all (fun x=>x.1.isSome)
  && decide (([e]:List Expr).length+([]:List Keyword).length+(if ([]:List Keyword).isEmpty then 0 else 1)<30))=true
 line:(apos.endLine == cpos.line)=true
 trees:backTo cpos (starEach [e] X.env)= [(false,eval e X.env)]
structure M2 (X:Cx)(o:Expr)(m:Str)(apos:Pos)(e f:Expr)(cpos:Pos):Prop where
 base:attributeBase o m X.env (eval o X.env)=eval o X.env
 few:((backTo cpos (starEach [e,f] X.env)).all (fun x=>!x.1) && (backToKw cpos (keywordEach [] X.env)).all (fun x=>x.1.isSome)
  && decide (([e,f]:List Expr).length+([]:List Keyword).length+(if ([]:List Keyword).isEmpty then 0 else 1)<30))=true
 line:(apos.endLine == cpos.line)=true
 trees:backTo cpos (starEach [e,f] X.env)= [(false,eval e X.env),(false,eval f X.env)]
def IsD (H:Hp)(a:Addr):Prop:=(∃kvs,Rd H a (.dK kvs))\/∃kvs,Rd H a (.dT kvs)
theorem a5A {X:Cx}{pins:List (Addr×Obj)}{σ:St}{H:Hp}{s:Shared}{a:Addr}(I:Inv X pins σ H s)(d:IsD H a) :
  s.TypeIs (.ref a) "dict"/\(∀b,Value.ref a= .ref b->∃ob,s.heap.get? b=some ob/\ob.dict=none)/\(a == sysModules)=false:=by
 rcases d with ⟨kvs,e⟩ | ⟨kvs,e⟩
 ·obtain⟨_,hd,vs,_,dd⟩:=zT I.hok e
  refine⟨dd.typeIs,fun b q=>?_,hd⟩
  cases q
  obtain⟨ob,_,_,h1,h2,_⟩:=dd
  exact⟨ob,h1,h2.2.1⟩
 ·obtain⟨_,hd,xs,_,dd⟩:=zR I.hok e
  refine⟨dd.typeIs,fun b q=>?_,hd⟩
  cases q
  obtain⟨ob,_,_,h1,h2,_⟩:=dd
  exact⟨ob,h1,h2.2.1⟩
section
variable {X:Cx}{pins:List (Addr×Obj)}{σ:St}{H:Hp}{s:Shared}{a:Addr}{y d:V}{u r:Value}{o:Option V}{A:Around}{E:Value->Shared->Prop}
theorem a5H {Q:Value->Shared->Prop}(hu:A.units+1<cLine)(I:Inv X pins σ H s)(g:DGet H a y o)(ry:RelV y u)(rd:RelV d r)(h:∀w' s',Inv X pins σ H s'->RelV (o.getD d) w'->Q w' s') :
  wpAny (model X.prog X.w) A (call (.builtin "dict.get") [.ref a,u,r]) Q E s:=by
 rcases g with ⟨kvs,k,e,ey,l⟩ | ⟨kvs,k,b,e,ey,eb,l⟩
 ·subst ey
  obtain⟨z,hd,vs,rel,dd⟩:=zT I.hok e
  refine call_meetsIn PySem.F.slot_dict_get dd.typeIs PySem.F.entry_dict_get (PySem.F.args_dict_get_3 _ _ _) (meets_dict_get_default (mixKind X.prog X.w) a (yX ry) hd r) ⟨_,dd.mapOf,h _ _ (I.tok _) ?_⟩
  rw[l]
  exact(rel.val k).getD rd
 ·subst ey
  cases (show u=Value.ref b from ry)
  obtain⟨z,hd,xs,rel,dd⟩:=zR I.hok e
  refine call_meetsIn PySem.F.slot_dict_get dd.typeIs PySem.F.entry_dict_get (PySem.F.args_dict_get_3 _ _ _) (meetsH_dict_get_default (tupleKind (mixKind X.prog X.w)) a b hd r) ⟨tupleKind_room_in1 hu,k,xs,qT I.hok eb,dd,h _ _ (I.tok _) ?_⟩
  rw[l]
  exact(rel.val k).getD rd
end
def tDGet2 (td ty tx:TE):TE:=fun σ H Q=>td σ H fun x H1=>∃a,x= .ref a/\IsD H1 a/\ty σ H1 fun y H2=>tx σ H2 fun z H3=>∃o,DGet H3 a y o/\Q (o.getD z) H3
section
variable {X:Cx}{o e f:Expr}{apos cpos:Pos}{td ty tx:TE}
theorem xQ (hu:X.A.units+1<cLine)(ho:PE X o td)(he:PE X e ty)(hf:PE X f tx)(m:M2 X o "get" apos e f cpos):PE X (.Call (.Attribute o "get" apos) [e,f] [] cpos) (tDGet2 td ty tx):=by
 intro pins s σ H Q I h
 refine wpAny_Call_method m.base m.few m.line PySem.F.plainAttrs_dict PySem.F.slot_dict_get PySem.F.type_dict_get (thn (ho pins s σ H _ I h) fun u s1 hz9=>?_)
 obtain⟨x,H1,I1,rx,a,ex,d,q1⟩:=hz9
 subst ex
 obtain rfl:u=Value.ref a:=rx
 obtain⟨t1,t2,_⟩:=a5A I1 d
 refine⟨t1,t2,?_⟩
 rw[m.trees]
 refine Calls.callWith_builtin rfl (Calls.evalArgs_plain (Calls.spliced_cons (thn (he pins s1 σ H1 _ I1 q1) fun iv s2 ⟨y,H2,I2,ry,q2⟩=>
  Calls.spliced_cons (thn (hf pins s2 σ H2 _ I2 q2) fun fv s3 ⟨z,H3,I3,rz,ov,g,q3⟩=>Calls.spliced_nil ?_))))
 exact a5H hu I3 g ry rz fun w' s4 I4 rw'=>⟨_,H3,I4,rw',q3⟩
end
section
variable {X:Cx}{pins:List (Addr×Obj)}{σ:St}{H:Hp}{s:Shared}{a:Addr}{kvs:List (Key×V)}{A:Around}{E:Value->Shared->Prop}
end
section
variable {X:Cx}{pins:List (Addr×Obj)}{σ:St}{H:Hp}{s:Shared}{a:Addr}{y:V}{u:Value}{A:Around}{E:Value->Shared->Prop}
end
end L2
namespace L2
open PySem PySem.Spec PyProof.Rows
section
variable {κ:Type}[DecidableEq κ]
end
end L2
namespace L2
open PySem PySem.Spec PyProof.Rows
structure ClScope (N ps ys:List Str)(sc:Scope):Prop where
 kind:sc.kind= .function
 co:sc.isCoroutine=false
 gen:sc.isGenerator=false
 nd:N.Nodup
 pre:N.take (ps.length+ys.length)=ps++ys
 par:∀x∈ps,sc.names.lookup x=some .local
 fre:∀x∈ys,sc.names.lookup x=some .free
 only:∀y∈sc.names,y.2≠ .cell/\(y.2= .free->y.1∈ys)
end L2
namespace L2
open PySem PySem.Spec PyProof.Rows
def Bm (K:W.Frag)(mg:Str->Option Value)(bm:Addr):Prop:=mg "__builtins__"=some (.ref bm)/\bm≠builtinsNs/\bm≠mainGlobals/\∃o,K.lookup bm=some o/\o.cls= .type "module"/\o.dict=some builtinsNs/\o.data= .plain
section
variable {X:Cx}{pins:List (Addr×Obj)}{σ:St}{H:Hp}{s:Shared}{A:Around}{E:Value->Shared->Prop}{c0 P bm:Addr}{nm qual:Str}{params:Arguments}{body:List Stmt}{scope:Scope}{pos:Pos}{cl:List (Str×Addr)}{Q:Value->Shared->Prop}
end
end L2
namespace L2
open PySem PySem.Spec PyProof.Rows
section
variable {X:Cx}{st:Stmt}{rest:List Stmt}{t:TS}{u:St->Hp->Prop}{Φ:Flow->Shared->Prop}
end
end L2
namespace L2
open PySem PySem.Spec PyProof.Rows
def RunsV (P:Program)(w:World)(K:W.Frag)(mg:Str->Option Value)(base:Heap)(k:Nat)(spc:Addr->List V->Hp->VK->Prop):Prop:=
 ∀(f:Addr)(A:Around)(outer:List Env)(s:Shared)(H:Hp)(us:List Value)(vs:List V)(Q:VK),Room k A->Env0 P w K mg base A outer s H->Vals vs us->spc f vs H Q->codeAny (model P w) A (.call (.ref f) ⟨us, []⟩) (CR CX0 outer P w H s Q E0) s
section
variable {X:Cx}{k i:Nat}{x:Str}{p pos:Pos}{e:Expr}{es:List Expr}{t:TA}{spc:Addr->List V->Hp->VK->Prop}{K:W.Frag}
end
end L2
namespace L2
open PySem PySem.Spec PyProof.Rows
section
variable {X:Cx}{pins:List (Addr×Obj)}{σ:St}{H:Hp}{s:Shared}{A:Around}{E:Value->Shared->Prop}{c0 P bm:Addr}{qual:Str}{params:Arguments}{body:Expr}{scope:Scope}{pos:Pos}{cl:List (Str×Addr)}{Q:Value->Shared->Prop}
end
def FnE (K:W.Frag)(H:Hp)(f:Addr):Prop:=(∃oc od fd sl,K.lookup f=some ⟨oc,od,.func fd,sl⟩)\/∃φ,H f=some (.ext φ)/\∀h,φ h->W.FnAt f h
def tCallE (K:W.Frag)(spc:Addr->List V->Hp->VK->Prop)(i:Nat)(t:TA):TE:=fun σ H Q=>∃f,σ[i]? =some (some (.ref f))/\FnE K H f/\t σ H fun vs H1=>FnE K H1 f/\spc f vs H1 Q
section
variable {X:Cx}{k i:Nat}{x:Str}{p pos:Pos}{e:Expr}{es:List Expr}{t:TA}{spc:Addr->List V->Hp->VK->Prop}{K:W.Frag}
theorem FnE.at {pins:List (Addr×Obj)}{σ:St}{H:Hp}{s:Shared}{f:Addr}(I:Inv X pins σ H s)(h:FnE X.K H f):W.FnAt f s.heap:=by
 rcases h with ⟨oc,od,fd,sl,e⟩ | ⟨φ,e,z⟩
 ·exact⟨oc,od,fd,sl,I.kIn _ _ e⟩
 ·exact z _ (I.hok _ _ e).1
theorem xT (F:RunsV X.prog X.w X.K X.mg X.base k spc)(hr:Room k X.A)(hv:PE X (.Name x p) (tVar i))(ha:PA X (e::es) t)(hK:X.K=K:=by rfl)(he:starEach (e::es) X.env=(false,eval e X.env)::starEach es X.env:=by rfl)(hpl:(backTo pos (starEach es X.env)).any (·.1)=false:=by rfl) :
  PE X (.Call (.Name x p) (e::es) [] pos) (tCallE K spc i t):=by
 subst hK
 intro pins s σ H Q I ⟨f,h1,h2,h3⟩
 refine Xh (thn (hv pins s σ H (fun v H'=>v= .ref f/\H'=H) I ⟨_,h1,rfl,rfl⟩) fun u s1 hz9=>?_)
 obtain⟨v,H1,I1,rv,e1,e2⟩:=hz9
 subst e1 e2
 obtain rfl:u=Value.ref f:=rv
 refine W.callWith_F (h2.at I1) (thn (ha pos pins s1 σ H1 _ I1 h3) fun us s2 ⟨vs,H2,I2,r,h4,h5⟩=>⟨h4.at I2,?_⟩) he hpl
 refine wpAny_call (Jg (F f X.A X.stack s2 H2 us vs Q hr I2.env0 r h5) fun r s' hq=>?_)
 cases r with
 |error e=>exact hq.elim
 | ok fl=>
  cases fl with
  |ret u=>exact I2.after hq
  |next=>exact False.elim hq
  |brk=>exact False.elim hq
  |cont=>exact False.elim hq
end
section
variable {X:Cx}
end
end L2
namespace Bm
def bitI (n j:Nat):Int:=if n.testBit j then 1 else 0
def bitsI (n m:Nat):List Int:=(List.range m).map fun i=>bitI n (m-1-i)
def numI (bs:List Int):Int:=bs.foldl (fun x b=>x*2+b) 0
def Bits (bs:List Int):Prop:=∀b∈bs,b=0\/b=1
theorem a2R (n j:Nat):bitI n j=0\/bitI n j=1:=by unfold bitI;split <;> simp
theorem fD (n m:Nat):Bits (bitsI n m):=fun b hb=>by
 obtain⟨i,_,rfl⟩:=Xg.mp hb
 exact a2R _ _
theorem bC (n m:Nat):(bitsI n m).length=m:=by unfold bitsI;rw[Ya,YU]
theorem lV {n m k:Nat}(h:k<(bitsI n m).length):(bitsI n m)[k]=bitI n (m-1-k):=by simp[bitsI]
theorem zW (n j:Nat):((n / 2 ^ j:Nat):Int)=((n / 2 ^ (j+1):Nat):Int)*2+bitI n j:=by
 have e:n / 2 ^ (j+1)=n / 2 ^ j / 2:=by rw[XW,Nat.div_div_eq_div_mul]
 unfold bitI
 rw[Y1,e]
 generalize n / 2 ^ j=q
 by_cases h:q % 2=1
 ·rw[Yl h,if_pos rfl];omega
 ·rw[Ym h,if_neg (by decide)];omega
theorem yC:numI []=0:=rfl
theorem iD (l:List Int)(b:Int):numI (l++[b])=numI l*2+b:=by
 unfold numI;rw[Xi];rfl
theorem uL (l:List Int):∀x:Int,l.foldl (fun x b=>x*2+b) x=x*2 ^ l.length+numI l:=by
 induction l with
 |nil=>intro x;simp[numI]
 | cons b r ih=>
  intro x
  unfold numI
  rw[Y0,Y0,ih,ih,YW,Int.pow_succ]
  have:(x*2+b)*2 ^ r.length=x*(2 ^ r.length*2)+b*2 ^ r.length:=by
   rw[Int.add_mul,Int.mul_assoc,Int.mul_comm 2 (2 ^ r.length)]
  rw[this]
  simp only[Int.zero_mul,Xo]
  omega
theorem lM (b:Int)(l:List Int):numI (b::l)=b*2 ^ l.length+numI l:=by
 show (b::l).foldl _ 0=_
 rw[Y0,uL];simp
theorem mX {l:List Int}(h:Bits l):0<=numI l/\numI l<2 ^ l.length:=by
 induction l with
 |nil=>exact⟨Int.le_refl _,by decide⟩
 | cons b r ih=>
  have:=ih fun z hz=>h z (Yv _ hz)
  rw[lM,YW,Int.pow_succ]
  have p:(0:Int)<2 ^ r.length:=Int.pow_pos (by decide)
  rcases h b YN with rfl | rfl
  ·omega
  ·omega
theorem xY (n m:Nat)(hn:n<2 ^ m):∀k,k<=m->numI ((bitsI n m).take k)=((n / 2 ^ (m-k):Nat):Int):=by
 intro k
 induction k with
 | zero=>
  intro _
  rw[Jd,yC,Nat.sub_zero,Nat.div_eq_of_lt hn];rfl
 | succ k ih=>
  intro hk
  have hl:k<(bitsI n m).length:=by rw[bC];omega
  rw[Yf hl,iD,ih (by omega)]
  have e1:(bitsI n m)[k]=bitI n (m-1-k):=lV hl
  rw[e1]
  have e2:m-k=(m-1-k)+1:=by omega
  have e3:m-(k+1)=m-1-k:=by omega
  rw[e2,e3,zW n (m-1-k)]
theorem xZ {n m:Nat}(hn:n<2 ^ m):numI (bitsI n m)=(n:Int):=by
 have h:=xY n m hn m (Yd _)
 rw[Yi (by rw[bC];exact Yd _),XI,Nat.pow_zero,Nat.div_one]at h
 exact h
def left (n m k:Nat):Int:=((n / 2 ^ (m-k)*2 ^ (m-k):Nat):Int)
end Bm
namespace Rn
open Bm
def Win (l:List Int)(a n:Nat):Prop:=a+n<=l.length/\∀i j,a<=i->i<a+n->a<=j->j<a+n->l.getD i 0=l.getD j 0
structure Walked (l:List Int)(k:Nat)(longest run:Nat):Prop where
 le:longest<=k
 rle:run<=k
 rpos:0<k->0<run
 hit:∃a,a+longest<=k/\Win l a longest
 most:∀a n,a+n<=k->Win l a n->n<=longest
 tail:Win l (k-run) run
 tmost:∀n,n<=k->Win l (k-n) n->n<=run
theorem tR {l:List Int}{a n i:Nat}(h:i<n)(ha:a+n<=l.length):((l.drop a).take n).getD i 0=l.getD (a+i) 0:=by
 rw[Ye,Ye,XQ h,List.getElem?_drop]
theorem a2O {l:List Int}{a n:Nat}(ha:a+n<=l.length):((l.drop a).take n).length=n:=by
 rw[Yo,Xu];omega
end Rn
namespace Cl
def xs:Nat->(Nat->Nat)->Nat
 |0,_=>0
 |n+1,f=>xs n f ^^^ f n
theorem xs_congr {n:Nat}{f g:Nat->Nat}(h:∀k,k<n->f k=g k):xs n f=xs n g:=by
 induction n with
 |zero=>rfl
 | succ n ih=>
  show xs n f ^^^ f n=xs n g ^^^ g n
  rw[ih (fun k hk=>h k (by omega)),h n (by omega)]
theorem xs_zero {n:Nat}{f:Nat->Nat}(h:∀k,k<n->f k=0):xs n f=0:=by
 induction n with
 |zero=>rfl
 | succ n ih=>
  show xs n f ^^^ f n=0
  rw[ih (fun k hk=>h k (by omega)),h n (by omega)];rfl
theorem xor4 (a b c d:Nat):(a ^^^ b) ^^^ (c ^^^ d)=(a ^^^ c) ^^^ (b ^^^ d):=by
 rw[Xa,<-Xa b c d,XJ b c,Xa c b d,<-Xa]
theorem xs_xor {n:Nat}{f g:Nat->Nat}:xs n (fun k=>f k ^^^ g k)=xs n f ^^^ xs n g:=by
 induction n with
 |zero=>exact(Xj 0).symm
 | succ n ih=>
  show xs n (fun k=>f k ^^^ g k) ^^^ (f n ^^^ g n)=(xs n f ^^^ f n) ^^^ (xs n g ^^^ g n)
  rw[ih,xor4]
theorem xs_more {n m:Nat}{f:Nat->Nat}(hnm:n<=m)(h:∀k,n<=k->k<m->f k=0):xs m f=xs n f:=by
  induction m with
  | zero => have:n=0:=by omega
            subst this;rfl
  | succ m ih=>
    by_cases e:n=m+1
    · subst e;rfl
    · show xs m f ^^^ f m=xs n f
      rw[ih (by omega) (fun k h1 h2=>h k h1 (by omega)),h m (by omega) (by omega)]
      exact Xj _
def pw (a b k:Nat):Nat:=if b.testBit k then a <<< k else 0
def cl (n a b:Nat):Nat:=xs n (pw a b)
theorem self {n:Nat}:∀{a:Nat},a<2 ^ n->a=xs n (fun j=>if a.testBit j then 1 <<< j else 0):=by
  induction n with
  | zero => intro a h;have:a=0:=by simpa using h
            subst this;rfl
  | succ n ih=>
    intro a h
    show a=xs n (fun j=>if a.testBit j then 1 <<< j else 0) ^^^ (if a.testBit n then 1 <<< n else 0)
    have hlow:a % 2 ^ n<2 ^ n:=Nat.mod_lt _ (Nat.two_pow_pos n)
    have e1:xs n (fun j=>if a.testBit j then 1 <<< j else 0)=xs n (fun j=>if (a % 2 ^ n).testBit j then 1 <<< j else 0):=by
      refine xs_congr fun k hk=>?_
      rw[Nat.testBit_mod_two_pow]
      simp[hk]
    rw[e1,<-ih hlow]
    apply Nat.eq_of_testBit_eq
    intro i
    rw[Xl,Nat.testBit_mod_two_pow]
    by_cases hi:i<n
    · have e2:(if a.testBit n=true then 1 <<< n else 0).testBit i=false:=by
        split
        · rw[Nat.testBit_shiftLeft];simp;omega
        · simp
      rw[e2];simp[hi]
    · by_cases hin:i=n
      · subst hin
        cases hb:a.testBit i with
        |true=>simp[Nat.testBit_shiftLeft]
        |false=>simp
      · have hgt:a.testBit i=false:=Y5 (Yh h (Ys (by decide) (by omega)))
        have e2:(if a.testBit n=true then 1 <<< n else 0).testBit i=false:=by
          split
          · rw[Nat.testBit_shiftLeft]
            have h1:(1:Nat).testBit (i-n)=false:=Y5 (Yh (by decide:1<2 ^ 1) (Ys (by decide) (by omega)))
            rw[h1,Bool.and_false]
          · simp
        rw[e2,hgt];simp[hi]
theorem xs_lt {n m:Nat}{f:Nat->Nat}(h:∀k,k<n->f k<2 ^ m):xs n f<2 ^ m:=by
 induction n with
 |zero=>exact Nat.two_pow_pos m
 |succ n ih=>exact Je (ih fun k hk=>h k (by omega)) (h n (by omega))
end Cl
namespace Rm
open Bm
theorem a3M {a b n:Nat}(ha:a<2 ^ (n+1))(hb:b<2 ^ (n+1))(ha':2 ^ n<=a)(hb':2 ^ n<=b):a ^^^ b<2 ^ n:=by
 apply Nat.lt_pow_two_of_testBit
 intro i hi
 rw[Xl]
 by_cases e:i=n
 ·subst e
  have h1:a.testBit i=true:=by
   rw[Y1]
   have:a / 2 ^ i=1:=by
    apply X9
    ·simpa using ha'
    ·rw[XW]at ha;omega
   rw[this];rfl
  have h2:b.testBit i=true:=by
   rw[Y1]
   have:b / 2 ^ i=1:=by
    apply X9
    ·simpa using hb'
    ·rw[XW]at hb;omega
   rw[this];rfl
  rw[h1,h2];rfl
 ·have h1:a.testBit i=false:=Y5 (Yh ha (Ys (by decide) (by omega)))
  have h2:b.testBit i=false:=Y5 (Yh hb (Ys (by decide) (by omega)))
  rw[h1,h2];rfl
def nx (r:Nat):Nat:=if 32768<=2*r then (2*r) ^^^ 64647 else 2*r
def rr:Nat->Nat
 |0=>1
 |k+1=>nx (rr k)
theorem xX {r:Nat}(h:r<32768):nx r<32768:=by
 unfold nx
 split
 ·exact a3M (n:=15) (by omega) (by decide) (by omega) (by decide)
 ·omega
theorem wU:∀k,rr k<32768
 |0=>by decide
 |k+1=>xX (wU k)
theorem mW:nx 0=0:=by decide
theorem a0O (a b:Nat):2*(a ^^^ b)=2*a ^^^ 2*b:=by
 have h:(a ^^^ b) <<< 1=a <<< 1 ^^^ b <<< 1:=Nat.shiftLeft_xor_distrib
 have e:∀z:Nat,z <<< 1=2*z:=fun z=>by rw[Xw];omega
 rw[e,e,e]at h
 exact h
theorem a2X {a:Nat}(h:a<32768):32768<=2*a↔a.testBit 14=true:=by
 rw[Y1,decide_eq_true_iff]
 show _↔a / 16384 % 2=1
 omega
theorem sI {a:Nat}(h:a<32768):nx a=2*a ^^^ (if a.testBit 14=true then 64647 else 0):=by
 unfold nx
 by_cases c:a.testBit 14=true
 ·rw[if_pos c,if_pos ((a2X h).mpr c)]
 ·rw[if_neg c,if_neg fun z=>c ((a2X h).mp z),Xj]
theorem xW {a b:Nat}(ha:a<32768)(hb:b<32768):nx (a ^^^ b)=nx a ^^^ nx b:=by
 have hab:a ^^^ b<32768:=Je (n:=15) ha hb
 rw[sI ha,sI hb,sI hab,Cl.xor4,a0O,Xl]
 cases a.testBit 14 <;> cases b.testBit 14 <;> rfl
def tm (n k:Nat):Nat:=if n.testBit k then rr k else 0
def R (n:Nat):Nat:=Cl.xs 600 (tm n)
theorem a2Y (n k:Nat):tm n k<32768:=by unfold tm;split;exact wU k;decide
theorem a7J (n:Nat):R n<32768:=Cl.xs_lt (m:=15) fun k _=>a2Y n k
theorem a6W (a b:Nat):R (a ^^^ b)=R a ^^^ R b:=by
 unfold R
 rw[<-Cl.xs_xor]
 refine Cl.xs_congr fun k _=>?_
 unfold tm
 rw[Xl]
 cases a.testBit k <;> cases b.testBit k <;> simp
theorem a5Q:R 0=0:=Cl.xs_zero fun k _=>by unfold tm;rw[Nat.zero_testBit];rfl
theorem wR:∀k,k<15->rr k=1 <<< k:=by decide
theorem nW {r:Nat}(h:r<32768):R r=r:=by
 unfold R
 have e:Cl.xs 600 (tm r)=Cl.xs 15 (tm r):=Cl.xs_more (by decide) fun k h1 _=>by
  unfold tm
  rw[Y5 (Yh h (Ys (n:=2) (i:=15) (by decide) h1))];rfl
 rw[e]
 have s:=Cl.self (n:=15) h
 conv=>rhs;rw[s]
 refine Cl.xs_congr fun k hk=>?_
 unfold tm
 rw[wR k hk]
theorem a6K {n:Nat}{f:Nat->Nat}(h:∀k,f k<32768):nx (Cl.xs n f)=Cl.xs n fun k=>nx (f k):=by
 induction n with
 |zero=>exact mW
 | succ n ih=>
  show nx (Cl.xs n f ^^^ f n)=_ ^^^ _
  rw[xW (Cl.xs_lt (m:=15) fun k _=>h k) (h n),ih]
theorem wG {n:Nat}{f:Nat->Nat}:Cl.xs (n+1) f=f 0 ^^^ Cl.xs n fun k=>f (k+1):=by
 induction n with
 |zero=>show 0 ^^^ f 0=f 0 ^^^ 0;rw[Ja,Xj]
 | succ n ih=>
  show Cl.xs (n+1) f ^^^ f (n+1)=f 0 ^^^ (Cl.xs n (fun k=>f (k+1)) ^^^ f (n+1))
  rw[ih,Xa]
theorem tb2 (n b k:Nat)(hb:b<2):(2*n+b).testBit (k+1)=n.testBit k:=by
 rw[Xk]
 congr 1;omega
theorem a6B (n b:Nat)(hb:b<2):(2*n+b).testBit 0=decide (b=1):=by
 rw[X2]
 congr 1
 have:(2*n+b) % 2=b:=by omega
 rw[this]
theorem rE {n b:Nat}(hn:n<2 ^ 599)(hb:b<2):R (2*n+b)=nx (R n) ^^^ b:=by
 unfold R
 have e:Cl.xs 600 (tm n)=Cl.xs 599 (tm n):=Cl.xs_more (by decide) fun k h1 _=>by
  unfold tm
  rw[Y5 (Yh hn (Ys (by decide) h1))];rfl
 rw[e,a6K (a2Y n),wG,XJ]
 congr 1
 ·refine Cl.xs_congr fun k _=>?_
  unfold tm
  rw[tb2 n b k hb]
  cases n.testBit k
  ·exact mW.symm
  ·rfl
 ·unfold tm
  rw[a6B n b hb]
  have:b=0\/b=1:=by omega
  rcases this with rfl | rfl <;> rfl
theorem a6X {n:Nat}(hn:n<2 ^ 599):R (2*n)=nx (R n):=by
 have:=rE hn (b:=0) (by decide)
 rwa [Jb,Xj]at this
theorem a6Y:∀p,p<=500->R (64647 <<< p)=0:=by
 intro p
 induction p with
 | zero=>
  intro _
  have e:(64647:Nat) <<< 0=2*32323+1:=by decide
  rw[e,rE (Yh (m:=2 ^ 15) (by decide) (Ys (by decide) (by decide))) (by decide),nW (by decide)]
  decide
 | succ p ih=>
  intro hp
  have e:(64647:Nat) <<< (p+1)=2*64647 <<< p:=by rw[Xw,Xw,XW];omega
  rw[e,a6X,ih (by omega)]
  ·exact mW
  ·rw[Xw]
   have:(64647:Nat)*2 ^ p<2 ^ 16*2 ^ p:=Nat.mul_lt_mul_of_pos_right (by decide) (Nat.two_pow_pos p)
   rw[<-Nat.pow_add]at this
   exact Yh this (Ys (by decide) (by omega))
theorem a5R {r p:Nat}(hp:p<=500):R (r ^^^ 64647 <<< p)=R r:=by
 rw[a6W,a6Y p hp,Xj]
def nm (bs:List Int):Nat:=(numI bs).toNat
theorem iZ {bs:List Int}(h:Bits bs):((nm bs:Nat):Int)=numI bs:=Int.toNat_of_nonneg (mX h).1
theorem oZ {bs:List Int}(h:Bits bs):nm bs<2 ^ bs.length:=by
 have h1:=(mX h).2
 have h2:=iZ h
 have:((nm bs:Nat):Int)<((2 ^ bs.length:Nat):Int):=by rw[h2];simpa using h1
 exact_mod_cast this
theorem a1Y {bs:List Int}{b:Int}(h:Bits bs)(hb:b=0\/b=1):nm (bs++[b])=2*nm bs+b.toNat:=by
 have h1:=iZ h
 have h2:Bits (bs++[b]):=fun z hz=>by
  rcases YI.mp hz with q | q
  ·exact h z q
  ·rw[Yp.mp q];exact hb
 have h3:=iZ h2
 rw[iD]at h3
 rcases hb with rfl | rfl <;> (simp only[Int.toNat_zero,Int.toNat_one];omega)
def rst (bs:List Int):Nat:=R (nm bs)
theorem qJ (bs:List Int):rst bs<32768:=a7J _
theorem rO:rst []=0:=a5Q
theorem oN {bs:List Int}{b:Int}(h:Bits bs)(hl:bs.length<=500)(hb:b=0\/b=1):rst (bs++[b])=nx (rst bs) ^^^ b.toNat:=by
 unfold rst
 rw[a1Y h hb]
 refine rE (Yh (oZ h) (Ys (by decide) (by omega))) ?_
 rcases hb with rfl | rfl <;> decide
theorem wJ {r:Nat}{b:Int}(hr:r<32768)(hb:b=0\/b=1):(if (32768:Int)<=((r:Nat):Int)*2+b then ((2*r+b.toNat) ^^^ 64647) else 2*r+b.toNat)=nx r ^^^ b.toNat:=by
 unfold nx
 rcases hb with rfl | rfl
 ·simp only[Int.toNat_zero,Jb,Xj,Int.add_zero]
  by_cases c:32768<=2*r
  ·rw[if_pos c,if_pos (by omega)]
  ·rw[if_neg c,if_neg (by omega)]
 ·have e:2*r+1=2*r ^^^ 1:=by
   have:=@Nat.two_pow_add_eq_or_of_lt 1 1 (by decide) r
   apply Nat.eq_of_testBit_eq
   intro i
   cases i with
   |zero=>rw[Xl,X2,X2];simp
   | succ i=>
    rw[Xl,tb2 r 1 i (by decide)]
    have:=tb2 r 0 i (by decide)
    rw[Jb]at this
    rw[this,Xk]
    simp
  simp only[Int.toNat_one]
  by_cases c:32768<=2*r
  ·rw[if_pos c,if_pos (by omega),e,Xa,XJ 1 64647,<-Xa]
  ·rw[if_neg c,if_neg (by omega),e]
end Rm
namespace Rm
open Bm
def tab:List Nat:=[1,2,4,8,16,32,64,128,256,512,1024,2048,4096,8192,16384,31879,1417,2834,5668,11336,22672,19879,26569,13077,26154,12499,24998,16331,32662,939,1878,3756,7512,15024,30048,5703,11406,22812,20159,25081,16245,32490,339,678,1356,2712,5424,10848,21696,21767,22153,20885,24493,17373,31549,2813,5626,11252,22504,21335,23081,18645,27949,9949,19898,26611,13153,26306,12547,25094,14475,28950,7851,15702,31404,2527,5054,10108,20216,24951,15977,31954,1315,2630,5260,10520,21040,22759,19785,26133,12461,24922,15923,31846,1099,2198,4396,8792,17584,30183,5961,11922,23844,18127,28953,7861,15722,31444,2351,4702,9404,18808,28279,8297,16594,32035,1729,3458,6916,13832,27664,9383,18766,28187,8369,16738,32323]
theorem a3O:tab=(List.range 127).map rr:=by decide +kernel
def prs:List Nat->List Nat
 |[]=>[]
 |x::r=>r.map (fun y=>x ^^^ y)++prs r
def chk:List Nat->Nat->Bool
 |[],_=>true
 |x::r,0=>chk r (1 <<< x)
 |x::r,k+1=>if (k+1).testBit x then false else chk r ((k+1) ||| 1 <<< x)
theorem a5I:∀(l:List Nat)(m:Nat),chk l m=true->l.Nodup/\∀x∈l,m.testBit x=false:=by
 intro l
 induction l with
 |nil=>intro m _;exact⟨XX,fun x hx=>nomatch hx⟩
 | cons x r ih=>
  have key:∀m,m.testBit x=false->chk r (m ||| 1 <<< x)=true->(x::r).Nodup/\∀y∈x::r,m.testBit y=false:=by
   intro m hm h
   obtain⟨h1,h2⟩:=ih _ h
   refine⟨YS.mpr ⟨fun hx=>?_,h1⟩,fun y hy=>?_⟩
   ·have:=h2 x hx
    rw[Nat.testBit_or,Nat.one_shiftLeft,Nat.testBit_two_pow,Yl rfl,Bool.or_true]at this
    cases this
   ·rcases YK.mp hy with rfl | hy
    ·exact hm
    ·have:=h2 y hy
     rw[Nat.testBit_or,Bool.or_eq_false_iff]at this
     exact this.1
  intro m h
  cases m with
  | zero=>
   refine key 0 (Nat.zero_testBit x) ?_
   rw[Nat.zero_or];exact h
  | succ k=>
   have h':(if (k+1).testBit x then false else chk r ((k+1) ||| 1 <<< x))=true:=h
   by_cases c:(k+1).testBit x=true
   ·rw[if_pos c]at h';cases h'
   ·rw[if_neg c]at h'
    exact key (k+1) (by simpa using c) h'
theorem uF:(prs tab).Nodup:=(a5I _ 0 (by decide +kernel)).1
theorem mQ:∀(l:List Nat)(i j:Nat)(hi:i<j)(hj:j<l.length),(l[i]'(by omega)) ^^^ l[j]∈prs l
 |[],_,_,_,hj=>by cases hj
 |x::r,0,j+1,_,hj=>YI.mpr (.inl (Xg.mpr ⟨_,YG (by simpa using hj),rfl⟩))
 |x::r,i+1,j+1,hi,hj=>YI.mpr (.inr (mQ r i j (by omega) (by simpa using hj)))
theorem a1I:∀(l:List Nat),(prs l).Nodup->∀(i j k m:Nat)(hi:i<j)(hj:j<l.length)(hk:k<m)(hm:m<l.length),(l[i]'(by omega)) ^^^ l[j]=(l[k]'(by omega)) ^^^ l[m]->i=k/\j=m:=by
 intro l
 induction l with
 |nil=>intro _ i j k m _ hj;cases hj
 | cons x r ih=>
  intro nd i j k m hi hj hk hm e
  obtain⟨n1,n2,n3⟩:=List.nodup_append.mp nd
  match i,j,k,m,hi,hj,hk,hm,e with
  | 0, j+1,0,m+1,_,hj,_,hm,e=>
   refine⟨rfl,?_⟩
   have hj':j<r.length:=by simpa using hj
   have hm':m<r.length:=by simpa using hm
   have e':(r.map (fun y=>x ^^^ y))[j]'(by rw[Ya];exact hj')=(r.map (fun y=>x ^^^ y))[m]'(by rw[Ya];exact hm'):=by
    rw[X3,X3];exact e
   have:=(List.getElem_inj n1).mp e'
   omega
  | 0,j+1,k+1,m+1,_,hj,hk,hm,e=>
   exact absurd e (n3 _ (Xg.mpr ⟨_,YG (by simpa using hj),rfl⟩) _ (mQ r k m (by omega) (by simpa using hm)))
  | i+1,j+1,0,m+1,hi,hj,_,hm,e=>
   exact absurd e.symm (n3 _ (Xg.mpr ⟨_,YG (by simpa using hm),rfl⟩) _ (mQ r i j (by omega) (by simpa using hj)))
  | i+1,j+1,k+1,m+1,hi,hj,hk,hm,e=>
   have:=ih n2 i j k m (by omega) (by simpa using hj) (by omega) (by simpa using hm) e
   omega
theorem mK:tab.length=127:=by decide
theorem iY {i:Nat}(h:i<127):tab[i]'(by rw[mK];exact h)=rr i:=by
 have:∀(l:List Nat)(e:l=(List.range 127).map rr)(hl:i<l.length),l[i]=rr i:=by
  intro l e hl
  subst e
  rw[X3,List.getElem_range]
 exact this tab a3O _
theorem iW {a b c d:Nat}(hab:a<b)(hb:b<127)(hcd:c<d)(hd:d<127)(e:rr a ^^^ rr b=rr c ^^^ rr d):a=c/\b=d:=by
 rw[<-iY (i:=a) (by omega),<-iY hb,<-iY (i:=c) (by omega),<-iY hd]at e
 exact a1I tab uF a b c d hab (by rw[mK];exact hb) hcd (by rw[mK];exact hd) e
theorem oF {a b c d:Nat}(hab:a≠b)(ha:a<127)(hb:b<127)(hcd:c≠d)(hc:c<127)(hd:d<127)(e:rr a ^^^ rr b=rr c ^^^ rr d):(a=c/\b=d)\/(a=d/\b=c):=by
 by_cases h1:a<b
 ·by_cases h2:c<d
  ·exact .inl (iW h1 hb h2 hd e)
  ·exact .inr (iW h1 hb (c:=d) (d:=c) (by omega) hc (by rw[e,XJ]))
 ·by_cases h2:c<d
  ·have:=iW (a:=b) (b:=a) (by omega) ha h2 hd (by rw[<-e,XJ])
   exact .inr ⟨this.2,this.1⟩
  ·have:=iW (a:=b) (b:=a) (c:=d) (d:=c) (by omega) ha (by omega) hc (by rw[XJ,e,XJ])
   exact .inl ⟨this.2,this.1⟩
def par (n:Nat):Bool:=(List.range 15).foldl (fun z k=>z ^^ n.testBit k) false
theorem xV (l:List Nat)(a b:Nat):∀x y:Bool,l.foldl (fun z k=>z ^^ (a ^^^ b).testBit k) (x ^^ y)=(l.foldl (fun z k=>z ^^ a.testBit k) x ^^ l.foldl (fun z k=>z ^^ b.testBit k) y):=by
 induction l with
 |nil=>intro x y;rfl
 | cons k r ih=>
  intro x y
  rw[Y0,Y0,Y0,<-ih]
  congr 1
  rw[Xl]
  cases x <;> cases y <;> cases a.testBit k <;> cases b.testBit k <;> rfl
theorem rY (a b:Nat):par (a ^^^ b)=(par a ^^ par b):=xV _ a b false false
theorem a4E:∀k,par (rr k)=true:=by
 intro k
 induction k with
 |zero=>decide
 | succ k ih=>
  show par (nx (rr k))=true
  have h :∀r,r<32768->par (nx r)=par r:=by
   intro r hr
   rw[sI hr]
   have e:par (2*r ^^^ if r.testBit 14=true then 64647 else 0)=par r:=by
    have e2:∀j,(2*r).testBit (j+1)=r.testBit j:=fun j=>by have:=tb2 r 0 j (by decide);rwa [Jb]at this
    have e3:(2*r).testBit 0=false:=by have:=a6B r 0 (by decide);rwa [Jb]at this
    rw[rY]
    have p1:par (2*r)=(par r ^^ r.testBit 14):=by
     unfold par
     simp only[List.range,List.range.loop,Y0,List.foldl_nil,e2,e3]
     simp only[Bool.false_xor,Bool.xor_assoc]
     cases r.testBit 14 <;> simp
    rw[p1]
    cases r.testBit 14
    ·have:par (if false=true then 64647 else 0)=false:=by decide
     rw[this];cases par r <;> rfl
    ·have:par (if true=true then 64647 else 0)=true:=by decide
     rw[this];cases par r <;> rfl
   exact e
  rw[h _ (wU k),ih]
def sm (ps:List Nat):Nat:=ps.foldl (fun t p=>t ^^^ rr p) 0
theorem a0W (ps:List Nat):∀t,ps.foldl (fun t p=>t ^^^ rr p) t=t ^^^ sm ps:=by
 induction ps with
 |nil=>intro t;exact(Xj t).symm
 | cons p r ih=>
  intro t
  unfold sm
  rw[Y0,Y0,ih,ih (0 ^^^ rr p),Ja,Xa]
theorem eQ (p:Nat)(r:List Nat):sm (p::r)=rr p ^^^ sm r:=by
 show (p::r).foldl _ 0=_
 rw[Y0,a0W,Ja]
theorem a4D (ps:List Nat):par (sm ps)=decide (ps.length % 2=1):=by
 induction ps with
 |nil=>decide
 | cons p r ih=>
  rw[eQ,rY,a4E,ih,YW]
  by_cases h:r.length % 2=1
  ·rw[Yl h,Ym (by omega)];rfl
  ·rw[Ym h,Yl (by omega)];rfl
theorem gJ {a b:Nat}(h:a ^^^ b=0):a=b:=by
 have:a ^^^ b ^^^ b=0 ^^^ b:=by rw[h]
 rwa [Xa,Nat.xor_self,Xj,Ja]at this
theorem a3W {a b:Nat}(hab:a≠b)(ha:a<127)(hb:b<127):rr a≠rr b:=by
 intro e
 obtain⟨c,hc,c1,c2⟩:∃c,c<127/\c≠a/\c≠b:=by
  by_cases h0:0≠a/\0≠b
  ·exact⟨0,by decide,h0.1,h0.2⟩
  by_cases h1:1≠a/\1≠b
  ·exact⟨1,by decide,h1.1,h1.2⟩
  exact⟨2,by decide,by omega,by omega⟩
 have:=oF (a:=a) (b:=c) (c:=b) (d:=c) (by omega) ha hc (by omega) hb hc (by rw[e])
 omega
theorem few {ps:List Nat}(nd:ps.Nodup)(hp:∀p∈ps,p<127)(h1:1<=ps.length)(h5:ps.length<=5):sm ps≠0:=by
 intro e
 have hpar:=a4D ps
 rw[e]at hpar
 have ev:¬ ps.length % 2=1:=by
  intro z
  rw[Yl z]at hpar
  exact absurd hpar (by decide)
 match ps,nd,hp,h1,h5,e,ev with
 | [a,b],nd,hp,_,_,e,_=>
  rw[eQ,eQ]at e
  simp only[YS,YK,X1,or_false,not_or,not_false_eq_true,XX,and_true]at nd
  refine a3W nd (hp a (by simp)) (hp b (by simp)) (gJ ?_)
  rw[<-e];show _=rr a ^^^ (rr b ^^^ 0);rw[Xj]
 | [a,b,c,d],nd,hp,_,_,e,_=>
  rw[eQ,eQ,eQ,eQ]at e
  simp only[YS,YK,X1,or_false,not_or,not_false_eq_true,XX,and_true]at nd
  obtain⟨⟨n1,n2,n3⟩,⟨n4,n5⟩,n6⟩:=nd
  have e2:rr a ^^^ rr b=rr c ^^^ rr d:=by
   apply gJ
   rw[<-e];show _=rr a ^^^ (rr b ^^^ (rr c ^^^ (rr d ^^^ 0)))
   rw[Xj,Xa]
  have:=oF n1 (hp a (by simp)) (hp b (by simp)) n6 (hp c (by simp)) (hp d (by simp)) e2
  omega
 |[a],_,_,_,_,_,ev=>exact ev (by simp)
 |[a,b,c],_,_,_,_,_,ev=>exact ev (by simp)
 |[a,b,c,d,f],_,_,_,_,_,ev=>exact ev (by simp)
 |a::b::c::d::f::g::r,_,_,_,h5,_,_=>simp at h5
 |[],_,_,h1,_,_,_=>simp at h1
def stp (r:Nat)(b:Int):Nat:=nx r ^^^ b.toNat
def nxn:Nat->Nat->Nat
 |0,d=>d
 |n+1,d=>nxn n (nx d)
theorem a5N {b:Int}(h:b=0\/b=1):b.toNat<32768:=by rcases h with rfl | rfl <;> decide
theorem a3P {r:Nat}{b:Int}(hr:r<32768)(hb:b=0\/b=1):stp r b<32768:=Je (n:=15) (xX hr) (a5N hb)
theorem jO {bs:List Int}(h:Bits bs)(hl:bs.length<=500):rst bs=bs.foldl stp 0:=by
 have key:∀k,k<=bs.length->rst (bs.take k)=(bs.take k).foldl stp 0:=by
  intro k
  induction k with
  |zero=>intro _;exact rO
  | succ k ih=>
   intro hk
   have ht:Bits (bs.take k):=fun b hb=>h b (Xp hb)
   rw[Yf (by omega),Xi,<-ih (by omega),oN ht (by rw[Yo];omega) (h _ (YG _))]
   rfl
 have:=key bs.length (Yd _)
 rwa [Yi (Yd _)]at this
theorem pO:∀(suf:List Int),Bits suf->∀r d,r<32768->d<32768->suf.foldl stp (r ^^^ d)=suf.foldl stp r ^^^ nxn suf.length d
 |[],_,_,_,_,_=>rfl
 | b ::s,h,r,d,hr,hd=>by
  have hb:=h b YN
  rw[Y0,Y0]
  have e:stp (r ^^^ d) b=stp r b ^^^ nx d:=by
   unfold stp
   rw[xW hr hd,Xa,XJ (nx d),<-Xa]
  rw[e,pO s (fun z hz=>h z (Yv _ hz)) _ _ (a3P hr hb) (xX hd)]
  rfl
end Rm
namespace Wm
open Bm Rn
abbrev S:=Option Int×Nat
def skp (s:S)(b:Int):S:=(some b,if s.1=some b then s.2+1 else 1)
def sk (w:List Int):S:=w.foldl skp (none,0)
def run (w:List Int):Nat:=(sk w).2
theorem fY (w:List Int)(b:Int):sk (w++[b])=skp (sk w) b:=by unfold sk;rw[Xi];rfl
theorem dC (w:List Int)(b:Int):run (w++[b])=if (sk w).1=some b then run w+1 else 1:=by unfold run;rw[fY];rfl
theorem iH (w:List Int)(b:Int):(sk (w++[b])).1=some b:=by rw[fY];rfl
theorem snoc_ind {P:List Int->Prop}(h0:P [])(hs:∀w b,P w->P (w++[b]))(w:List Int):P w:=by
 have :∀n,∀w:List Int,w.length=n->P w:=by
  intro n
  induction n with
  |zero=>intro w hw;rw[List.eq_nil_of_length_eq_zero hw];exact h0
  | succ n ih=>
   intro w hw
   have hne:w≠ []:=fun z=>by rw[z]at hw;cases hw
   rw[<-List.dropLast_concat_getLast hne]
   exact hs _ _ (ih _ (by rw[List.length_dropLast,hw];rfl))
 exact this _ w rfl
theorem wQ (w:List Int):run w<=w.length:=by
 refine snoc_ind (P:=fun w=>run w<=w.length) (Yd _) (fun w b ih=>?_) w
 rw[dC,Yc,Yu]
 split <;> omega
theorem last_eq (w:List Int)(h:0<w.length):(sk w).1=some (w.getD (w.length-1) 0):=by
 have hne:w≠ []:=fun z=>by rw[z]at h;cases h
 conv=>lhs;rw[<-List.dropLast_concat_getLast hne]
 rw[iH,Ye,Yb (by omega),List.getLast_eq_getElem];rfl
theorem a0Z (w:List Int):∀n,1<=n->n<=w.length->(n<=run w↔Win w (w.length-n) n):=by
 refine snoc_ind (P:=fun w=>∀n,1<=n->n<=w.length->(n<=run w↔Win w (w.length-n) n)) (fun n h1 h2=>absurd h2 (by simp;omega)) (fun w b ih n h1 h2=>?_) w
 rw[Yc,Yu]at h2 ⊢
 have gl:∀i,i<w.length->(w++[b]).getD i 0=w.getD i 0:=fun i hi=>by
  rw[Ye,Ye,YH hi]
 have gr:(w++[b]).getD w.length 0=b:=by
  rw[Ye,Yz (Yd _),XI];rfl
 rw[dC]
 by_cases hn:n=1
 ·subst hn
  refine iff_of_true (by split <;> omega) ⟨by rw[Yc,Yu];omega,fun i j a1 a2 a3 a4=>?_⟩
  have:i=j:=by omega
  rw[this]
 have hw:0<w.length:=by omega
 have ih':=ih (n-1) (by omega) (by omega)
 have hl:=last_eq w hw
 constructor
 ·intro h
  by_cases c:(sk w).1=some b
  ·rw [if_pos c]at h
   have hb:w.getD (w.length-1) 0=b:=by rw[hl]at c;exact Yt c
   have W:=ih'.mp (by omega)
   refine⟨by rw[Yc,Yu];omega,?_⟩
   have key:∀i,w.length+1-n<=i->i<w.length+1-n+n->(w++[b]).getD i 0=b:=fun i a1 a2=>by
    by_cases hi:i<w.length
    ·rw[gl i hi,<-hb]
     exact W.2 i (w.length-1) (by omega) (by omega) (by omega) (by omega)
    ·have:i=w.length:=by omega
     rw[this,gr]
   intro i j a1 a2 a3 a4
   rw[key i a1 a2,key j a3 a4]
  ·rw[if_neg c]at h;omega
 ·intro W
  have e1:=W.2 (w.length-1) w.length (by omega) (by omega) (by omega) (by omega)
  rw[gl _ (by omega),gr]at e1
  have c:(sk w).1=some b:=by rw[hl,e1]
  rw[if_pos c]
  have:=ih'.mpr ⟨by omega,fun i j a1 a2 a3 a4=>by
   have:=W.2 i j (by omega) (by omega) (by omega) (by omega)
   rwa [gl i (by omega),gl j (by omega)]at this⟩
  omega
theorem wH {w:List Int}{k a n:Nat}(h:a+n<=k)(hk:k<=w.length):Win (w.take k) a n↔Win w a n:=by
 have e:∀i,i<k->(w.take k).getD i 0=w.getD i 0:=fun i hi=>by
  rw[Ye,Ye,XQ hi]
 constructor
 ·intro W
  exact⟨by omega,fun i j a1 a2 a3 a4=>by rw[<-e i (by omega),<-e j (by omega)];exact W.2 i j a1 a2 a3 a4⟩
 ·intro W
  exact⟨by rw[Yo];omega,fun i j a1 a2 a3 a4=>by rw[e i (by omega),e j (by omega)];exact W.2 i j a1 a2 a3 a4⟩
def pst (w:List Int)(b:Int):List Int:=if run (w++[b])=5 then w++[b]++[1-b] else w++[b]
def put (l:List Int):List Int:=l.foldl pst []
theorem cW (l:List Int)(b:Int):put (l++[b])=pst (put l) b:=by unfold put;rw[Xi];rfl
theorem sO (b:Int):¬ (some b:Option Int)=some (1-b):=fun z=>by have:=Yt z;omega
theorem a1E {w:List Int}{b:Int}(h:run w<=4):run (pst w b)<=4:=by
 unfold pst
 by_cases c:run (w++[b])=5
 ·rw[if_pos c,dC,iH,if_neg (sO b)];omega
 ·rw[if_neg c]
  rw[dC]at c ⊢
  split at c <;> rename_i z
  ·rw[if_pos z];omega
  ·rw[if_neg z];omega
theorem gM (l:List Int):run (put l)<=4:=snoc_ind (P:=fun l=>run (put l)<=4) (by decide) (fun w b ih=>by rw[cW];exact a1E ih) l
theorem wZ {l:List Int}(h:Bits l):Bits (put l):=by
 have : ∀ k,k<=l.length->Bits (put (l.take k)):=by
  intro k
  induction k with
  |zero=>intro _ z hz;rw[Jd]at hz;cases hz
  | succ k ih=>
   intro hk
   have hb:=h _ (YG (show k<l.length by omega))
   have hi:=ih (by omega)
   rw[Yf (by omega),cW]
   intro z hz
   unfold pst at hz
   split at hz
   ·rcases YI.mp hz with q | q
    ·rcases YI.mp q with q | q
     ·exact hi z q
     ·rw[Yp.mp q];exact hb
    ·rw[Yp.mp q];omega
   ·rcases YI.mp hz with q | q
    ·exact hi z q
    ·rw[Yp.mp q];exact hb
 have:=this l.length (Yd _)
 rwa [Yi (Yd _)]at this
theorem a1F (w:List Int)(b:Int):w.length+1<=(pst w b).length/\(pst w b).length<=w.length+2:=by
 unfold pst
 split <;> simp
theorem fZ (l:List Int):l.length<=(put l).length/\(put l).length<=2*l.length:=by
 refine snoc_ind (P:=fun l=>l.length<=(put l).length/\(put l).length<=2*l.length) ⟨Yd _,Yd _⟩ (fun w b ih=>?_) l
 have:=a1F (put w) b
 rw[cW,Yc,Yu]
 omega
def kst (s:S×List Int)(b:Int):S×List Int:=(skp s.1 b,if s.1.2=5 then s.2 else s.2++[b])
def kp (w:List Int):List Int:=(w.foldl kst ((none,0), [])).2
theorem a2A (w:List Int):(w.foldl kst ((none,0), [])).1=sk w:=by
 refine snoc_ind (P:=fun w=>(w.foldl kst ((none,0), [])).1=sk w) rfl (fun w b ih=>?_) w
 rw[Xi,fY,<-ih];rfl
theorem cX (w:List Int)(b:Int):kp (w++[b])=if run w=5 then kp w else kp w++[b]:=by
 unfold kp run
 rw[Xi,<-a2A];rfl
theorem a4U:kp []= []:=rfl
def Good (w:List Int):Prop:=∀k,k<=w.length->run (w.take k)<=5
theorem Good.snoc {w:List Int}{b:Int}(h:Good w)(h5:run (w++[b])<=5):Good (w++[b]):=fun k hk=>by
 rw[Yc,Yu]at hk
 by_cases c:k<=w.length
 ·rw[YY c];exact h k c
 ·rw[Yi (by rw[Yc,Yu];omega)];exact h5
theorem oJ {w:List Int}{b:Int}:run (w++[b])<=run w+1:=by rw[dC];split <;> omega
theorem wY (l:List Int):Good (put l):=by
 refine snoc_ind (P:=fun l=>Good (put l)) (fun k hk=>?_) (fun w b ih=>?_) l
 ·have:k=0:=Nat.le_zero.mp hk
  subst this;decide
 ·rw [cW]
  have h4:=gM w
  have h1:run (put w++[b])<=5:=Y4 oJ (by omega)
  unfold pst
  split
  ·rename_i c
   refine(ih.snoc h1).snoc ?_
   rw[dC,iH,if_neg (sO b)];omega
  ·exact ih.snoc h1
theorem yU (l:List Int):kp (put l)=l:=by
 refine snoc_ind (P:=fun l=>kp (put l)=l) rfl (fun w b ih=>?_) l
 rw[cW]
 have h4:=gM w
 have e1:kp (put w++[b])=w++[b]:=by rw[cX,if_neg (by omega),ih]
 unfold pst
 split
 ·rename_i c
  rw[cX,if_pos c,e1]
 ·exact e1
theorem wW {w:List Int}(hb:Bits w)(hg:Good w):put (kp w)=if run w=5 then w++[1-w.getD (w.length-1) 0] else w:=by
 have : ∀ k,k<=w.length->put (kp (w.take k))=if run (w.take k)=5 then w.take k++[1-w.getD (k-1) 0] else w.take k:=by
  intro k
  induction k with
  |zero=>intro _;rfl
  | succ k ih=>
   intro hk
   have hlt:k<w.length:=by omega
   have hbk:=hb _ (YG hlt)
   have gk:w.getD (k+1-1) 0=w[k]:=by rw[Nat.add_sub_cancel,Ye,Yb hlt];rfl
   have ih':=ih (by omega)
   have h5:=hg (k+1) hk
   rw[Yf hlt]at h5 ⊢
   rw[cX,gk]
   by_cases c:run (w.take k)=5
   ·rw [if_pos c,ih',if_pos c]
    have hk0:0<k:=by
     have:=wQ (w.take k)
     rw[Yo]at this
     omega
    have hl:(w.take k).length=k:=by rw[Yo];omega
    have l1:=last_eq (w.take k) (by omega)
    have e2:(w.take k).getD (k-1) 0=w.getD (k-1) 0:=by
     rw[Ye,Ye,XQ (by omega)]
    rw[hl,e2]at l1
    have hne:¬ (sk (w.take k)).1=some w[k]:=fun z=>by
     rw[dC,if_pos z,c]at h5;omega
    have hlb:w.getD (k-1) 0=0\/w.getD (k-1) 0=1:=by
     rw[Ye,Yb (show k-1<w.length by omega)]
     exact hb _ (YG _)
    have e3:1-w.getD (k-1) 0=w[k]:=by
     have:¬ w.getD (k-1) 0=w[k]:=fun z=>hne (by rw[l1,z])
     omega
    rw[e3,if_neg]
    rw[dC,if_neg hne];decide
   ·rw[if_neg c,cW,ih',if_neg c]
    unfold pst
    split <;> rfl
 have h:=this w.length (Yd _)
 rwa [Yi (Yd _)]at h
theorem nA {w:List Int}(hb:Bits w):Bits (kp w):=by
 have : ∀k,k<=w.length->Bits (kp (w.take k)):=by
  intro k
  induction k with
  |zero=>intro _ z hz;rw[Jd,a4U]at hz;cases hz
  | succ k ih=>
   intro hk z hz
   have hi:=ih (by omega)
   rw[Yf (show k<w.length by omega),cX]at hz
   split at hz
   ·exact hi z hz
   ·rcases YI.mp hz with q | q
    ·exact hi z q
    ·rw[Yp.mp q];exact hb _ (YG _)
 have h:=this w.length (Yd _)
 rwa [Yi (Yd _)]at h
theorem qR (w:List Int):(kp w).length<=w.length:=by
 refine snoc_ind (P:=fun w=>(kp w).length<=w.length) (Yd _) (fun w b ih=>?_) w
 rw[cX,Yc,Yu]
 split
 ·omega
 ·rw[Yc,Yu];omega
end Wm
namespace Rm
open Bm
theorem yE {cs:List Int}(h:Bits cs)(hl:cs.length<=15):nm cs<32768:=Yh (oZ h) (Ys (n:=2) (j:=15) (by decide) hl)
theorem uD {cs:List Int}(h:Bits cs)(hl:cs.length<=15):rst cs=nm cs:=nW (yE h hl)
theorem dD {as bs:List Int}(ha:Bits as)(hb:Bits bs):Bits (as++bs):=fun z hz=>(YI.mp hz).elim (ha z) (hb z)
theorem rP {bs cs:List Int}(h:Bits bs)(hc:Bits cs)(hl:bs.length+cs.length<=500)(h15:cs.length<=15):rst (bs++cs)=nm cs ^^^ nxn cs.length (rst bs):=by
 rw[jO (dD h hc) (by rw[Yc];exact hl),Xi,<-jO h (by omega)]
 have:=pO cs hc 0 (rst bs) (by decide) (qJ bs)
 rw[Ja,<-jO hc (by omega),uD hc h15]at this
 exact this
def zs (n:Nat):List Int:=List.replicate n 0
theorem mH (n:Nat):Bits (zs n):=fun b hb=> .inl (XS hb)
theorem a6M:∀n,nm (zs n)=0:=by
 intro n
 have:∀n,numI (zs n)=0:=fun n=>by
  induction n with
  |zero=>rfl
  |succ n ih=>unfold zs;rw[Xc,lM];show 0*_+numI (zs n)=0;rw[ih];simp
 unfold nm;rw[this];rfl
def ckn (bs:List Int):Nat:=rst (bs++zs 15)
theorem a0E (bs:List Int):ckn bs<32768:=qJ _
def ck (bs:List Int):List Int:=bitsI (ckn bs) 15
theorem gP {n m:Nat}(h:n<2 ^ m):nm (bitsI n m)=n:=by unfold nm;rw[xZ h];rfl
theorem qK {bs cs:List Int}(h:Bits bs)(hc:Bits cs)(hl:bs.length<=400)(h15:cs.length=15):rst (bs++cs)=nm cs ^^^ ckn bs:=by
 rw[rP h hc (by omega) (by omega)]
 unfold ckn
 rw[rP h (mH 15) (by unfold zs;rw[YA];omega) (by unfold zs;rw[YA];exact Yd _),a6M,Ja,h15]
 unfold zs
 rw[YA]
theorem a3V {bs:List Int}(h:Bits bs)(hl:bs.length<=400):rst (bs++ck bs)=0:=by
 unfold ck
 rw[qK h (fD _ _) hl (bC _ _),gP (m:=15) (a0E bs),Nat.xor_self]
end Rm
namespace Wm
open L2 Bm Rn
theorem zL {n i:Nat}{x:Int}(h:i<n):(List.replicate n x).getD i 0=x:=by
 rw[Ye,XU,if_pos h];rfl
theorem a1B {l:List Int}{a n:Nat}(hn:0<n)(ha:a+n<=l.length){x:Int}(hx:x=l.getD (a+n-1) 0):(l.drop a).take n=List.replicate n x↔Win l a n:=by
 have ln:((l.drop a).take n).length=n:=a2O ha
 constructor
 ·intro e
  have key:∀i,a<=i->i<a+n->l.getD i 0=x:=fun i h1 h2=>by
   have:=tR (l:=l) (a:=a) (n:=n) (i:=i-a) (by omega) ha
   rw[e,zL (by omega)]at this
   have e2:a+(i-a)=i:=by omega
   rw[e2]at this
   exact this.symm
  exact⟨ha,fun i j h1 h2 h3 h4=>by rw[key i h1 h2,key j h3 h4]⟩
 ·intro W
  apply List.ext_getElem?
  intro i
  by_cases hi:i<n
  ·have h1:=tR (l:=l) (a:=a) (n:=n) hi ha
   have h2:l.getD (a+i) 0=x:=by
    rw[hx]
    exact W.2 _ _ (by omega) (by omega) (by omega) (by omega)
   rw[h2,Ye,Yb (by omega)]at h1
   rw[Yb (by omega),XU,if_pos hi]
   exact YF some h1
  ·rw[List.getElem?_eq_none (by omega),XU,if_neg hi]
theorem a1A {w:List Int}{n k:Nat}(hn:0<n)(h1:n<=k)(hk:k<=w.length){x:Int}(hx:x=w.getD (k-1) 0):(w.drop (k-n)).take n=List.replicate n x↔n<=run (w.take k):=by
 have hl:(w.take k).length=k:=by rw[Yo];omega
 rw[a1B hn (by omega) (by rw[hx];congr 1;omega),a0Z (w.take k) n hn (by omega),hl]
 exact(wH (by omega) hk).symm
theorem wX (l:List Int):(put l).head? =l.head?:=snoc_ind (P:=fun l=>(put l).head? =l.head?) rfl (fun w b ih=>by
 rw[cW]
 unfold pst
 split
 ·rw[Y7,Y7,Y7,ih]
  cases w.head? <;> rfl
 ·rw[Y7,Y7,ih]) l
theorem a2B (w:List Int):(kp w).head? =w.head?:=snoc_ind (P:=fun w=>(kp w).head? =w.head?) rfl (fun w b ih=>by
 rw[cX]
 split
 ·rename_i h
  rw[ih,Y7]
  cases w with
  |nil=>exact absurd h (by decide)
  |cons x r=>rfl
 ·rw[Y7,Y7,ih]) w
theorem vK {l:List Int}{x:Int}(h:l.head? =some x):l.getD 0 0=x:=by
 cases l with
 |nil=>cases h
 |cons y r=>exact Yt h
theorem a0B {bs:List Int}:cutV (bs.map V.int) (some (-5:Int)) none=(bs.drop (bs.length-5)).map V.int:=by
 unfold cutV
 have e:HT.sIx (bs.map V.int).length 0 (some (-5:Int))=bs.length-5:=by
  show (if (-5:Int)<0 then ((-5:Int)+((bs.map V.int).length:Int)).toNat else min (-5:Int).toNat (bs.map V.int).length)=bs.length-5
  rw[if_pos (by decide),Ya]
  omega
 rw[e,HT.sIx_none,Yi (by rw[Xu];exact Yd _),List.map_drop]
end Wm
namespace Wm
open Bm
theorem rR (w:List Int)(b:Int):∃s,pst w b=w++b::s:=by
 unfold pst
 split
 ·exact⟨[1-b],by rw[Yy];rfl⟩
 ·exact⟨[],rfl⟩
theorem pP:∀(r w:List Int),∃s,r.foldl pst w=w++s
 |[],w=>⟨[],by rw[YJ];rfl⟩
 | b::r,w=>by
  obtain⟨s,hs⟩:=rR w b
  obtain⟨t,ht⟩:=pP r (pst w b)
  refine⟨b::s++t,?_⟩
  show r.foldl pst (pst w b)=_
  rw[ht,hs,Yy]
theorem put_pre (l:List Int)(b:Int)(r:List Int):∃s,put (l++b::r)=put l++b::s:=by
 obtain⟨s,hs⟩:=rR (put l) b
 obtain⟨t,ht⟩:=pP r (pst (put l) b)
 refine⟨s++t,?_⟩
 unfold put at hs ht ⊢
 rw[Xi]
 show r.foldl pst (pst (l.foldl pst []) b)=_
 rw[ht,hs,Yy]
 rfl
theorem bitsI_split {n1 n2 s:Nat}(hs:s<8)(h:∀j,s<j->n1.testBit j=n2.testBit j)(h1:n1.testBit s=true)(h2:n2.testBit s=false):∃c t1 t2:List Int,bitsI n1 8=c++1::t1/\bitsI n2 8=c++0::t2/\c.length=7-s:=by
 have e:∀n:Nat,bitsI n 8=((List.range (7-s)).map fun i=>bitI n (7-i))++bitI n s::((List.range s).map fun i=>bitI n (s-1-i)):=by
  intro n
  unfold bitsI
  have e8:List.range 8=List.range (7-s)++(7-s)::((List.range s).map fun i=>8-s+i):=by
   have:∀s,s<8->List.range 8=List.range (7-s)++(7-s)::((List.range s).map fun i=>8-s+i):=by decide
   exact this s hs
  rw[e8,Yk,YE,List.map_map]
  refine congr (YF _ rfl) (congr (YF _ ?_) (List.map_congr_left fun i hi=>?_))
  ·show bitI n (8-1-(7-s))=bitI n s
   rw[show 8-1-(7-s)=s by omega]
  ·show bitI n (8-1-(8-s+i))=bitI n (s-1-i)
   have:=List.mem_range.mp hi
   rw[show 8-1-(8-s+i)=s-1-i by omega]
 have b1:bitI n1 s=1:=by unfold bitI;rw[h1];rfl
 have b2:bitI n2 s=0:=by unfold bitI;rw[h2];rfl
 refine⟨(List.range (7-s)).map fun i=>bitI n1 (7-i),(List.range s).map fun i=>bitI n1 (s-1-i),(List.range s).map fun i=>bitI n2 (s-1-i),(e n1).trans (by rw[b1]),(e n2).trans ?_,by rw[Ya,YU]⟩
 rw[b2]
 refine YF (·++_) (List.map_congr_left fun i hi=>?_)
 have hi':=List.mem_range.mp hi
 unfold bitI
 rw[h (7-i) (by omega)]
end Wm
namespace My
open PySem L2
def top (i:Nat):Stmt:=PySem.Challenge.pw_bitrail_k54_whole_the_least_name_speaks.main.body.getD i (.Pass ⟨0,0,0,0⟩)
def clsBody (s:Stmt):List Stmt:=match s with | .ClassDef _ _ _ b _ _ _ _ _ _ _=>b | _=>[]
abbrev ZiB:Stmt:=top 81
abbrev ZhP:Stmt:=(clsBody (top 26)).getD 0 (.Pass ⟨0,0,0,0⟩)
abbrev Zfk:Stmt:=(clsBody (top 26)).getD 1 (.Pass ⟨0,0,0,0⟩)
abbrev Zf0:Stmt:=(clsBody (top 26)).getD 2 (.Pass ⟨0,0,0,0⟩)
abbrev Zen:Stmt:=(clsBody (top 26)).getD 3 (.Pass ⟨0,0,0,0⟩)
abbrev Zkr:Stmt:=top 9
abbrev Zjp:Stmt:=top 10
abbrev Zjn:Stmt:=top 11
abbrev Zks:Stmt:=top 13
abbrev Zku:Stmt:=top 17
abbrev ZjW:Stmt:=top 18
abbrev Zkt:Stmt:=top 22
abbrev Zlk:Stmt:=top 27
abbrev ZhR:Stmt:=top 34
abbrev ZiA:Stmt:=top 35
abbrev Zkv:Stmt:=top 39
abbrev Zjq:Stmt:=top 37
abbrev ZhT:Stmt:=top 36
abbrev ZiC:Stmt:=top 38
abbrev ZhK:Stmt:=(clsBody (top 47)).getD 0 (.Pass ⟨0,0,0,0⟩)
abbrev Zga:Stmt:=(clsBody (top 47)).getD 2 (.Pass ⟨0,0,0,0⟩)
abbrev ZhJ:Stmt:=(clsBody (top 47)).getD 1 (.Pass ⟨0,0,0,0⟩)
abbrev ZgY:Stmt:=(clsBody (top 47)).getD 3 (.Pass ⟨0,0,0,0⟩)
abbrev ZgX:Stmt:=(clsBody (top 47)).getD 4 (.Pass ⟨0,0,0,0⟩)
abbrev Zjh:Stmt:=(clsBody (top 51)).getD 0 (.Pass ⟨0,0,0,0⟩)
abbrev Zji:Stmt:=(clsBody (top 51)).getD 1 (.Pass ⟨0,0,0,0⟩)
abbrev Zix:Stmt:=(clsBody (top 51)).getD 5 (.Pass ⟨0,0,0,0⟩)
abbrev Zgb:Stmt:=(clsBody (top 51)).getD 3 (.Pass ⟨0,0,0,0⟩)
abbrev ZeT:Stmt:=(clsBody (top 51)).getD 4 (.Pass ⟨0,0,0,0⟩)
abbrev Zjg:Stmt:=(clsBody (top 51)).getD 2 (.Pass ⟨0,0,0,0⟩)
abbrev Zf9:Stmt:=(clsBody (top 52)).getD 0 (.Pass ⟨0,0,0,0⟩)
abbrev ZfZ:Stmt:=(clsBody (top 53)).getD 0 (.Pass ⟨0,0,0,0⟩)
abbrev Zip:Stmt:=(clsBody (top 45)).getD 0 (.Pass ⟨0,0,0,0⟩)
abbrev ZfW:Stmt:=(clsBody (top 45)).getD 6 (.Pass ⟨0,0,0,0⟩)
abbrev ZgT:Stmt:=(clsBody (top 45)).getD 7 (.Pass ⟨0,0,0,0⟩)
abbrev ZgU:Stmt:=(clsBody (top 45)).getD 5 (.Pass ⟨0,0,0,0⟩)
abbrev Ziq:Stmt:=(clsBody (top 45)).getD 4 (.Pass ⟨0,0,0,0⟩)
abbrev Zhz:Stmt:=(clsBody (top 45)).getD 1 (.Pass ⟨0,0,0,0⟩)
abbrev Zio:Stmt:=(clsBody (top 45)).getD 3 (.Pass ⟨0,0,0,0⟩)
abbrev Zg1:Stmt:=top 59
abbrev Zi6:Stmt:=(clsBody (top 64)).getD 0 (.Pass ⟨0,0,0,0⟩)
abbrev ZhM:Stmt:=(clsBody (top 65)).getD 0 (.Pass ⟨0,0,0,0⟩)
abbrev Zit:Stmt:=(clsBody (top 66)).getD 0 (.Pass ⟨0,0,0,0⟩)
abbrev ZhA:Stmt:=(clsBody (top 67)).getD 0 (.Pass ⟨0,0,0,0⟩)
abbrev Zf7:Stmt:=(clsBody (top 68)).getD 0 (.Pass ⟨0,0,0,0⟩)
abbrev ZgZ:Stmt:=(clsBody (top 69)).getD 0 (.Pass ⟨0,0,0,0⟩)
abbrev Ziw:Stmt:=(clsBody (top 70)).getD 0 (.Pass ⟨0,0,0,0⟩)
abbrev Zf8:Stmt:=(clsBody (top 77)).getD 8 (.Pass ⟨0,0,0,0⟩)
abbrev ZhE:Stmt:=(clsBody (top 77)).getD 9 (.Pass ⟨0,0,0,0⟩)
abbrev ZhD:Stmt:=(clsBody (top 77)).getD 7 (.Pass ⟨0,0,0,0⟩)
abbrev ZfX:Stmt:=(clsBody (top 77)).getD 10 (.Pass ⟨0,0,0,0⟩)
abbrev Zem:Stmt:=(clsBody (top 77)).getD 11 (.Pass ⟨0,0,0,0⟩)
abbrev Zel:Stmt:=(clsBody (top 77)).getD 12 (.Pass ⟨0,0,0,0⟩)
abbrev Zjo:Stmt:=top 23
abbrev ZgV:Stmt:=(clsBody (top 77)).getD 13 (.Pass ⟨0,0,0,0⟩)
abbrev Zi9:Stmt:=(clsBody (top 77)).getD 1 (.Pass ⟨0,0,0,0⟩)
abbrev Zlj:Stmt:=top 76
abbrev Zir:Stmt:=(clsBody (top 77)).getD 5 (.Pass ⟨0,0,0,0⟩)
abbrev ZjS:Stmt:=(clsBody (top 77)).getD 6 (.Pass ⟨0,0,0,0⟩)
abbrev ZiE:Stmt:=top 60
abbrev ZjX:Stmt:=top 61
abbrev ZiD:Stmt:=top 62
abbrev ZhS:Stmt:=top 74
abbrev Zg2:Stmt:=top 75
abbrev Zjb:Stmt:=(clsBody (top 77)).getD 0 (.Pass ⟨0,0,0,0⟩)
abbrev ZhL:Stmt:=(clsBody (top 70)).getD 1 (.Pass ⟨0,0,0,0⟩)
abbrev Zi7:Stmt:=(clsBody (top 64)).getD 2 (.Pass ⟨0,0,0,0⟩)
abbrev ZhN:Stmt:=(clsBody (top 65)).getD 2 (.Pass ⟨0,0,0,0⟩)
abbrev Ziu:Stmt:=(clsBody (top 66)).getD 2 (.Pass ⟨0,0,0,0⟩)
abbrev ZhB:Stmt:=(clsBody (top 67)).getD 2 (.Pass ⟨0,0,0,0⟩)
abbrev Zi8:Stmt:=(clsBody (top 64)).getD 3 (.Pass ⟨0,0,0,0⟩)
abbrev Ziv:Stmt:=(clsBody (top 66)).getD 3 (.Pass ⟨0,0,0,0⟩)
abbrev ZhO:Stmt:=(clsBody (top 65)).getD 3 (.Pass ⟨0,0,0,0⟩)
abbrev ZhC:Stmt:=(clsBody (top 67)).getD 3 (.Pass ⟨0,0,0,0⟩)
abbrev ZhF:Stmt:=(clsBody (top 77)).getD 4 (.Pass ⟨0,0,0,0⟩)
abbrev Zjc:Stmt:=(clsBody (top 77)).getD 2 (.Pass ⟨0,0,0,0⟩)
abbrev Zja:Stmt:=(clsBody (top 77)).getD 3 (.Pass ⟨0,0,0,0⟩)
abbrev ZgW:Stmt:=(clsBody (top 80)).getD 5 (.Pass ⟨0,0,0,0⟩)
abbrev Zjf:Stmt:=(clsBody (top 80)).getD 0 (.Pass ⟨0,0,0,0⟩)
abbrev Zje:Stmt:=(clsBody (top 80)).getD 1 (.Pass ⟨0,0,0,0⟩)
abbrev ZfY:Stmt:=(clsBody (top 80)).getD 4 (.Pass ⟨0,0,0,0⟩)
abbrev ZhG:Stmt:=(clsBody (top 80)).getD 10 (.Pass ⟨0,0,0,0⟩)
abbrev ZhI:Stmt:=(clsBody (top 80)).getD 11 (.Pass ⟨0,0,0,0⟩)
abbrev Zis:Stmt:=(clsBody (top 80)).getD 12 (.Pass ⟨0,0,0,0⟩)
abbrev ZjT:Stmt:=(clsBody (top 80)).getD 13 (.Pass ⟨0,0,0,0⟩)
abbrev ZhH:Stmt:=(clsBody (top 80)).getD 14 (.Pass ⟨0,0,0,0⟩)
abbrev Zjd:Stmt:=(clsBody (top 80)).getD 7 (.Pass ⟨0,0,0,0⟩)
abbrev ZjU:Stmt:=(clsBody (top 80)).getD 3 (.Pass ⟨0,0,0,0⟩)
abbrev Zjk:Stmt:=top 83
abbrev Zjj:Stmt:=top 84
abbrev Zjm:Stmt:=top 85
abbrev Ziz:Stmt:=top 86
abbrev ZhQ:Stmt:=top 87
abbrev Zg0:Stmt:=top 88
abbrev Zjl:Stmt:=top 89
abbrev ZjV:Stmt:=top 90
abbrev Ziy:Stmt:=top 91
abbrev ZlR:Stmt:=top 92
theorem aH {H:Hp}{p:Addr}(h:H p=none)(o:HO):Same H (upd H p o):=fun b u q=>by rw[aL (aQ q h)];exact q
theorem small {n:Nat}(h:n<=1000):n<=sizeLine:=Xz (lK h)
theorem aK {n:Nat}(h:decide (n<=1000)=true):n<=sizeLine:=small (YT h)
theorem bI {n:Nat}(h:n<=1000):n<sizeLine:=lK h
theorem _root_.L2.Same.put {H H':Hp}{p:Addr}{o:HO}(g:Same H H')(h:H p=none):Same H (upd H' p o):=fun b u q=>by rw[aL (aQ q h)];exact g b u q
theorem _root_.L2.Same.none {H H':Hp}{x:Addr}(g:Same H H')(h:H' x=none):H x=none:=by
 cases e:H x with
 |none=>rfl
 |some o=>rw[g x o e]at h;cases h
theorem bL {H:Hp}{C x dx:Addr}{fs:List (Str×V)}(hx:H x=none)(hd:H dx=none):Same H (upd (upd (upd H dx (.own x)) x (.ins C dx [])) x (.ins C dx fs)):=fun b u q=>by
 rw[aL (aQ q hx),aL (aQ q hx),aL (aQ q hd)];exact q
open Bm Rm
theorem a3H (n k:Nat):Builtin.bitAnd ((n:Int) / 2 ^ ((k:Int)).toNat) 1=bitI n k:=by
 rw[a7D]
 have h:Builtin.bitAnd ((n >>> k:Nat):Int) 1=(((n >>> k:Nat) &&& 1:Nat):Int):=band (n >>> k) 1
 rw[h]
 unfold bitI
 have h1:=bit_at n k
 have h2:((n >>> k:Nat) &&& 1)=(n >>> k) % 2:=Nat.and_one_is_mod _
 split
 ·rename_i c;exact h1.mpr c
 ·rename_i c
  have:¬ (((n >>> k:Nat) &&& 1:Nat):Int)=1:=fun z=>c (h1.mp z)
  omega
def spBitsOf:Sp:=fun vs H Q _=>∃n m:Nat,vs= [.int n,.int m]/\n<2 ^ m/\m<=128/\∀p,H p=none->Q (.ref p) (upd H p (.lst ((bitsI n m).map V.int)))
def spNumberOf (K:W.Frag):Sp:=fun vs H Q _=>∃(a:Addr)(bs:List Int),vs= [.ref a]/\SqL K H a (bs.map V.int)/\Bits bs/\bs.length<=450/\Q (.int ((nm bs:Nat):Int)) H
theorem vO {n m:Nat}(h:n<2 ^ m):(n:Int) / 2 ^ ((m:Int)).toNat=0:=by
 rw[jR]
 exact Int.ediv_eq_zero_of_lt (Int.natCast_nonneg n) (by exact_mod_cast h)
theorem lH {n m i:Nat}(h:i<m):(bitsI n m).take (i+1)=(bitsI n m).take i++[bitI n (m-1-i)]:=by
 have hl:i<(bitsI n m).length:=by rw[bC];exact h
 rw[Yf hl,lV hl]
theorem nQ {bs:List Int}{i:Nat}(h:i<bs.length):atI (bs.map V.int) ((i:Nat):Int)=some (.int bs[i]):=bV (by rw[Yj,Yb h];rfl)
theorem eZ {bs:List Int}{i:Nat}{x:V}(hx:(bs.map V.int)[i]? =some x):∃h:i<bs.length,x= .int bs[i]:=by
 have hi:i<bs.length:=by
  have:=(Yg.mp hx).1
  rwa [Ya]at this
 refine⟨hi,?_⟩
 rw[Yj,Yb hi]at hx
 exact(Yt hx).symm
abbrev bl (a:Nat):Nat:=Builtin.Int.intBits (a:Int)
theorem a6T {a:Nat}(h:a≠0):2 ^ (bl a-1)<=a:=by
 show 2 ^ (Builtin.Int.intBits (a:Int)-1)<=a
 rw[kY,if_neg h]
 exact Nat.log2_self_le h
theorem a0H {a n:Nat}(h:a<2 ^ n):bl a<=n:=bits_le h
theorem a3E (a:Nat):a<2 ^ bl a:=a2Q a
theorem rB:bl 64647=16:=by decide
theorem yW {r:Nat}(hr:r<2 ^ 450)(h:16<=bl r):(r ^^^ 64647 <<< (bl r-16))<2 ^ 450/\R (r ^^^ 64647 <<< (bl r-16))=R r/\bl (r ^^^ 64647 <<< (bl r-16))<bl r:=by
 have r3:=a0H hr
 have hr0:r≠0:=by
  intro z
  subst z
  have:bl 0=0:=by decide
  omega
 have l1:64647 <<< (bl r-16)<2 ^ (bl r-1+1):=by
  rw[Xw]
  have e1:bl r-1+1=16+(bl r-16):=by omega
  rw[e1,Nat.pow_add]
  exact Nat.mul_lt_mul_of_lt_of_le (by decide) (Yd _) (Nat.two_pow_pos _)
 have l2:2 ^ (bl r-1)<=64647 <<< (bl r-16):=by
  rw[Xw]
  have e1:bl r-1=15+(bl r-16):=by omega
  rw[e1,Nat.pow_add]
  exact Nat.mul_le_mul_right _ (by decide)
 have l3:r<2 ^ (bl r-1+1):=by
  have e1:bl r-1+1=bl r:=by omega
  rw[e1];exact a3E r
 have l4:=a0J l3 l1 (a6T hr0) l2
 have l5:bl (r ^^^ 64647 <<< (bl r-16))<=bl r-1:=a0H l4
 exact⟨Yh l4 (Ys (by decide) (by omega)),a5R (by omega),by omega⟩
def spDivided:Sp:=fun vs H Q _=>∃a:Nat,vs= [.int a,.int 64647]/\a<2 ^ 450/\∀(w:Nat)(p:Addr),H p=none->Q (.ref p) (upd H p (.tup [.int ((w:Nat):Int),.int ((R a:Nat):Int)]))
def spRest (K:W.Frag):Sp:=fun vs H Q _=>∃(a:Addr)(bs:List Int),vs= [.ref a]/\SqL K H a (bs.map V.int)/\Bits bs/\bs.length<=450/\∀H',Same H H'->Q (.int ((rst bs:Nat):Int)) H'
def spCheck (K:W.Frag):Sp:=fun vs H Q _=>∃(a:Addr)(bs:List Int),vs= [.ref a]/\SqL K H a (bs.map V.int)/\Bits bs/\bs.length<=400/\∀p H',H p=none->Same H H'->H' p=some (.lst ((ck bs).map V.int))->Q (.ref p) H'
theorem a1W {bs:List Int}(h:Bits bs):numI bs=((nm bs:Nat):Int):=(iZ h).symm
def szB (bs:List Int):Nat:=nm ((bs.drop 9).take 3)
def nmB (bs:List Int):Nat:=nm ((bs.drop 1).take 8)
def dtB (bs:List Int)(k:Nat):Int:=((nm ((bs.drop (12+8*k)).take 8):Nat):Int)
def daB (bs:List Int):List Int:=(List.range (szB bs)).map (dtB bs)
def CmpB (bs:List Int):Prop:=12<=bs.length/\bs.length=27+8*szB bs
def RdOk (bs:List Int):Prop:=CmpB bs/\bs.getD 0 0=0/\rst bs=0
theorem fV {bs:List Int}(h:Bits bs)(a n:Nat):Bits ((bs.drop a).take n):=fun b hb=>h b (List.mem_of_mem_drop (Xp hb))
theorem wM {bs:List Int}(h:Bits bs):szB bs<8:=by
 have:=oZ (fV h 9 3)
 refine Yh this (Ys (n:=2) (j:=3) (by decide) ?_)
 rw[Yo];omega
def spSize (K:W.Frag):Sp:=fun vs H Q _=>∃(a:Addr)(bs:List Int),vs= [.ref a]/\SqL K H a (bs.map V.int)/\Bits bs/\12<=bs.length/\bs.length<=450/\∀H',Same H H'->Q (.int ((szB bs:Nat):Int)) H'
def spCmp (K:W.Frag):Sp:=fun vs H Q _=>∃(a:Addr)(bs:List Int),vs= [.ref a]/\SqL K H a (bs.map V.int)/\Bits bs/\bs.length<=450/\(CmpB bs->∀H',Same H H'->Q (.bl true) H')/\(¬ CmpB bs->∀H',Same H H'->Q (.bl false) H')
def spRead (K:W.Frag)(C:Addr):Sp:=fun vs H Q E=>∃(a:Addr)(bs:List Int),vs= [.ref a]/\SqL K H a (bs.map V.int)/\Bits bs/\bs.length<=450/\
 (RdOk bs->∀t p H',H p=none->Same H H'->H' p=some (.lst ((daB bs).map V.int))->H' t=some (.tup [.int ((nmB bs:Nat):Int),.ref p])->Q (.ref t) H')/\(¬ RdOk bs->∀H',Same H H'->E (.ref C) none H')
theorem tO (bs:List Int):(daB bs).length=szB bs:=by unfold daB;rw[Ya,YU]
theorem a0A {bs:List Int}{i:Nat}(h:i<szB bs):(daB bs).take (i+1)=(daB bs).take i++[dtB bs i]:=by
 have hl:i<(daB bs).length:=by rw[tO];exact h
 have e:(daB bs)[i]=dtB bs i:=by simp[daB]
 rw[Yf hl,e]
theorem a7F {bs:List Int}(h:0<bs.length):bs[0]=bs.getD 0 0:=by rw[Ye,Yb h];rfl
theorem rA {bs:List Int}{a n:Nat}{x y:Int}(hx:x=((a:Nat):Int))(hy:y=((a+n:Nat):Int))(h:a+n<=bs.length):cutV (bs.map V.int) (some x) (some y)=((bs.drop a).take n).map V.int:=by
 rw[hx,hy];exact a2N h
open Bm Rn Wm
def lastV:Option Int->V
 |none=> .non
 |some b=> .int b
abbrev skF (s:S):List (Str×V):=[("last",lastV s.1),("alike",.int ((s.2:Nat):Int))]
def SkAt (C:Addr)(H:Hp)(a:Addr)(s:S):Prop:=∃dx,H a=some (.ins C dx (skF s))
theorem SkAt.same {C:Addr}{H H':Hp}{a:Addr}{n:S}(h:SkAt C H a n)(g:Same H H'):SkAt C H' a n:=by
 obtain⟨dx,e⟩:=h
 exact⟨dx,g _ _ e⟩
theorem SkAt.at_ {C:Addr}{H H':Hp}{a:Addr}{n:S}(h:SkAt C H a n)(g:H' a=H a):SkAt C H' a n:=by
 obtain⟨dx,e⟩:=h
 exact⟨dx,g.trans e⟩
theorem SkAt.ne {C:Addr}{H:Hp}{a p:Addr}{n:S}{xs:List V}(h:SkAt C H a n)(e:H p=some (.lst xs)):p≠a:=fun z=>by
 obtain⟨dx,q⟩:=h
 rw[z,q]at e;cases e
theorem SkAt.set {C:Addr}{H:Hp}{a p:Addr}{n:S}{xs ys:List V}(h:SkAt C H a n)(e:H p=some (.lst xs)):SkAt C (upd H p (.lst ys)) a n:=by
 obtain⟨dx,q⟩:=h
 exact⟨dx,by rw[aL (fun z=>by rw[z,e]at q;cases q)];exact q⟩
def spSkInit (C:Addr):Sp:=fun vs H Q _=>∃a dx,vs= [.ref a]/\H a=some (.ins C dx [])/\∀H',H'=upd H a (.ins C dx (skF (none,0)))->Q .non H'
def spSkLen (C:Addr):Sp:=fun vs H Q _=>∃a s b,vs= [.ref a,.int b]/\SkAt C H a s/\∀H',SkAt C H' a (skp s b)->(∀x,x≠a->H' x=H x)->Q .non H'
def spSkFull (C:Addr):Sp:=fun vs H Q _=>∃a s,vs= [.ref a]/\SkAt C H a s/\Q (.bl (decide (s.2=5))) H
def spSkLong (C:Addr):Sp:=fun vs H Q _=>∃a s,vs= [.ref a]/\SkAt C H a s/\Q (.bl (decide (5<s.2))) H
theorem vQ (n:Nat):decide (((n:Nat):Int)=5)=decide (n=5):=by
 by_cases h:n=5
 ·subst h;rfl
 ·rw[Ym h,Ym (by omega)]
theorem a2K (n:Nat):decide ((5:Int)<((n:Nat):Int))=decide (5<n):=by
 by_cases h:5<n
 ·rw[Yl h,Yl (by omega)]
 ·rw[Ym h,Ym (by omega)]
theorem zH:Good []:=fun k hk=>by
 have:k=0:=Nat.le_zero.mp hk
 subst this;decide
def spPutIn (K:W.Frag):Sp:=fun vs H Q _=>∃(a:Addr)(bs:List Int),vs= [.ref a]/\SqL K H a (bs.map V.int)/\bs.length<=400/\∀p H',H p=none->Same H H'->H' p=some (.lst ((put bs).map V.int))->Q (.ref p) H'
theorem wV {bs:List Int}{i:Nat}(h:i<bs.length):put (bs.take (i+1))=pst (put (bs.take i)) bs[i]:=by rw[Yf h,cW]
instance decCmp (bs:List Int):Decidable (CmpB bs):=by unfold CmpB;infer_instance
def ans (w:List Int):Str:=if 5<run w then "six" else if run w=5\/¬ CmpB (kp w) then "more" else if rst (kp w)=0 then "whole" else "bad"
theorem jF {w:List Int}(h:5<run w):ans w="six":=if_pos h
theorem fX {w:List Int}(h:¬ 5<run w)(g:run w=5\/¬ CmpB (kp w)):ans w="more":=(if_neg h).trans (if_pos g)
theorem iK {w:List Int}(h:¬ 5<run w)(g:¬ (run w=5\/¬ CmpB (kp w)))(r:rst (kp w)=0):ans w="whole":=(if_neg h).trans ((if_neg g).trans (if_pos r))
theorem nU {w:List Int}(h:¬ 5<run w)(g:¬ (run w=5\/¬ CmpB (kp w)))(r:¬ rst (kp w)=0):ans w="bad":=(if_neg h).trans ((if_neg g).trans (if_neg r))
abbrev rdF (st ks:Addr)(t:Str):List (Str×V):=[("streak",.ref st),("kept",.ref ks),("answer",.str t)]
structure RdAt (C CK:Addr)(H:Hp)(r st ks:Addr)(w:List Int)(t:Str):Prop where
 rd:∃dx,H r=some (.ins C dx (rdF st ks t))
 sk:SkAt CK H st (sk w)
 kp:H ks=some (.lst ((kp w).map V.int))
theorem RdAt.same {C CK:Addr}{H H':Hp}{r st ks:Addr}{w:List Int}{t:Str}(h:RdAt C CK H r st ks w t)(g:Same H H'):RdAt C CK H' r st ks w t:=⟨let ⟨dx,e⟩:=h.rd;⟨dx,g _ _ e⟩,h.sk.same g,g _ _ h.kp⟩
theorem RdAt.ne1 {C CK:Addr}{H:Hp}{r st ks:Addr}{w:List Int}{t:Str}(h:RdAt C CK H r st ks w t):r≠st:=fun z=>by
 obtain⟨dx,e⟩:=h.rd
 obtain⟨dy,f⟩:=h.sk
 rw[z,f]at e
 cases e
theorem RdAt.ne2 {C CK:Addr}{H:Hp}{r st ks:Addr}{w:List Int}{t:Str}(h:RdAt C CK H r st ks w t):r≠ks:=fun z=>by
 obtain⟨dx,e⟩:=h.rd
 rw[z,h.kp]at e
 cases e
theorem RdAt.ne3 {C CK:Addr}{H:Hp}{r st ks:Addr}{w:List Int}{t:Str}(h:RdAt C CK H r st ks w t):ks≠st:=fun z=>by
 obtain⟨dy,f⟩:=h.sk
 rw[<-z,h.kp]at f
 cases f
def But3 (H H':Hp)(r st ks:Addr):Prop:=∀x o,x≠r->x≠st->x≠ks->H x=some o->H' x=some o
def spRdInit (C CK:Addr):Sp:=fun vs H Q _=>∃a dx,vs= [.ref a]/\H a=some (.ins C dx [])/\∀H' st ks,RdAt C CK H' a st ks [] "more"->H st=none->H ks=none->(∀x o,x≠a->H x=some o->H' x=some o)->Q .non H'
def spRdJudged (C CK:Addr):Sp:=fun vs H Q _=>∃r st ks w t,vs= [.ref r]/\RdAt C CK H r st ks w t/\Bits w/\w.length<=450/\∀H',Same H H'->Q (.str (ans w)) H'
def spRdHear (C CK:Addr):Sp:=fun vs H Q _=>∃r st ks w t b,vs= [.ref r,.int b]/\RdAt C CK H r st ks w t/\Bits (w++[b])/\w.length<450/\∀H',RdAt C CK H' r st ks (w++[b]) (ans (w++[b]))->But3 H H' r st ks->Q (.str (ans (w++[b]))) H'
def spRdPlain (C CK:Addr):Sp:=fun vs H Q _=>∃r st ks w t,vs= [.ref r]/\RdAt C CK H r st ks w t/\∀p H',H p=none->Same H H'->H' p=some (.lst ((kp w).map V.int))->Q (.ref p) H'
def spRdFrame (C CK:Addr):Sp:=fun vs H Q _=>∃r st ks w,vs= [.ref r]/\RdAt C CK H r st ks w (ans w)/\Bits w/\w.length<=450/\(ans w="whole"->(kp w).getD 0 0=0)/\
 (ans w="whole"->RdOk (kp w)->∀t p H',H p=none->Same H H'->H' p=some (.lst ((daB (kp w)).map V.int))->H' t=some (.tup [.int ((nmB (kp w):Nat):Int),.ref p])->Q (.ref t) H')/\(ans w≠"whole"->Q .non H)
theorem nR {w:List Int}(h:ans w="whole"):CmpB (kp w)/\rst (kp w)=0:=by
 by_cases h1:5<run w
 ·rw[jF h1]at h;exact absurd h (by decide +kernel)
 by_cases h2:run w=5\/¬ CmpB (kp w)
 ·rw[fX h1 h2]at h;exact absurd h (by decide +kernel)
 by_cases h3:rst (kp w)=0
 ·exact⟨YB fun z=>h2 (.inr z),h3⟩
 ·rw[nU h1 h2 h3]at h;exact absurd h (by decide +kernel)
theorem uE {bs:List Int}{i:Nat}(h:i<bs.length):put (bs.take (i+1))=pst (put (bs.take i)) bs[i]:=by rw[Yf h,cW]
theorem getD_snoc (w:List Int)(b:Int):(w++[b]).getD ((w++[b]).length-1) 0=b:=by
 have e:(w++[b]).length-1=w.length:=by rw[Yc,Yu];omega
 rw[e,Ye,Yz (Yd _),XI];rfl
def spLBits2:Sp:=fun vs H Q _=>∃n m:Nat,vs= [.int n,.int m]/\m<=128/\∀p,H p=none->Q (.ref p) (upd H p (.lst ((bitsI n m).map V.int)))
def byt (n:Int):Bool:=decide (0<=n) && decide (n<=255)
theorem dJ {n:Int}:byt n=true↔0<=n/\n<=255:=by unfold byt;simp
theorem jE {n:Int}(h:byt n=true):∃m:Nat,n=m/\m<256:=by
 obtain⟨h0,h1⟩:=dJ.mp h
 exact⟨n.toNat,by omega,by omega⟩
def spByt:Sp:=fun vs H Q _=>∃n,vs= [.int n]/\Q (.bl (byt n)) H
def spBytes (K:W.Frag):Sp:=fun vs H Q _=>∃(a:Addr)(ns:List Int),vs= [.ref a]/\SqA K H a (ns.map V.int)/\ns.length<=500/\∀H',Same H H'->Q (.bl (ns.all byt)) H'
def FrOk (n:Int)(ds:List Int):Prop:=byt n=true/\ds.length<=7/\ds.all byt=true
def spChkF (K:W.Frag)(C:Addr):Sp:=fun vs H Q E=>∃(n:Int)(a:Addr)(ds:List Int),vs= [.int n,.ref a]/\SqL K H a (ds.map V.int)/\ds.length<=500/\(FrOk n ds->∀H',Same H H'->Q .non H')/\(¬ FrOk n ds->∀H',Same H H'->E (.ref C) none H')
def b8 (d:Int):List Int:=bitsI d.toNat 8
def hdD (n:Int)(k:Nat)(ds:List Int):List Int:=[0]++b8 n++bitsI k 3++(ds.map b8).flatten
def hd (n:Int)(ds:List Int):List Int:=hdD n ds.length ds
def fb (n:Int)(ds:List Int):List Int:=hd n ds++ck (hd n ds)
theorem fG (d:Int):(b8 d).length=8:=bC _ _
theorem tU (d:Int):Bits (b8 d):=fD _ _
theorem pQ:∀ds:List Int,(ds.map b8).flatten.length=8*ds.length
 |[]=>rfl
 |d::r=>by rw[YE,Xb,Yc,pQ r,fG,YW];omega
theorem lX:∀ds:List Int,Bits (ds.map b8).flatten
 |[]=>fun _ z=>nomatch z
 |d::r=>by rw[YE,Xb];exact dD (tU d) (lX r)
theorem nG (n:Int)(k:Nat)(ds:List Int):(hdD n k ds).length=12+8*ds.length:=by
 unfold hdD
 rw[Yc,Yc,Yc,pQ,fG,bC,Yu]
theorem zF (n:Int)(k:Nat)(ds:List Int):Bits (hdD n k ds):=by
 unfold hdD
 refine dD (dD (dD ?_ (tU n)) (fD _ _)) (lX ds)
 intro b hb
 exact .inl (Yp.mp hb)
theorem pM (n:Int)(k:Nat)(ds:List Int)(d:Int):hdD n k (ds++[d])=hdD n k ds++b8 d:=by
 unfold hdD
 rw[Yk,List.flatten_append,<-Yy]
 simp
theorem nD (n:Int)(ds:List Int):(hd n ds).length=12+8*ds.length:=nG n _ ds
theorem jC (n:Int)(ds:List Int):Bits (hd n ds):=zF n _ ds
theorem a0F (bs:List Int):(ck bs).length=15:=bC _ _
theorem a2P (bs:List Int):Bits (ck bs):=fD _ _
theorem iJ (n:Int)(ds:List Int):(fb n ds).length=27+8*ds.length:=by unfold fb;rw[Yc,nD,a0F];omega
theorem tD (n:Int)(ds:List Int):Bits (fb n ds):=dD (jC n ds) (a2P _)
theorem a5C (n:Int)(ds:List Int)(h:ds.length<=40):rst (fb n ds)=0:=a3V (jC n ds) (by rw[nD];omega)
def spFrame (K:W.Frag)(C:Addr):Sp:=fun vs H Q E=>∃(n:Int)(a:Addr)(ds:List Int),vs= [.int n,.ref a]/\SqL K H a (ds.map V.int)/\ds.length<=500/\(FrOk n ds->∀p H',H p=none->Same H H'->H' p=some (.lst ((fb n ds).map V.int))->Q (.ref p) H')/\(¬ FrOk n ds->∀H',Same H H'->E (.ref C) none H')
theorem yD {n:Int}{ds:List Int}(h:¬ byt n=true\/7<ds.length\/∃d∈ds,¬ byt d=true):¬ FrOk n ds:=fun ⟨h1,h2,h3⟩=>by
 rcases h with h | h | ⟨d,hd,h⟩
 ·exact h h1
 ·omega
 ·exact h (X0.mp h3 d hd)
theorem lA {ds:List Int}(h:ds.all byt=true){i:Nat}(hi:i<ds.length):byt ds[i]=true:=X0.mp h _ (YG hi)
theorem sZ {n:Nat}{ds:List Int}(hn:n<256)(hl:ds.length<=7):szB (fb (n:Int) ds)=ds.length:=by
 unfold szB fb hd hdD
 have e:(([0]++b8 (n:Int)++bitsI ds.length 3++(ds.map b8).flatten++ck ([0]++b8 (n:Int)++bitsI ds.length 3++(ds.map b8).flatten)).drop 9).take 3=bitsI ds.length 3:=by
  have h9:([0]++b8 (n:Int)).length=9:=by rw[Yc,fG];rfl
  rw[Yy,Yy ([0]++b8 (n:Int)),Xy (by omega),List.drop_of_length_le (by omega),List.nil_append,YY (by rw[bC];exact Yd _),Yi (by rw[bC];exact Yd _)]
 rw[e]
 exact gP (by show ds.length<2 ^ 3;omega)
theorem a2G {n:Nat}{ds:List Int}(hn:n<256):nmB (fb (n:Int) ds)=n:=by
 unfold nmB fb hd hdD
 have e:(([0]++b8 (n:Int)++bitsI ds.length 3++(ds.map b8).flatten++ck ([0]++b8 (n:Int)++bitsI ds.length 3++(ds.map b8).flatten)).drop 1).take 8=b8 (n:Int):=by
  rw[Yy,Yy,Yy [0]]
  show (b8 (n:Int)++_).take 8=_
  rw[YY (by rw[fG];exact Yd _),Yi (by rw[fG];exact Yd _)]
 rw[e]
 exact gP (by show n<2 ^ 8;omega)
theorem pR:∀(ds:List Int)(k:Nat)(h:k<ds.length)(r:List Int),(((ds.map b8).flatten++r).drop (8*k)).take 8=b8 ds[k]
 | d::ds,0,_,r=>by
  rw[YE,Xb,Nat.mul_zero,List.drop_zero,Yy,YY (by rw[fG];exact Yd _),Yi (by rw[fG];exact Yd _)];rfl
 | d::ds,k+1,h,r=>by
  rw[YE,Xb,Yy]
  have e:8*(k+1)=(b8 d).length+8*k:=by rw[fG];omega
  rw[e,<-List.drop_drop,List.drop_left,pR ds k (by simpa using h) r];rfl
theorem a2H {n:Nat}{ds:List Int}(hn:n<256)(hl:ds.length<=7)(hall:ds.all byt=true):daB (fb (n:Int) ds)=ds:=by
 unfold daB
 rw[sZ hn hl]
 apply List.ext_getElem
 ·rw[Ya,YU]
 ·intro k h1 h2
  rw[X3,List.getElem_range]
  unfold dtB fb hd hdD
  have h12:([0]++b8 (n:Int)++bitsI ds.length 3).length=12:=by rw[Yc,Yc,fG,bC];rfl
  rw[Yy,<-List.drop_drop]
  have e:([0]++b8 (n:Int)++bitsI ds.length 3++((ds.map b8).flatten++ck ([0]++b8 (n:Int)++bitsI ds.length 3++(ds.map b8).flatten))).drop 12=(ds.map b8).flatten++ck ([0]++b8 (n:Int)++bitsI ds.length 3++(ds.map b8).flatten):=by
   rw[Xy (by omega),List.drop_of_length_le (by omega),List.nil_append]
  rw[e,pR ds k h2]
  obtain⟨m,em,hm⟩:=jE (lA hall h2)
  rw[em]
  show ((nm (bitsI m 8):Nat):Int)=_
  rw[gP (by show m<2 ^ 8;omega)]
theorem a6Q {n:Nat}{ds:List Int}(hn:n<256)(hl:ds.length<=7):RdOk (fb (n:Int) ds):=by
 refine⟨⟨by rw[iJ];omega,by rw[iJ,sZ hn hl]⟩,?_,a5C _ _ (by omega)⟩
 unfold fb hd hdD
 rfl
theorem fW {as bs:List Int}(ha:Bits as)(hb:Bits bs):Bits (as++bs):=fun z hz=>(YI.mp hz).elim (ha z) (hb z)
theorem mJ {as:List Int}{n:Nat}(ha:Bits as):Bits (as.take n):=fun z hz=>ha z (Xp hz)
theorem yV (u:List Int):∀v:List Int,∃x,kp (u++v)=kp u++x:=by
 refine snoc_ind (P:=fun v=>∃x,kp (u++v)=kp u++x) ⟨[],by rw[YJ,YJ]⟩ (fun v b ih=>?_)
 obtain⟨x,e⟩:=ih
 rw[<-Yy,cX]
 split
 ·exact⟨x,e⟩
 ·exact⟨x++[b],by rw[e,Yy]⟩
theorem uA {l x:List Int}(h:12<=l.length):szB (l++x)=szB l:=by
 unfold szB
 rw[Xy (by omega),YY (by rw[Xu];omega)]
structure Wr (w:List Int)(bs:List Int):Prop where
 w:w=put bs
 bits:Bits bs
 ok:RdOk bs
theorem Wr.take_run {w bs:List Int}(h:Wr w bs){j:Nat}(hj:j<=w.length):run (w.take j)<=5:=by
 have:=wY bs
 rw[<-h.w]at this
 exact this j hj
theorem Wr.wbits {w bs:List Int}(h:Wr w bs):Bits w:=by rw[h.w];exact wZ h.bits
theorem Wr.kp {w bs:List Int}(h:Wr w bs):kp w=bs:=by rw[h.w];exact yU bs
theorem Wr.more {w bs:List Int}(h:Wr w bs){j:Nat}(hj:j<w.length):ans (w.take j)="more":=by
 have r5:=h.take_run (Xz hj)
 refine fX (by omega) (YB fun z=>?_)
 have n5:¬ run (w.take j)=5:=fun y=>z (.inl y)
 have hc:CmpB (Wm.kp (w.take j)):=YB fun y=>z (.inr y)
 obtain⟨x,e⟩:=yV (w.take j) (w.drop j)
 rw[List.take_append_drop,h.kp]at e
 have hc':CmpB (Wm.kp (w.take j)):=hc
 have h12:=hc.1
 have h27:=hc.2
 have hs:=uA (l:=Wm.kp (w.take j)) (x:=x) h12
 have hb:=h.ok.1.2
 rw[e]at hb
 have hb':(Wm.kp (w.take j)++x).length=27+8*szB (Wm.kp (w.take j)++x):=hb
 rw[hs,Yc]at hb'
 have hx:x= []:=List.eq_nil_of_length_eq_zero (by omega)
 rw[hx,YJ]at e
 have good:Good (w.take j):=fun k hk=>by
  rw[List.take_take]
  exact h.take_run (by rw[Yo]at hk;omega)
 have hp:=wW (mJ (n:=j) h.wbits) good
 rw[if_neg n5,<-e,<-h.w]at hp
 have:=YF List.length hp
 rw[Yo]at this
 omega
theorem Wr.whole {w bs:List Int}(h:Wr w bs):ans w="whole":=by
 have r4:=gM bs
 rw[<-h.w]at r4
 refine iK (by omega) (fun z=>?_) ?_
 ·rcases z with z | z
  ·omega
  ·rw[h.kp]at z;exact z h.ok.1
 ·rw[h.kp];exact h.ok.2.2
structure On (w:List Int):Prop where
 good:Good w
 le:12<=(kp w).length->(kp w).length<=27+8*szB (kp w)
 five:CmpB (kp w)->run w=5
theorem On.nil:On []:=⟨zH,fun z=>absurd z (by decide),fun z=>absurd z.1 (by decide)⟩
theorem wL {l:List Int}{b:Int}(h:12<=l.length):szB (l++[b])=szB l:=by
 unfold szB
 rw[Xy (by omega),YY (by rw[Xu];omega)]
theorem On.le' {w:List Int}{b:Int}(h:On w):12<=(kp (w++[b])).length->(kp (w++[b])).length<=27+8*szB (kp (w++[b])):=by
 rw[cX]
 by_cases c:run w=5
 ·rw[if_pos c];exact h.le
 ·rw [if_neg c]
  intro h12
  rw[Yc,Yu]at h12 ⊢
  by_cases z:12<=(kp w).length
  ·rw[wL z]
   have h1:=h.le z
   have h2:¬ (kp w).length=27+8*szB (kp w):=fun y=>c (h.five ⟨z,y⟩)
   omega
  ·omega
theorem On.next {w:List Int}{b:Int}(h:On w)(hm:ans (w++[b])="more"):On (w++[b]):=by
 have h1:¬ 5<run (w++[b]):=fun z=>by
  rw[jF z]at hm;exact absurd hm (by decide +kernel)
 refine⟨h.good.snoc (by omega),h.le',fun hc=>YB fun z=>?_⟩
 have h2:¬ (run (w++[b])=5\/¬ CmpB (kp (w++[b]))):=fun y=>y.elim z fun x=>x hc
 by_cases r:rst (kp (w++[b]))=0
 ·rw[iK h1 h2 r]at hm;exact absurd hm (by decide +kernel)
 ·rw[nU h1 h2 r]at hm;exact absurd hm (by decide +kernel)
def spWireOf (K:W.Frag)(C:Addr):Sp:=fun vs H Q E=>∃(n:Int)(a:Addr)(ds:List Int),vs= [.int n,.ref a]/\SqL K H a (ds.map V.int)/\ds.length<=500/\(FrOk n ds->∀p H',H p=none->Same H H'->H' p=some (.lst ((put (fb n ds)).map V.int))->Q (.ref p) H')/\(¬ FrOk n ds->∀H',Same H H'->E (.ref C) none H')
def spVotes (C:Addr):Sp:=fun vs H Q E=>∃v:Int,vs= [.int v]/\((v=1\/v=3\/v=5)->Q .non H)/\(¬ (v=1\/v=3\/v=5)->E (.ref C) none H)
theorem lN (v:Int):decide (v∈ [(1:Int),3,5])=true↔(v=1\/v=3\/v=5):=by
 rw[decide_eq_true_iff]
 simp
structure TCl (K:W.Frag)(C:Addr):Prop where
 cls:Cls K C
 n1:NoAttr K C "votes"
 n2:NoAttr K C "spoke"
 n3:NoAttr K C "over"
 n4:NoAttr K C "noughts"
abbrev tlF (v:Nat)(s:Bool)(o n:Nat):List (Str×V):=[("votes",.int v),("spoke",.bl s),("over",.int o),("noughts",.int n)]
def TlAt (C1 C2:Addr)(H:Hp)(t:Addr)(v:Nat)(s:Bool)(o n:Nat):Prop:=∃C dx,(C=C1\/C=C2)/\H t=some (.ins C dx (tlF v s o n))
theorem TlAt.same {C1 C2:Addr}{H H':Hp}{t:Addr}{v:Nat}{s:Bool}{o n:Nat}(h:TlAt C1 C2 H t v s o n)(g:Same H H'):TlAt C1 C2 H' t v s o n:=let ⟨C,dx,c,e⟩:=h;⟨C,dx,c,g _ _ e⟩
def tlSays (s:Bool)(o:Nat):Int:=if o=1/\s=false then 0 else 1
def tlFault (s:Bool)(o:Nat)(b:Int):Bool:=if o=1 then s && decide (b=1) else decide (b=0)
def tlN (o:Nat)(b:Int)(n:Nat):Nat:=if 9<=o/\b=0 then n+1 else n
def tlVote (v o n:Nat):Str:=if o<9+v then ("more":Str) else if v / 2<n then ("refused":Str) else ("taken":Str)
def tlWord (v:Nat)(s:Bool)(o n:Nat)(b:Int):Str:=if 9<=o then tlVote v (o+1) (tlN o b n) else if tlFault s o b=true then ("fault":Str) else ("more":Str)
def But1 (H H':Hp)(t:Addr):Prop:=∀x o,x≠t->H x=some o->H' x=some o
def spTlInit (K:W.Frag)(C1 C2:Addr):Sp:=fun vs H Q _=>∃(t C dx:Addr)(v:Nat)(s:Bool),vs= [.ref t,.int v,.bl s]/\(C=C1\/C=C2)/\H t=some (.ins C dx [])/\Q .non (upd H t (.ins C dx (tlF v s 0 0)))
def spTlMake (C:Addr)(s:Bool):Sp:=fun vs H Q _=>∃(t dx:Addr)(v:Nat),vs= [.ref t,.int v]/\H t=some (.ins C dx [])/\∀H',H'=upd H t (.ins C dx (tlF v s 0 0))->Q .non H'
def spTlSays (C1 C2:Addr):Sp:=fun vs H Q _=>∃t v s o n,vs= [.ref t]/\TlAt C1 C2 H t v s o n/\Q (.int (tlSays s o)) H
def spTlPlace (C1 C2:Addr):Sp:=fun vs H Q _=>∃t v s o n,vs= [.ref t]/\TlAt C1 C2 H t v s o n/\Q (.int ((o:Nat):Int)) H
def spTlFault (C1 C2:Addr):Sp:=fun vs H Q _=>∃t v s o n,∃(a:Nat)(b:Int),vs= [.ref t,.int ((a:Nat):Int),.int b]/\TlAt C1 C2 H t v s o n/\Q (.bl (tlFault s a b)) H
def spTlJudge (C1 C2:Addr):Sp:=fun vs H Q _=>∃t v s o n,∃b:Int,vs= [.ref t,.int b]/\TlAt C1 C2 H t v s o n/\∀H',TlAt C1 C2 H' t v s o (if b=0 then n+1 else n)->But1 H H' t->Q (.str (tlVote v o (if b=0 then n+1 else n))) H'
def spTlHear (C1 C2:Addr):Sp:=fun vs H Q _=>∃t v s o n,∃b:Int,vs= [.ref t,.int b]/\TlAt C1 C2 H t v s o n/\∀H',TlAt C1 C2 H' t v s (o+1) (tlN o b n)->But1 H H' t->Q (.str (tlWord v s o n b)) H'
theorem fH {K:W.Frag}{C C1 C2:Addr}(h1:TCl K C1)(h2:TCl K C2)(h:C=C1\/C=C2):TCl K C:=h.elim (fun z=>z▸h1) (fun z=>z▸h2)
theorem lG {K:W.Frag}{C C1 C2 fa:Addr}{m:Str}(h1:Meth K C1 m fa)(h2:Meth K C2 m fa)(h:C=C1\/C=C2):Meth K C m fa:=h.elim (fun z=>z▸h1) (fun z=>z▸h2)
abbrev ctF (n:Int):List (Str×V):=[("total",.int n)]
def CtAt (C:Addr)(H:Hp)(a:Addr)(n:Int):Prop:=∃dx,H a=some (.ins C dx (ctF n))
def spCtInit (C:Addr):Sp:=fun vs H Q _=>∃a dx,vs= [.ref a]/\H a=some (.ins C dx [])/\Q .non (upd H a (.ins C dx (ctF 0)))
def spCtB (C:Addr)(lim:Int):Sp:=fun vs H Q _=>∃a n,vs= [.ref a]/\CtAt C H a n/\Q (.bl (decide (lim<=n))) H
def spCtN (C:Addr):Sp:=fun vs H Q _=>∃a n,vs= [.ref a]/\CtAt C H a n/\Q (.int n) H
def mvd (n st:Int):Int:=if 18<=n then n else max 0 (n+st)
def spCtMove (C:Addr):Sp:=fun vs H Q _=>∃a n st,vs= [.ref a,.int st]/\CtAt C H a n/\∀H',CtAt C H' a (mvd n st)->(∀b,b≠a->H' b=H b)->Q .non H'
def spCtFault (C:Addr):Sp:=fun vs H Q _=>∃a n b,vs= [.ref a,.bl b]/\CtAt C H a n/\∀H',CtAt C H' a (mvd n (if b=true then 8 else 1))->(∀b,b≠a->H' b=H b)->Q .non H'
def spCtStep (C:Addr)(st:Int):Sp:=fun vs H Q _=>∃a n,vs= [.ref a]/\CtAt C H a n/\∀H',CtAt C H' a (mvd n st)->(∀b,b≠a->H' b=H b)->Q .non H'
abbrev Own:=Addr->Prop
def isT (o:HO):Prop:=∃vs,o= .tup vs
def Keep (o:Own)(H H':Hp):Prop:=∀x v,H x=some v->(¬ o x\/isT v)->H' x=some v
def Mv (o:Own)(H:Hp)(o':Own)(H':Hp):Prop:=Keep o H H'/\∀x,o' x->o x\/H x=none
abbrev Or2 (a b:Own):Own:=fun x=>a x\/b x
theorem Keep.of {o:Own}{H H':Hp}(g:Same H H'):Keep o H H':=fun x v e _=>g x v e
theorem Keep.refl {o:Own}{H:Hp}:Keep o H H:=fun _ _ e _=>e
theorem Keep.tup {o:Own}{H H':Hp}{x:Addr}{vs:List V}(k:Keep o H H')(e:H x=some (.tup vs)):H' x=some (.tup vs):=k x _ e (.inr ⟨vs,rfl⟩)
theorem Keep.le {o o':Own}{H H':Hp}(k:Keep o H H')(h:∀x,o x->o' x):Keep o' H H':=fun x v e z=>k x v e (z.elim (fun y=> .inl fun w=>y (h x w)) .inr)
theorem Mv.refl {o:Own}{H:Hp}:Mv o H o H:=⟨Keep.refl,fun _=> .inl⟩
theorem Mv.of {o:Own}{H H':Hp}(g:Same H H'):Mv o H o H':=⟨Keep.of g,fun _=> .inl⟩
theorem Mv.trans {o o1 o2:Own}{H H1 H2:Hp}(a:Mv o H o1 H1)(b:Mv o1 H1 o2 H2):Mv o H o2 H2:=by
 refine⟨fun x v e z=>b.1 x v (a.1 x v e z) ?_,fun x hx=>?_⟩
 ·rcases z with z | z
  ·exact .inl fun w=>(a.2 x w).elim z fun n=>by rw[n]at e;cases e
  ·exact .inr z
 ·rcases b.2 x hx with h | h
  ·exact a.2 x h
  ·rcases Classical.em (o x) with c | c
   ·exact .inl c
   ·right
    cases e:H x with
    |none=>rfl
    |some v=>rw[a.1 x v e (.inl c)]at h;cases h
theorem Mv.out {o o1:Own}{H H1:Hp}(a:Mv o H o1 H1){x:Addr}{v:HO}(e:H x=some v)(h:¬ o x):¬ o1 x:=fun w=>(a.2 x w).elim h fun n=>by rw[n]at e;cases e
structure Cs where
 (post count free speaks reads intail flag settles rests off reader streak rtail stail:Addr)
inductive Stc where
 |free (k:Nat) | speaks (n:Nat) (ds:List Int) (k:Nat) | reads (h:List Int) | tlS (v c:Nat) | tlR (n:Nat) (ds:List Int) (v c:Nat) | flag (l:Nat) (m:Bool) | settles (m:Bool) | rests (l:Nat) | off
abbrev Fr:=Nat×List Int
structure PS where
 (m1 m2 vt:Nat) (wt up:List Fr) (tot:Int) (now:Stc)
abbrev wr (n:Nat)(ds:List Int):List Int:=put (fb (n:Int) ds)
def Stc.shown:Stc->Str×Nat
 |.free k=>("free",k)
 |.speaks _ _ k=>("speaks",k)
 |.reads h=>("reads",h.length)
 |.tlS v _=>("tail speaks",v)
 |.tlR _ _ v _=>("tail reads",v)
 |.flag l _=>("flag",l)
 |.settles _=>("settles",0)
 |.rests l=>("rests",l)
 |.off=>("off",0)
def saysP (S:PS):Int:=match S.now with
 |.free k=>if S.wt= [] then 1 else if 12<=S.tot/\k<8 then 1 else 0
 |.speaks n ds k=>(wr n ds).getD k 0
 |.tlS v _=>tlSays true v
 |.tlR _ _ v _=>tlSays false v
 |.flag _ _=>0
 |_=>1
def goneP (S:PS)(st:Int)(w:Str)(nx:Stc):Str×PS:=if 18<=mvd S.tot st then ("off",{ S with tot:=mvd S.tot st,now:= .off }) else (w,{ S with tot:=mvd S.tot st,now:=nx })
def faultP (S:PS)(sp:Bool):Str×PS:=goneP S (if sp=true then 8 else 1) "fault" (.flag 6 (!sp))
def refuseP (S:PS)(sp:Bool):Str×PS:=goneP S (if sp=true then 8 else 1) "refuses" (.settles false)
def blameP (S:PS):Str×PS:=goneP S 8 "" (.settles false)
def wantP (S:PS)(n:Nat):Bool:=decide (Builtin.bitAnd ((n:Nat):Int) ((S.m1:Nat):Int)=((S.m2:Nat):Int))
def hearP (S:PS)(b:Int):Str×PS:=match S.now with
 |.free k=>if saysP S=0 then (if b=0 then ("begins",{ S with now:= .speaks (S.wt.headD (0, [])).1 (S.wt.headD (0, [])).2 1 }) else faultP S true) else if b=0 then ("",{ S with now:= .reads [0] }) else ("",{ S with now:= .free (k+1) })
 |.speaks n ds k=>if ans ((wr n ds).take k++[b])="six" then faultP S true else if (wr n ds).getD k 0=1/\b=0/\(kp ((wr n ds).take k)).length<9 then ("loses",{ S with now:= .reads ((wr n ds).take k++[b]) }) else if b=(wr n ds).getD k 0 then (if k+1=(wr n ds).length then ("",{ S with now:= .tlS 0 0 }) else ("",{ S with now:= .speaks n ds (k+1) })) else faultP S true
 |.reads h=>if ans (h++[b])="more" then ("",{ S with now:= .reads (h++[b]) }) else if ans (h++[b])="whole" then ("",{ S with now:= .tlR (nmB (kp (h++[b]))) (daB (kp (h++[b]))) 0 0 }) else faultP S false
 |.tlS v c=>if tlWord S.vt true v c b="more" then ("",{ S with now:= .tlS (v+1) (tlN v b c) }) else if tlWord S.vt true v c b="fault" then faultP S true else if tlWord S.vt true v c b="refused" then refuseP S true else ("done",{ S with tot:=mvd S.tot (-1),wt:=S.wt.tail,now:= .rests 3 })
 |.tlR n ds v c=>if tlWord S.vt false v c b="more" then ("",{ S with now:= .tlR n ds (v+1) (tlN v b c) }) else if tlWord S.vt false v c b="fault" then faultP S false else if tlWord S.vt false v c b="refused" then refuseP S false else ("takes",{ S with tot:=mvd S.tot (-1),up:=if wantP S n=true then S.up++[(n,ds)] else S.up,now:= .rests 3 })
 |.flag l m=>if l=1 then ("",{ S with now:= .settles m }) else ("",{ S with now:= .flag (l-1) m })
 |.settles m=>if b=1 then ("",{ S with now:= .rests 3 }) else if m=true then blameP S else ("",S)
 |.rests l=>if b=0 then faultP S false else ("",{ S with now:=if l=1 then .free 0 else .rests (l-1) })
 |.off=>("",S)
def FrN (f:Fr):Prop:=f.1<256/\f.2.length<=7/\f.2.all byt=true
theorem FrN.ok {f:Fr}(h:FrN f):FrOk (f.1:Int) f.2:=⟨dJ.mpr ⟨by omega,by have:=h.1;omega⟩,h.2.1,h.2.2⟩
def Stc.Wf (wt:List Fr):Stc->Prop
 |.speaks n ds k=>FrN (n,ds)/\1<=k/\k<(wr n ds).length/\wt≠ []
 |.reads h=>Bits h/\On h/\h.head? =some 0
 |.tlS _ _=>wt≠ []
 |.flag l _=>1<=l
 |.rests l=>1<=l
 |_=>True
structure Wf (S:PS):Prop where
 vt:S.vt<=5
 wt:∀f∈S.wt,FrN f
 now:S.now.Wf S.wt
theorem nm3 {l:List Int}(hb:Bits l):szB l<=7:=by
 unfold szB
 have h:=oZ (fV hb 9 3)
 have h2:((l.drop 9).take 3).length<=3:=by rw[Yo];omega
 have h3:=Ys (n:=2) (by decide) h2
 have:(2:Nat) ^ 3=8:=rfl
 omega
theorem a4P {h:List Int}(hb:Bits h)(ho:On h):h.length<=170:=by
 have e:=wW hb ho.good
 have l:=(fZ (kp h)).2
 have s:=nm3 (nA hb)
 have k83:(kp h).length<=83:=by
  by_cases c:12<=(kp h).length
  ·have:=ho.le c;omega
  ·omega
 have:h.length<=(put (kp h)).length:=by
  rw[e]
  split
  ·rw[Yc];omega
  ·exact Yd _
 omega
theorem gK {n:Nat}{ds:List Int}(h:FrN (n,ds)):Wr (wr n ds) (fb (n:Int) ds):=⟨rfl,tD _ _,a6Q h.1 h.2.1⟩
theorem iC {n:Nat}{ds:List Int}(h:FrN (n,ds)):27<=(wr n ds).length/\(wr n ds).length<=166:=by
 have a:=iJ (n:Int) ds
 have b:=fZ (fb (n:Int) ds)
 have c:=h.2.1
 have c':ds.length<=7:=c
 show 27<=(put (fb (n:Int) ds)).length/\(put (fb (n:Int) ds)).length<=166
 omega
theorem rH (n:Nat)(ds:List Int):(wr n ds).head? =some 0:=by
 show (put (fb (n:Int) ds)).head? =some 0
 rw[wX]
 unfold fb hd hdD
 rfl
theorem qC {n:Nat}{ds:List Int}:(wr n ds).take 1= [0]:=by
 have:=rH n ds
 generalize wr n ds=w at this
 cases w with
 |nil=>cases this
 |cons a b=>exact YF (fun y=>[y]) (Yt this)
theorem a2W {n:Nat}{ds:List Int}(h:FrN (n,ds)):∀k,k<(wr n ds).length->On ((wr n ds).take k)
 |0,_=>On.nil
 | k+1,hk=>by
  have ih:=a2W h k (by omega)
  have e:(wr n ds).take (k+1)=(wr n ds).take k++[(wr n ds)[k]]:=Yf (by omega)
  have m:=(gK h).more hk
  rw[e]at m ⊢
  exact ih.next m
theorem uU {w:List Int}{b:Int}(h6:¬ ans (w++[b])="six")(h9:(kp w).length<9):ans (w++[b])="more":=by
 have h1:¬ 5<run (w++[b]):=fun z=>h6 (jF z)
 refine fX h1 (.inr fun c=>?_)
 have:=c.1
 rw[cX]at this
 split at this
 ·omega
 ·rw[Yc,Yu]at this;omega
theorem kJ {S:PS}{st:Int}{w:Str}{nx:Stc}(h:Wf S)(hn:nx.Wf S.wt):Wf (goneP S st w nx).2:=by
 unfold goneP
 split
 ·exact⟨h.vt,h.wt,trivial⟩
 ·exact⟨h.vt,h.wt,hn⟩
theorem Wf.hear {S:PS}{b:Int}(h:Wf S)(hb:b=0\/b=1):Wf (hearP S b).2:=by
 have hf:∀sp,Wf (faultP S sp).2:=fun sp=>kJ h (by show 1<=6;decide)
 have hr:∀sp,Wf (refuseP S sp).2:=fun sp=>kJ h trivial
 have hn:=h.now
 unfold hearP
 cases e:S.now with
 | free k =>
  dsimp only
  split
  ·rename_i c
   split
   ·refine⟨h.vt,h.wt,?_⟩
    have hw:S.wt≠ []:=fun z=>by
     unfold saysP at c
     rw[e]at c
     dsimp only at c
     rw[if_pos z]at c
     cases c
    cases ew:S.wt with
    |nil=>exact absurd ew hw
    | cons f r=>
     have hfn:=h.wt f (by rw[ew];exact YN)
     have:=iC (n:=f.1) (ds:=f.2) hfn
     exact⟨hfn,Yd _,by show 1<(wr f.1 f.2).length;omega,by intro z;cases z⟩
   ·exact hf true
  ·split
   ·refine⟨h.vt,h.wt,⟨fun z hz=> .inl (Yp.mp hz),?_,rfl⟩⟩
    exact On.nil.next (b:=0) (by decide +kernel)
   ·exact⟨h.vt,h.wt,trivial⟩
 | speaks n ds k=>
  rw[e]at hn
  obtain⟨f1,f2,f3,f4⟩:=hn
  dsimp only
  split
  ·exact hf true
  rename_i c6
  split
  ·rename_i c
   have ho:=a2W f1 k f3
   refine⟨h.vt,h.wt,⟨?_,ho.next (uU c6 c.2.2),?_⟩⟩
   ·exact fW (mJ (gK f1).wbits) (fun z hz=>by rw[Yp.mp hz];exact hb)
   ·have hh:=rH n ds
    generalize wr n ds=w at hh f3
    cases w with
    |nil=>cases hh
    | cons x y=>
     cases k with
     |zero=>cases f2
     |succ k=>exact hh
  split
  ·split
   ·exact⟨h.vt,h.wt,f4⟩
   ·exact⟨h.vt,h.wt,⟨f1,by omega,by omega,f4⟩⟩
  ·exact hf true
 | reads r=>
  rw[e]at hn
  obtain⟨f1,f2,f3⟩:=hn
  dsimp only
  split
  ·rename_i c
   refine⟨h.vt,h.wt,⟨fW f1 (fun z hz=>by rw[Yp.mp hz];exact hb),f2.next c,?_⟩⟩
   rw[Y7,f3];rfl
  split
  ·exact⟨h.vt,h.wt,trivial⟩
  ·exact hf false
 | tlS v c=>
  rw[e]at hn
  dsimp only
  split
  ·exact⟨h.vt,h.wt,hn⟩
  split
  ·exact hf true
  split
  ·exact hr true
  ·exact⟨h.vt,fun f hf=>h.wt f (List.mem_of_mem_tail hf),by show 1<=3;decide⟩
 | tlR n ds v c=>
  dsimp only
  split
  ·exact⟨h.vt,h.wt,trivial⟩
  split
  ·exact hf false
  split
  ·exact hr false
  ·exact⟨h.vt,h.wt,by show 1<=3;decide⟩
 | flag l m=>
  rw[e]at hn
  have hl:1<=l:=hn
  dsimp only
  split
  ·exact⟨h.vt,h.wt,trivial⟩
  ·exact⟨h.vt,h.wt,by show 1<=l-1;omega⟩
 | settles m=>
  dsimp only
  split
  ·exact⟨h.vt,h.wt,by show 1<=3;decide⟩
  split
  ·exact kJ h trivial
  ·exact h
 | rests l=>
  rw[e]at hn
  have hl:1<=l:=hn
  dsimp only
  split
  ·exact hf false
  ·refine⟨h.vt,h.wt,?_⟩
   show Stc.Wf S.wt (if l=1 then .free 0 else .rests (l-1))
   split
   ·trivial
   ·show 1<=l-1;omega
 |off=>exact h
def FrAt (H:Hp)(o:Own)(t:Addr)(f:Fr):Prop:=∃d,H t=some (.tup [.int ((f.1:Nat):Int),.ref d])/\H d=some (.lst (f.2.map V.int))/\o d
inductive FrsAt (H:Hp)(o:Own):List V->List Fr->Prop
 |nil:FrsAt H o [] []
 |cons {t:Addr} {f:Fr} {ts:List V} {fs:List Fr}:FrAt H o t f->FrsAt H o ts fs->FrsAt H o (.ref t::ts) (f::fs)
theorem FrsAt.len {H:Hp}{o:Own}:∀{ts:List V}{fs:List Fr},FrsAt H o ts fs->ts.length=fs.length
 |_,_,.nil=>rfl
 |_,_,.cons _ r=>YF (·+1) r.len
theorem FrsAt.snoc {H:Hp}{o:Own}{t:Addr}{f:Fr}:∀{ts:List V}{fs:List Fr},FrsAt H o ts fs->FrAt H o t f->FrsAt H o (ts++[.ref t]) (fs++[f])
 |_,_,.nil,h=> .cons h .nil
 |_,_,.cons a r,h=> .cons a (r.snoc h)
theorem FrAt.imp {H H':Hp}{o o':Own}{t:Addr}{f:Fr}(h:FrAt H o t f)(g:∀x v,H x=some v->(o x\/isT v)->H' x=some v)(w:∀x,o x->o' x):FrAt H' o' t f:=by
 obtain⟨d,e1,e2,e3⟩:=h
 exact⟨d,g _ _ e1 (.inr ⟨_,rfl⟩),g _ _ e2 (.inl e3),w d e3⟩
theorem FrsAt.imp {H H':Hp}{o o':Own}(g:∀x v,H x=some v->(o x\/isT v)->H' x=some v)(w:∀x,o x->o' x):∀{ts:List V}{fs:List Fr},FrsAt H o ts fs->FrsAt H' o' ts fs
 |_,_,.nil=> .nil
 |_,_,.cons a r=> .cons (a.imp g w) (r.imp g w)
theorem FrsAt.get {H:Hp}{o:Own}:∀{ts:List V}{fs:List Fr},FrsAt H o ts fs->∀{i:Nat}{v:V},ts[i]? =some v->∃t f,v= .ref t/\fs[i]? =some f/\FrAt H o t f
 |_,_,.cons a _,0,_,rfl=>⟨_,_,rfl,rfl,a⟩
 |_,_,.cons _ r,i+1,_,h=>r.get (i:=i) h
abbrev pF (ch:Addr)(vt:Nat)(wl ul ct nw:Addr):List (Str×V):=[("choice",.ref ch),("votes",.int vt),("waiting",.ref wl),("handed_up",.ref ul),("tally",.ref ct),("now",.ref nw)]
abbrev Dl (o:Own)(wl ul:Addr):Own:=fun x=>o x/\x≠wl/\x≠ul
structure BAt (A:Cs)(H:Hp)(p nwf:Addr)(S:PS)(o:Own)(dx ch wl ul ct:Addr)(ws us:List V):Prop where
 e:H p=some (.ins A.post dx (pF ch S.vt wl ul ct nwf))
 ec:H ch=some (.tup [.int S.m1,.int S.m2])
 ew:H wl=some (.lst ws)
 fw:FrsAt H (Dl o wl ul) ws S.wt
 eu:H ul=some (.lst us)
 fu:FrsAt H (Dl o wl ul) us S.up
 et:CtAt A.count H ct S.tot
 op:o p
 ow:o wl
 ou:o ul
 ot:o ct
 ne:wl≠ul
 al:∀x,o x->H x≠none
def Bd (A:Cs)(H:Hp)(p nwf:Addr)(S:PS)(o:Own):Prop:=∃dx ch wl ul ct ws us,BAt A H p nwf S o dx ch wl ul ct ws us
theorem BAt.move {A:Cs}{H H':Hp}{p nwf:Addr}{S:PS}{o:Own}{dx ch wl ul ct:Addr}{ws us:List V}(h:BAt A H p nwf S o dx ch wl ul ct ws us)(g:∀x v,H x=some v->(o x\/isT v)->H' x=some v):BAt A H' p nwf S o dx ch wl ul ct ws us:=
 ⟨g _ _ h.e (.inl h.op),g _ _ h.ec (.inr ⟨_,rfl⟩),g _ _ h.ew (.inl h.ow),h.fw.imp (fun x v e z=>g x v e (z.imp_left And.left)) fun _ z=>z,g _ _ h.eu (.inl h.ou),h.fu.imp (fun x v e z=>g x v e (z.imp_left And.left)) fun _ z=>z,
  let ⟨d,e⟩:=h.et;⟨d,g _ _ e (.inl h.ot)⟩,h.op,h.ow,h.ou,h.ot,h.ne,fun x hx=>by
   have:=h.al x hx
   cases e:H x with
   |none=>exact absurd e this
   |some v=>rw[g x v e (.inl hx)];simp⟩
theorem Bd.move {A:Cs}{H H':Hp}{p nwf:Addr}{S:PS}{o:Own}(h:Bd A H p nwf S o)(g:∀x v,H x=some v->(o x\/isT v)->H' x=some v):Bd A H' p nwf S o:=
 let ⟨dx,ch,wl,ul,ct,ws,us,b⟩:=h;⟨dx,ch,wl,ul,ct,ws,us,b.move g⟩
theorem Bd.al {A:Cs}{H:Hp}{p nwf:Addr}{S:PS}{o:Own}(h:Bd A H p nwf S o):∀x,o x->H x≠none:=let ⟨_,_,_,_,_,_,_,b⟩:=h;b.al
theorem Bd.op {A:Cs}{H:Hp}{p nwf:Addr}{S:PS}{o:Own}(h:Bd A H p nwf S o):o p:=let ⟨_,_,_,_,_,_,_,b⟩:=h;b.op
theorem Bd.now {A:Cs}{H:Hp}{p nwf:Addr}{S S':PS}{o:Own}(h:Bd A H p nwf S o)(e1:S'.m1=S.m1)(e2:S'.m2=S.m2)(e3:S'.vt=S.vt)(e4:S'.wt=S.wt)(e5:S'.up=S.up)(e6:S'.tot=S.tot):Bd A H p nwf S' o:=by
 obtain⟨dx,ch,wl,ul,ct,ws,us,b⟩:=h
 exact⟨dx,ch,wl,ul,ct,ws,us,by rw[e3];exact b.e,by rw[e1,e2];exact b.ec,b.ew,by rw[e4];exact b.fw,b.eu,by rw[e5];exact b.fu,by rw[e6];exact b.et,b.op,b.ow,b.ou,b.ot,b.ne,b.al⟩
def StAt (A:Cs)(H:Hp)(nw:Addr)(vt:Nat)(o:Own):Stc->Prop
 |.free k=>∃dx,H nw=some (.ins A.free dx [("since",.int ((k:Nat):Int))])
 |.speaks n ds k=>∃dx wa r st ks t,H nw=some (.ins A.speaks dx [("wire",.ref wa),("reader",.ref r),("many",.int ((k:Nat):Int))])/\H wa=some (.lst ((wr n ds).map V.int))/\RdAt A.reader A.streak H r st ks ((wr n ds).take k) t/\wa≠ks/\o wa/\o r/\o st/\o ks
 |.reads h=>∃dx r st ks t,H nw=some (.ins A.reads dx [("reader",.ref r),("many",.int ((h.length:Nat):Int))])/\RdAt A.reader A.streak H r st ks h t/\o r/\o st/\o ks
 |.tlS v c=>∃dx tl,H nw=some (.ins A.intail dx [("tail",.ref tl),("found",.non)])/\TlAt A.rtail A.stail H tl vt true v c/\o tl
 |.tlR n ds v c=>∃dx tl t d,H nw=some (.ins A.intail dx [("tail",.ref tl),("found",.ref t)])/\TlAt A.rtail A.stail H tl vt false v c/\H t=some (.tup [.int ((n:Nat):Int),.ref d])/\H d=some (.lst (ds.map V.int))/\o tl/\o d
 |.flag l m=>∃dx,H nw=some (.ins A.flag dx [("left",.int ((l:Nat):Int)),("may_blame",.bl m)])
 |.settles m=>∃dx,H nw=some (.ins A.settles dx [("may_blame",.bl m)])
 |.rests l=>∃dx,H nw=some (.ins A.rests dx [("left",.int ((l:Nat):Int))])
 |.off=>∃dx,H nw=some (.ins A.off dx [])
structure StW (A:Cs)(H:Hp)(nw:Addr)(S:PS)(o:Own):Prop where
 at_:StAt A H nw S.vt o S.now
 on:o nw
 al:∀x,o x->H x≠none
theorem rQ {C CK:Addr}{H H':Hp}{r st ks:Addr}{w:List Int}{t:Str}(h:RdAt C CK H r st ks w t)(g1:∀v,H r=some v->H' r=some v)(g2:∀v,H st=some v->H' st=some v)(g3:∀v,H ks=some v->H' ks=some v):RdAt C CK H' r st ks w t:=
 ⟨let ⟨d,e⟩:=h.rd;⟨d,g1 _ e⟩,let ⟨d,e⟩:=h.sk;⟨d,g2 _ e⟩,g3 _ h.kp⟩
theorem StW.move {A:Cs}{H H':Hp}{nw:Addr}{S:PS}{o:Own}(h:StW A H nw S o)(g:∀x v,H x=some v->(o x\/isT v)->H' x=some v):StW A H' nw S o:=by
 obtain⟨a,on,al⟩:=h
 have gn:∀v,H nw=some v->H' nw=some v:=fun v e=>g _ _ e (.inl on)
 refine⟨?_,on,fun x hx=>?_⟩
 ·revert a
  generalize S.now=s
  cases s with
  |free k=>intro hh;obtain⟨dx,e⟩:=hh;exact⟨dx,gn _ e⟩
  |speaks n ds k=>intro hh;obtain⟨dx,wa,r,st,ks,t,e,e1,e2,e3,o1,o2,o3,o4⟩:=hh;exact⟨dx,wa,r,st,ks,t,gn _ e,g _ _ e1 (.inl o1),rQ e2 (fun v z=>g _ _ z (.inl o2)) (fun v z=>g _ _ z (.inl o3)) (fun v z=>g _ _ z (.inl o4)),e3,o1,o2,o3,o4⟩
  |reads w=>intro hh;obtain⟨dx,r,st,ks,t,e,e2,o2,o3,o4⟩:=hh;exact⟨dx,r,st,ks,t,gn _ e,rQ e2 (fun v z=>g _ _ z (.inl o2)) (fun v z=>g _ _ z (.inl o3)) (fun v z=>g _ _ z (.inl o4)),o2,o3,o4⟩
  |tlS v c=>intro hh;obtain⟨dx,tl,e,⟨C,d,hC,e1⟩,o1⟩:=hh;exact⟨dx,tl,gn _ e,⟨C,d,hC,g _ _ e1 (.inl o1)⟩,o1⟩
  |tlR n ds v c=>intro hh;obtain⟨dx,tl,t,d,e,⟨C,d',hC,e1⟩,e2,e3,o1,o2⟩:=hh;exact⟨dx,tl,t,d,gn _ e,⟨C,d',hC,g _ _ e1 (.inl o1)⟩,g _ _ e2 (.inr ⟨_,rfl⟩),g _ _ e3 (.inl o2),o1,o2⟩
  |flag l m=>intro hh;obtain⟨dx,e⟩:=hh;exact⟨dx,gn _ e⟩
  |settles m=>intro hh;obtain⟨dx,e⟩:=hh;exact⟨dx,gn _ e⟩
  |rests l=>intro hh;obtain⟨dx,e⟩:=hh;exact⟨dx,gn _ e⟩
  |off=>intro hh;obtain⟨dx,e⟩:=hh;exact⟨dx,gn _ e⟩
 ·have:=al x hx
  cases e:H x with
  |none=>exact absurd e this
  |some v=>rw[g x v e (.inl hx)];simp
def PostAt (A:Cs)(H:Hp)(p:Addr)(S:PS)(o:Own):Prop:=∃nw ob os,Bd A H p nw S ob/\StW A H nw S os/\(∀x,ob x->os x->False)/\Wf S/\(∀x,ob x\/os x->o x)/\∀x,o x->H x≠none
theorem PostAt.move {A:Cs}{H H':Hp}{p:Addr}{S:PS}{o:Own}(h:PostAt A H p S o)(g:∀x v,H x=some v->(o x\/isT v)->H' x=some v):PostAt A H' p S o:=by
 obtain⟨nw,ob,os,b,s,d,w,i,al⟩:=h
 refine⟨nw,ob,os,b.move fun x v e z=>g x v e (z.imp_left fun y=>i x (.inl y)),s.move fun x v e z=>g x v e (z.imp_left fun y=>i x (.inr y)),d,w,i,fun x hx=>?_⟩
 have:=al x hx
 cases e:H x with
 |none=>exact absurd e this
 |some v=>rw[g x v e (.inl hx)];simp
theorem PostAt.same {A:Cs}{H H':Hp}{p:Addr}{S:PS}{o:Own}(h:PostAt A H p S o)(g:Same H H'):PostAt A H' p S o:=h.move fun x v e _=>g x v e
theorem PostAt.wf {A:Cs}{H:Hp}{p:Addr}{S:PS}{o:Own}(h:PostAt A H p S o):Wf S:=let ⟨_,_,_,_,_,_,w,_,_⟩:=h;w
theorem PostAt.al {A:Cs}{H:Hp}{p:Addr}{S:PS}{o:Own}(h:PostAt A H p S o):∀x,o x->H x≠none:=let ⟨_,_,_,_,_,_,_,_,a⟩:=h;a
theorem at0 {v:V}{vs:List V}:atI (v::vs) (0:Int)=some v:=bV (j:=0) rfl
theorem sq0 {v:V}{vs:List V}:seqIndex? (0:Int) (v::vs).length=some 0:=by
 unfold seqIndex?
 rw[YW]
 simp
theorem eO (H:Hp)(a:Addr)(x y:HO):upd (upd H a x) a y=upd H a y:=by
 funext z
 by_cases h:z=a
 ·rw[h,aB,aB]
 ·rw[aL h,aL h,aL h]
def spIni1 (C:Addr)(f:Str):Sp:=fun vs H Q _=>∃a dx v,vs= [.ref a,v]/\H a=some (.ins C dx [])/\∀H',H'=upd H a (.ins C dx [(f,v)])->Q .non H'
def spIni2 (C:Addr)(f g:Str):Sp:=fun vs H Q _=>∃a dx v w,vs= [.ref a,v,w]/\H a=some (.ins C dx [])/\∀H',H'=upd H a (.ins C dx [(f,v),(g,w)])->Q .non H'
def spIni3 (C:Addr)(f g h:Str):Sp:=fun vs H Q _=>∃a dx v w z,vs= [.ref a,v,w,z]/\H a=some (.ins C dx [])/\∀H',H'=upd H a (.ins C dx [(f,v),(g,w),(h,z)])->Q .non H'
def spBegun (A:Cs):Sp:=fun vs H Q _=>vs= []/\∀r st ks H' t,RdAt A.reader A.streak H' r st ks [0] t->Same H H'->H r=none->H st=none->H ks=none->Q (.ref r) H'
def spBdB (A:Cs)(lim:Int):Sp:=fun vs H Q _=>∃p nwf S o,vs= [.ref p]/\Bd A H p nwf S o/\Q (.bl (decide (lim<=S.tot))) H
def spBdN (A:Cs):Sp:=fun vs H Q _=>∃p nwf S o,vs= [.ref p]/\Bd A H p nwf S o/\Q (.int S.tot) H
def spHas (A:Cs):Sp:=fun vs H Q _=>∃p nwf S o,vs= [.ref p]/\Bd A H p nwf S o/\Q (.bl (decide (0<(S.wt.length:Int)))) H
def spForemost (A:Cs):Sp:=fun vs H Q _=>∃p nwf S o f r,vs= [.ref p]/\Bd A H p nwf S o/\S.wt=f::r/\FrN f/\∀pw H',H pw=none->Same H H'->H' pw=some (.lst ((wr f.1 f.2).map V.int))->Q (.ref pw) H'
def spDrop (A:Cs):Sp:=fun vs H Q _=>∃p nwf S o,vs= [.ref p]/\Bd A H p nwf S o/\S.wt≠ []/\∀H',Bd A H' p nwf { S with wt:=S.wt.tail } o->Keep o H H'->Q .non H'
def spHandUp (A:Cs):Sp:=fun vs H Q _=>∃p nwf S o t d n ds,vs= [.ref p,.ref t]/\Bd A H p nwf S o/\H t=some (.tup [.int ((n:Nat):Int),.ref d])/\H d=some (.lst (ds.map V.int))/\¬ o d/\S.up.length<900/\
 ∀H',Bd A H' p nwf { S with up:=if wantP S n=true then S.up++[(n,ds)] else S.up } (Or2 o fun x=>x=d)->Keep o H H'->Q .non H'
def spHand (K:W.Frag)(A:Cs)(C:Addr):Sp:=fun vs H Q E=>∃p nwf S o n a ds,vs= [.ref p,.int n,.ref a]/\Bd A H p nwf S o/\SqL K H a (ds.map V.int)/\ds.length<=500/\S.wt.length<900/\
 (FrOk n ds->∀H' d,H d=none->Bd A H' p nwf { S with wt:=S.wt++[(n.toNat,ds)] } (Or2 o fun x=>x=d)->Keep o H H'->Q .non H')/\(¬ FrOk n ds->∀H',Same H H'->E (.ref C) none H')
inductive FrsNew (H H':Hp):List V->List Fr->Prop
 |nil:FrsNew H H' [] []
 |cons {t d:Addr} {f:Fr} {ts:List V} {fs:List Fr}:H t=none->H d=none->H' t=some (.tup [.int ((f.1:Nat):Int),.ref d])->H' d=some (.lst (f.2.map V.int))->FrsNew H H' ts fs->FrsNew H H' (.ref t::ts) (f::fs)
theorem FrsNew.snoc {H H':Hp}{t d:Addr}{f:Fr}(h1:H t=none)(h2:H d=none)(e1:H' t=some (.tup [.int ((f.1:Nat):Int),.ref d]))(e2:H' d=some (.lst (f.2.map V.int))):∀{ts:List V}{fs:List Fr},FrsNew H H' ts fs->FrsNew H H' (ts++[.ref t]) (fs++[f])
 |_,_,.nil=> .cons h1 h2 e1 e2 .nil
 |_,_,.cons a1 a2 a3 a4 r=> .cons a1 a2 a3 a4 (r.snoc h1 h2 e1 e2)
theorem FrsNew.same {H H' H2:Hp}(g:Same H' H2):∀{ts:List V}{fs:List Fr},FrsNew H H' ts fs->FrsNew H H2 ts fs
 |_,_,.nil=> .nil
 |_,_,.cons a1 a2 a3 a4 r=> .cons a1 a2 (g _ _ a3) (g _ _ a4) (r.same g)
theorem FrsNew.len {H H':Hp}:∀{ts:List V}{fs:List Fr},FrsNew H H' ts fs->ts.length=fs.length
 |_,_,.nil=>rfl
 |_,_,.cons _ _ _ _ r=>YF (·+1) r.len
def spCopies (K:W.Frag):Sp:=fun vs H Q _=>∃(a:Addr)(ts:List V)(fs:List Fr)(o:Own),vs= [.ref a]/\H a=some (.lst ts)/\FrsAt H o ts fs/\fs.length<=900/\∀l xs H',H l=none->Same H H'->H' l=some (.lst xs)->FrsNew H H' xs fs->Q (.ref l) H'
def spWaits (A:Cs):Sp:=fun vs H Q _=>∃p nwf S o,vs= [.ref p]/\Bd A H p nwf S o/\S.wt.length<=900/\∀l xs H',H l=none->Same H H'->H' l=some (.lst xs)->FrsNew H H' xs S.wt->Q (.ref l) H'
def spGot (A:Cs):Sp:=fun vs H Q _=>∃p nwf S o,vs= [.ref p]/\Bd A H p nwf S o/\S.up.length<=900/\∀l xs H',H l=none->Same H H'->H' l=some (.lst xs)->FrsNew H H' xs S.up->Q (.ref l) H'
def spUnless (A:Cs):Sp:=fun vs H Q _=>∃p nwf S o w nx,vs= [.ref p,.str w,.ref nx]/\Bd A H p nwf S o/\(¬ 18<=S.tot->∀t H',Same H H'->H' t=some (.tup [.str w,.ref nx])->Q (.ref t) H')/\
 (18<=S.tot->∀t nw dx H',Same H H'->H nw=none->H' nw=some (.ins A.off dx [])->H' t=some (.tup [.str "off",.ref nw])->Q (.ref t) H')
def Aft (A:Cs)(H:Hp)(p nwf:Addr)(o:Own)(r:Str×PS)(t:Addr)(H':Hp):Prop:=∃nw' os',H' t=some (.tup [.str r.1,.ref nw'])/\Bd A H' p nwf r.2 o/\StW A H' nw' r.2 os'/\(∀x,os' x->H x=none)/\Keep o H H'
def Stp (A:Cs)(H:Hp)(p nwf:Addr)(ob os:Own)(r:Str×PS)(t:Addr)(H':Hp):Prop:=∃nw' ob' os',H' t=some (.tup [.str r.1,.ref nw'])/\Bd A H' p nwf r.2 ob'/\StW A H' nw' r.2 os'/\(∀x,ob' x->os' x->False)/\Mv (Or2 ob os) H (Or2 ob' os') H'
def spFault (A:Cs):Sp:=fun vs H Q _=>∃p nwf S o sp,vs= [.ref p,.bl sp]/\Bd A H p nwf S o/\∀t H',Aft A H p nwf o (faultP S sp) t H'->Q (.ref t) H'
def spRefusal (A:Cs):Sp:=fun vs H Q _=>∃p nwf S o sp,vs= [.ref p,.bl sp]/\Bd A H p nwf S o/\∀t H',Aft A H p nwf o (refuseP S sp) t H'->Q (.ref t) H'
theorem gR {o o':Own}{H H':Hp}{x:Addr}(k:Keep o H H')(n:H' x=none):o x\/H x=none:=by
 rcases Classical.em (o x) with c | c
 ·exact .inl c
 ·right
  cases e:H x with
  |none=>rfl
  |some v=>rw[k x v e (.inl c)]at n;cases n
theorem Aft.stp {A:Cs}{H0 H H':Hp}{p nwf t:Addr}{ob os:Own}{r:Str×PS}{S:PS}(h:Aft A H p nwf ob r t H')(k:Keep (Or2 ob os) H0 H)(b:Bd A H p nwf S ob):Stp A H0 p nwf ob os r t H':=by
 obtain⟨nw',os',e,bd,st,fr,kp⟩:=h
 refine⟨nw',ob,os',e,bd,st,fun x hx hy=>b.al x hx (fr x hy),fun x v ex z=>?_,fun x hx=>?_⟩
 ·exact kp x v (k x v ex z) (z.imp_left fun y w=>y (.inl w))
 ·rcases hx with hx | hx
  ·exact .inl (.inl hx)
  ·exact gR (o':=ob) k (fr x hx)
theorem Bd.count {A:Cs}{H H':Hp}{p nwf ct:Addr}{S:PS}{o:Own}{dx ch wl ul:Addr}{ws us:List V}{n:Int}(b:BAt A H p nwf S o dx ch wl ul ct ws us)(c:CtAt A.count H' ct n)(k:∀x,x≠ct->H' x=H x):Bd A H' p nwf { S with tot:=n } o/\Keep o H H':=by
 have ne:∀{x:Addr}{v:HO},H x=some v->(∀C d,v≠ .ins C d (ctF S.tot))->x≠ct:=fun {x v} e h z=>by
  obtain⟨d,q⟩:=b.et
  rw[z,q]at e
  exact h _ _ (Yt e).symm
 have kk:Keep o H H':=fun x v e z=>by
  rw[k x]
  ·exact e
  ·rintro rfl
   rcases z with z | ⟨vs,rfl⟩
   ·exact z b.ot
   ·obtain⟨d,q⟩:=b.et
    rw[q]at e;cases e
 have lk:∀{x:Addr}{l:List V},H x=some (.lst l)->H' x=some (.lst l):=fun {x l} e=>by rw[k x (ne e fun C d z=>nomatch z)];exact e
 have fk:∀{ts:List V}{fs:List Fr},FrsAt H (Dl o wl ul) ts fs->FrsAt H' (Dl o wl ul) ts fs:=fun {ts fs} h=>by
  induction h with
  |nil=>exact .nil
  | cons a _ ih=>
   obtain⟨d,e1,e2,e3⟩:=a
   exact .cons ⟨d,kk.tup e1,lk e2,e3⟩ ih
 refine⟨⟨dx,ch,wl,ul,ct,ws,us,?_,kk.tup b.ec,lk b.ew,fk b.fw,lk b.eu,fk b.fu,c,b.op,b.ow,b.ou,b.ot,b.ne,fun x hx=>?_⟩,kk⟩
 ·rw[k p (ne b.e fun C d z=>by cases z)];exact b.e
 ·by_cases h:x=ct
  ·obtain⟨d,q⟩:=c
   rw[h,q];simp
  ·rw[k x h];exact b.al x hx
def spWanted (K:W.Frag):Sp:=fun vs H Q _=>∃(c:Addr)(m t n:Int),vs= [.ref c,.int n]/\H c=some (.tup [.int m,.int t])/\Q (.bl (decide (Builtin.bitAnd n m=t))) H
def spChoice (K:W.Frag)(C:Addr):Sp:=fun vs H Q E=>∃(a:Addr)(ns:List Int),vs= [.ref a]/\SqT K H a (ns.map V.int)/\ns.length<=500/\(ns.all byt=true->∀H',Same H H'->Q .non H')/\(¬ ns.all byt=true->∀H',Same H H'->E (.ref C) none H')
def S0 (m1 m2 v:Nat):PS:=⟨m1,m2,v, [], [],0,.free 0⟩
def PoOk (m1 m2 v:Int):Prop:=byt m1=true/\byt m2=true/\(v=1\/v=3\/v=5)
def spPostInit (K:W.Frag)(A:Cs)(C:Addr):Sp:=fun vs H Q E=>∃(a dx ch:Addr)(m1 m2 v:Int),vs= [.ref a,.ref ch,.int v]/\H a=some (.ins A.post dx [])/\H ch=some (.tup [.int m1,.int m2])/\
 (PoOk m1 m2 v->∀H' o,PostAt A H' a (S0 m1.toNat m2.toNat v.toNat) o->(∀x,o x->x=a\/H x=none)->(∀x u,x≠a->H x=some u->H' x=some u)->Q .non H')/\(¬ PoOk m1 m2 v->∀H',(∀x u,x≠a->H x=some u->H' x=some u)->E (.ref C) none H')
theorem Bd.grow {A:Cs}{H:Hp}{p nwf d:Addr}{S:PS}{o:Own}{v:HO}(h:Bd A H p nwf S o)(e:H d=some v):Bd A H p nwf S (Or2 o fun x=>x=d):=by
 obtain⟨dx,ch,wl,ul,ct,ws,us,b⟩:=h
 refine⟨dx,ch,wl,ul,ct,ws,us,b.e,b.ec,b.ew,b.fw.imp (fun x v e _=>e) (fun x z=>⟨.inl z.1,z.2⟩),b.eu,b.fu.imp (fun x v e _=>e) (fun x z=>⟨.inl z.1,z.2⟩),b.et,.inl b.op,.inl b.ow,.inl b.ou,.inl b.ot,b.ne,fun x hx=>?_⟩
 rcases hx with hx | hx
 ·exact b.al x hx
 ·have hx':x=d:=hx
  rw[hx',e];simp
theorem pJ {A:Cs}{H:Hp}{p nwf:Addr}{S:PS}{o:Own}{dx ch wl ul ct a:Addr}{ws us ys:List V}(b:BAt A H p nwf S o dx ch wl ul ct ws us)(ha:a=wl\/a=ul) :
  Keep o H (upd H a (.lst ys))/\upd H a (.lst ys) p=H p/\upd H a (.lst ys) ch=H ch/\upd H a (.lst ys) ct=H ct/\(∀{ts:List V}{fs:List Fr},FrsAt H (Dl o wl ul) ts fs->FrsAt (upd H a (.lst ys)) (Dl o wl ul) ts fs)/\∀x,o x->upd H a (.lst ys) x≠none:=by
 have ea:∃l,H a=some (.lst l):=ha.elim (fun z=>⟨_,z▸b.ew⟩) fun z=>⟨_,z▸b.eu⟩
 obtain⟨l,ea⟩:=ea
 have oa:o a:=ha.elim (fun z=>z▸b.ow) fun z=>z▸b.ou
 have kk:Keep o H (upd H a (.lst ys)):=fun x v e z=>by
  rw[aL]
  ·exact e
  ·rintro rfl
   rcases z with z | ⟨vs,rfl⟩
   ·exact z oa
   ·rw[ea]at e;cases e
 have nl:∀{x:Addr}{v:HO},H x=some v->(∀l,v≠ .lst l)->upd H a (.lst ys) x=H x:=fun {x v} e h=>by
  rw[aL]
  rintro rfl
  rw[ea]at e
  exact h _ (Yt e).symm
 refine⟨kk,nl b.e (fun l z=>nomatch z),nl b.ec (fun l z=>nomatch z),(let ⟨d,e⟩:=b.et;nl e fun l z=>nomatch z),fun {ts fs} h=>?_,fun x hx=>?_⟩
 ·induction h with
  |nil=>exact .nil
  | cons a' _ ih=>
   obtain⟨d,e1,e2,e3⟩:=a'
   refine .cons ⟨d,kk.tup e1,?_,e3⟩ ih
   rw[aL (ha.elim (fun z=>z▸e3.2.1) fun z=>z▸e3.2.2)]
   exact e2
 ·by_cases h:x=a
  ·rw[h,aB];simp
  ·rw[aL h];exact b.al x hx
def Stc.tag:Stc->Nat
 |.free _=>0
 |.speaks _ _ _=>1
 |.reads _=>2
 |.tlS _ _=>3
 |.tlR _ _ _ _=>3
 |.flag _ _=>4
 |.settles _=>5
 |.rests _=>6
 |.off=>7
def spShown (A:Cs)(i:Nat):Sp:=fun vs H Q _=>∃nw S o,vs= [.ref nw]/\S.now.tag=i/\StW A H nw S o/\∀t H',H t=none->Same H H'->H' t=some (.tup [.str S.now.shown.1,.int ((S.now.shown.2:Nat):Int)])->Q (.ref t) H'
def spStSays (A:Cs)(i:Nat):Sp:=fun vs H Q _=>∃nw p nwf S ob os,vs= [.ref nw,.ref p]/\S.now.tag=i/\Bd A H p nwf S ob/\StW A H nw S os/\Wf S/\Q (.int (saysP S)) H
def spStStep (A:Cs)(i:Nat):Sp:=fun vs H Q _=>∃nw p nwf S ob os b,vs= [.ref nw,.int b,.ref p]/\S.now.tag=i/\Bd A H p nwf S ob/\StW A H nw S os/\(∀x,ob x->os x->False)/\Wf S/\(b=0\/b=1)/\S.up.length<900/\∀t H',Stp A H p nwf ob os (hearP S b) t H'->Q (.ref t) H'
structure Bef (S S':PS):Prop where
 e1:S'.m1=S.m1
 e2:S'.m2=S.m2
 e3:S'.vt=S.vt
 e4:S'.wt=S.wt
 e5:S'.up=S.up
 e6:S'.tot=S.tot
theorem Stp.go {A:Cs}{H0 H1 H':Hp}{p nwf t nw':Addr}{ob os os':Own}{S:PS}{r:Str×PS}(b:Bd A H0 p nwf S ob)(dj:∀x,ob x->os x->False)(k:Keep os H0 H1)(g:Same H1 H')(e:H' t=some (.tup [.str r.1,.ref nw']))(f:Bef S r.2)(st:StW A H' nw' r.2 os')(fr:∀x,os' x->os x\/H1 x=none):Stp A H0 p nwf ob os r t H':=by
 have b1:Bd A H1 p nwf S ob:=b.move fun x v e z=>k x v e (z.imp_left fun y w=>dj x y w)
 refine⟨nw',ob,os',e,(b1.move fun x v e _=>g x v e).now f.e1 f.e2 f.e3 f.e4 f.e5 f.e6,st,fun x hx hy=>?_,fun x v ex z=>g x v (k x v ex (z.imp_left fun y w=>y (.inr w))),fun x hx=>?_⟩
 ·exact(fr x hy).elim (dj x hx) (b1.al x hx)
 ·rcases hx with hx | hx
  ·exact .inl (.inl hx)
  ·rcases fr x hx with h | h
   ·exact .inl (.inr h)
   ·exact(gR (o':=ob) k h).imp_left .inr
theorem Stp.go2 {A:Cs}{H0 H1 H':Hp}{p nwf t nw':Addr}{ob os ob' os':Own}{r:Str×PS}(b:Bd A H1 p nwf r.2 ob')(k:Keep (Or2 ob os) H0 H1)(g:Same H1 H')(e:H' t=some (.tup [.str r.1,.ref nw']))(st:StW A H' nw' r.2 os')(fr:∀x,os' x->H1 x=none)(fo:∀x,ob' x->Or2 ob os x\/H0 x=none):Stp A H0 p nwf ob os r t H':=by
 refine⟨nw',ob',os',e,b.move fun x v e _=>g x v e,st,fun x hx hy=>b.al x hx (fr x hy),fun x v ex z=>g x v (k x v ex z),fun x hx=>?_⟩
 rcases hx with hx | hx
 ·exact fo x hx
 ·exact gR (o':=ob) k (fr x hx)
theorem dW {A:Cs}{H:Hp}{nw:Addr}{S:PS}{v:HO}(e:H nw=some v)(h:StAt A H nw S.vt (fun x=>x=nw) S.now):StW A H nw S (fun x=>x=nw):=⟨h,rfl,fun x hx=>by
 have hx':x=nw:=hx
 rw[hx',e];simp⟩
theorem jN {S:PS}{k:Nat}(e:S.now= .free k):saysP S=if S.wt= [] then 1 else if 12<=S.tot/\k<8 then 1 else 0:=by unfold saysP;rw[e]
theorem jU {H:Hp}{x y C D dx dy:Addr}{fs gs:List (Str×V)}{v:V}(f:Str)(e1:H x=some (.ins C dx fs))(e2:H y=some (.ins D dy gs))(h1:fs.lookup f=some v)(h2:gs.lookup f=none):x≠y:=fun z=>by
 rw[z,e2]at e1
 have:=Yt e1
 injection this with _ _ h
 rw[<-h,h2]at h1
 cases h1
theorem sJ {H:Hp}{x y C dx:Addr}{fs:List (Str×V)}{l:List V}(e1:H x=some (.ins C dx fs))(e2:H y=some (.lst l)):x≠y:=fun z=>by
 rw[z,e2]at e1
 cases e1
theorem sX {C CK:Addr}{H H1:Hp}{r st ks:Addr}{w:List Int}{t:Str}{o:Own}(h:RdAt C CK H r st ks w t)(b:But3 H H1 r st ks)(o1:o r)(o2:o st)(o3:o ks):Keep o H H1:=fun x v e z=>by
 refine b x v ?_ ?_ ?_ e
 ·rintro rfl
  rcases z with z | ⟨vs,rfl⟩
  ·exact z o1
  ·obtain⟨d,q⟩:=h.rd;rw[q]at e;cases e
 ·rintro rfl
  rcases z with z | ⟨vs,rfl⟩
  ·exact z o2
  ·obtain⟨d,q⟩:=h.sk;rw[q]at e;cases e
 ·rintro rfl
  rcases z with z | ⟨vs,rfl⟩
  ·exact z o3
  ·rw[h.kp]at e;cases e
theorem sW {C1 C2:Addr}{H H1:Hp}{tl:Addr}{v n c:Nat}{s:Bool}{o:Own}(h:TlAt C1 C2 H tl v s n c)(b:But1 H H1 tl)(o1:o tl):Keep o H H1:=fun x u e z=>by
 refine b x u ?_ e
 rintro rfl
 rcases z with z | ⟨vs,rfl⟩
 ·exact z o1
 ·obtain⟨C,d,_,q⟩:=h;rw[q]at e;cases e
theorem jB {A:Cs}{H H1:Hp}{p nwf:Addr}{S:PS}{ob os:Own}(bd:Bd A H p nwf S ob)(dj:∀x,ob x->os x->False)(k:Keep os H H1):Bd A H1 p nwf S ob:=bd.move fun x v e z=>k x v e (z.imp_left fun y w=>dj x y w)
theorem getD_get {w:List Int}{k:Nat}(h:k<w.length):w.getD k 0=w[k]:=by rw[Ye,Yb h];rfl
theorem a0Q {A:Cs}{H0 H1 H':Hp}{p nwf t nw':Addr}{ob os:Own}{S:PS}{r:Str×PS}{v:HO}(b:Bd A H0 p nwf S ob)(dj:∀x,ob x->os x->False)(k:Keep os H0 H1)(g:Same H1 H')(e:H' t=some (.tup [.str r.1,.ref nw']))(f:Bef S r.2)(hn:H1 nw'=none)(en:H' nw'=some v)(sa:StAt A H' nw' r.2.vt (fun x=>x=nw') r.2.now):Stp A H0 p nwf ob os r t H':=
 Stp.go b dj k g e f (dW en sa) fun x hx=> .inr (by have hx':x=nw':=hx;rw[hx'];exact hn)
theorem lU {S:PS}{k:Nat}{b:Int}(e:S.now= .free k):hearP S b=(if saysP S=0 then (if b=0 then ("begins",{ S with now:= .speaks (S.wt.headD (0, [])).1 (S.wt.headD (0, [])).2 1 }) else faultP S true) else if b=0 then ("",{ S with now:= .reads [0] }) else ("",{ S with now:= .free (k+1) }):Str×PS):=by unfold hearP;rw[e]
theorem kI {S:PS}{h:List Int}{b:Int}(e:S.now= .reads h):hearP S b=(if ans (h++[b])="more" then ("",{ S with now:= .reads (h++[b]) }) else if ans (h++[b])="whole" then ("",{ S with now:= .tlR (nmB (kp (h++[b]))) (daB (kp (h++[b]))) 0 0 }) else faultP S false:Str×PS):=by unfold hearP;rw[e]
theorem fU {S:PS}{n:Nat}{ds:List Int}{k:Nat}{b:Int}(e:S.now= .speaks n ds k):hearP S b=(if ans ((wr n ds).take k++[b])="six" then faultP S true else if (wr n ds).getD k 0=1/\b=0/\(kp ((wr n ds).take k)).length<9 then ("loses",{ S with now:= .reads ((wr n ds).take k++[b]) }) else if b=(wr n ds).getD k 0 then (if k+1=(wr n ds).length then ("",{ S with now:= .tlS 0 0 }) else ("",{ S with now:= .speaks n ds (k+1) })) else faultP S true:Str×PS):=by unfold hearP;rw[e]
theorem jZ {S:PS}{v c:Nat}{b:Int}(e:S.now= .tlS v c):hearP S b=(if tlWord S.vt true v c b="more" then ("",{ S with now:= .tlS (v+1) (tlN v b c) }) else if tlWord S.vt true v c b="fault" then faultP S true else if tlWord S.vt true v c b="refused" then refuseP S true else ("done",{ S with tot:=mvd S.tot (-1),wt:=S.wt.tail,now:= .rests 3 }):Str×PS):=by unfold hearP;rw[e]
theorem kE {S:PS}{n:Nat}{ds:List Int}{v c:Nat}{b:Int}(e:S.now= .tlR n ds v c):hearP S b=(if tlWord S.vt false v c b="more" then ("",{ S with now:= .tlR n ds (v+1) (tlN v b c) }) else if tlWord S.vt false v c b="fault" then faultP S false else if tlWord S.vt false v c b="refused" then refuseP S false else ("takes",{ S with tot:=mvd S.tot (-1),up:=if wantP S n=true then S.up++[(n,ds)] else S.up,now:= .rests 3 }):Str×PS):=by unfold hearP;rw[e]
structure Mid (H:Hp)(a:Addr)(v:HO)(cs:List (Addr×HO))(Hx:Hp):Prop where
 ea:Hx a=some v
 kp:∀x u,x≠a->H x=some u->Hx x=some u
 nw:∀c∈cs,H c.1=none/\c.1≠a/\Hx c.1=some c.2
 nd:(cs.map Prod.fst).Nodup
theorem Mid.set {H:Hp}{a:Addr}{v:HO}{cs:List (Addr×HO)}{Hx:Hp}(m:Mid H a v cs Hx)(v':HO):Mid H a v' cs (upd Hx a v'):=
 ⟨aB,fun x u hx h=>by rw[aL hx];exact m.kp x u hx h,fun c hc=>⟨(m.nw c hc).1,(m.nw c hc).2.1,by rw[aL (m.nw c hc).2.1];exact(m.nw c hc).2.2⟩,m.nd⟩
theorem Mid.add {H:Hp}{a y:Addr}{v o:HO}{cs:List (Addr×HO)}{Hx Hy:Hp}(m:Mid H a v cs Hx)(hn:Hx y=none)(g:Same Hx Hy)(e:Hy y=some o):Mid H a v ((y,o)::cs) Hy:=by
 have ya:y≠a:=fun z=>by rw[z,m.ea]at hn;cases hn
 refine⟨g _ _ m.ea,fun x u hx h=>g _ _ (m.kp x u hx h),fun c hc=>?_,YS.mpr ⟨fun h=>?_,m.nd⟩⟩
 ·rcases YK.mp hc with rfl | hc
  ·refine⟨?_,ya,e⟩
   cases eh:H y with
   |none=>rfl
   |some u=>rw[m.kp y u ya eh]at hn;cases hn
  ·exact⟨(m.nw c hc).1,(m.nw c hc).2.1,g _ _ (m.nw c hc).2.2⟩
 ·obtain⟨c,hc,ec⟩:=Xg.mp h
  have:=(m.nw c hc).2.2
  rw[ec,hn]at this
  cases this
theorem mY {A:Cs}{H H1:Hp}{p nwf x:Addr}{S:PS}{o:Own}(b:Bd A H1 p nwf S o)(k:Keep o H H1)(n:H1 x=none):H x=none:=by
 rcases gR (o':=o) k n with h | h
 ·exact absurd n (b.al x h)
 ·exact h
theorem vJ {A:Cs}{H':Hp}{p nwf nw':Addr}{S:PS}{ob' os':Own}{b:Int}(wf:Wf S)(hb:b=0\/b=1)(b':Bd A H' p nwf (hearP S b).2 ob')(s':StW A H' nw' (hearP S b).2 os')(dj':∀x,ob' x->os' x->False)
  {dp ch wl ul ct:Addr} {ws us:List V} (bb:BAt A H' p nwf (hearP S b).2 ob' dp ch wl ul ct ws us) :
  PostAt A (upd H' p (.ins A.post dp (pF ch (hearP S b).2.vt wl ul ct nw'))) p (hearP S b).2 (Or2 ob' os')/\Keep (fun x=>x=p) H' (upd H' p (.ins A.post dp (pF ch (hearP S b).2.vt wl ul ct nw'))):=by
 have kk:Keep (fun x=>x=p) H' (upd H' p (.ins A.post dp (pF ch (hearP S b).2.vt wl ul ct nw'))):=fun x v e z=>by
  rw[aL]
  ·exact e
  ·rintro rfl
   rcases z with z | ⟨vs,rfl⟩
   ·exact z rfl
   ·rw[bb.e]at e;cases e
 have ne:∀{x:Addr}{v:HO},H' x=some v->x≠p->upd H' p (.ins A.post dp (pF ch (hearP S b).2.vt wl ul ct nw')) x=some v:=fun e h=>by rw[aL h];exact e
 have nl:∀{x:Addr}{l:List V},H' x=some (.lst l)->x≠p:=fun e z=>by rw[z,bb.e]at e;cases e
 have fk:∀{ts:List V}{fs:List Fr},FrsAt H' (Dl ob' wl ul) ts fs->FrsAt (upd H' p (.ins A.post dp (pF ch (hearP S b).2.vt wl ul ct nw'))) (Dl ob' wl ul) ts fs:=fun {ts fs} h=>by
  induction h with
  |nil=>exact .nil
  | cons a _ ih=>
   obtain⟨d,e1,e2,e3⟩:=a
   exact .cons ⟨d,kk.tup e1,ne e2 (nl e2),e3⟩ ih
 have al:∀x,Or2 ob' os' x->upd H' p (.ins A.post dp (pF ch (hearP S b).2.vt wl ul ct nw')) x≠none:=fun x hx=>by
  by_cases h:x=p
  ·rw[h,aB];simp
  ·rw[aL h];exact hx.elim (bb.al x) (s'.al x)
 obtain⟨dc,ec⟩:=id bb.et
 have ncp:ct≠p:=jU "total" ec bb.e rfl rfl
 refine⟨⟨nw',ob',os',⟨dp,ch,wl,ul,ct,ws,us,aB,kk.tup bb.ec,ne bb.ew (nl bb.ew),fk bb.fw,ne bb.eu (nl bb.eu),fk bb.fu,⟨dc,ne ec ncp⟩,bb.op,bb.ow,bb.ou,bb.ot,bb.ne,fun x hx=>al x (.inl hx)⟩,s'.move fun x v e z=>kk x v e (z.imp_left fun y w=>dj' x (by have w':x=p:=w;rw[w'];exact bb.op) y),dj',wf.hear hb,fun x hx=>hx,al⟩,kk⟩
structure Lw (A:Cs)(H0 H:Hp)(p:Addr)(S:PS)(o:Own):Prop where
 same:Same H0 H
 fr:∀x,o x->H0 x=none
 po:PostAt A H p S o
theorem Wf.hand {S:PS}{f:Fr}(h:Wf S)(hf:FrN f):Wf { S with wt:=S.wt++[f] }:=by
 refine⟨h.vt,fun g hg=>?_,?_⟩
 ·rcases YI.mp hg with z | z
  ·exact h.wt g z
  ·rw[Yp.mp z];exact hf
 ·have hn:=h.now
  have hne:S.wt++[f]≠ []:=by intro z;have:=(List.append_eq_nil_iff.mp z).2;cases this
  show Stc.Wf (S.wt++[f]) S.now
  revert hn
  cases S.now with
  |speaks n ds k=>exact fun ⟨a,b,c,d⟩=>⟨a,b,c,hne⟩
  |tlS v c=>exact fun _=>hne
  |free k=>exact fun z=>z
  |reads h=>exact fun z=>z
  |tlR n ds v c=>exact fun z=>z
  |flag l m=>exact fun z=>z
  |settles m=>exact fun z=>z
  |rests l=>exact fun z=>z
  |off=>exact fun z=>z
theorem PostAt.hand {A:Cs}{H:Hp}{p:Addr}{S:PS}{o:Own}(h:PostAt A H p S o):∃nw ob,Bd A H p nw S ob/\∀{n:Int}{ds:List Int},FrOk n ds->∀H' d,H d=none->Bd A H' p nw { S with wt:=S.wt++[(n.toNat,ds)] } (Or2 ob fun x=>x=d)->Keep ob H H'->∃o',PostAt A H' p { S with wt:=S.wt++[(n.toNat,ds)] } o'/\Mv o H o' H':=by
 obtain⟨nw,ob,os,bd,st,dj,wf,inc,al⟩:=h
 refine⟨nw,ob,bd,fun {n ds} ok H' d hd b' k=>?_⟩
 have hb:=dJ.mp ok.1
 have hf:FrN (n.toNat,ds):=⟨by show n.toNat<256;omega,ok.2.1,ok.2.2⟩
 have s':StW A H' nw S os:=st.move fun x v e z=>k x v e (z.imp_left fun y w=>dj x w y)
 refine⟨Or2 o fun x=>x=d,⟨nw,Or2 ob fun x=>x=d,os,b',⟨s'.at_,s'.on,s'.al⟩,?_,wf.hand hf,?_,?_⟩,k.le fun x hx=>inc x (.inl hx),fun x hx=>?_⟩
 ·rintro x (hx | hx) hy
  ·exact dj x hx hy
  ·have hx':x=d:=hx
   rw[hx']at hy
   exact al d (inc d (.inr hy)) hd
 ·rintro x ((hx | hx) | hx)
  ·exact .inl (inc x (.inl hx))
  ·exact .inr hx
  ·exact .inl (inc x (.inr hx))
 ·rintro x (hx | hx)
  ·rcases Classical.em (ob x) with c | c
   ·exact b'.al x (.inl c)
   ·cases e:H x with
    |none=>exact absurd e (al x hx)
    |some v=>rw[k x v e (.inl c)];simp
  ·exact b'.al x (.inr hx)
 ·rcases hx with hx | hx
  ·exact .inl hx
  ·have hx':x=d:=hx
   rw[hx'];exact .inr hd
theorem a1J {A:Cs}{H H1 H':Hp}{p dp:Addr}{v:HO}{S:PS}{o:Own}(g:Same H H1)(hp:H1 p=none)(hdp:H1 dp=none)(hP:PostAt A H' p S o)(hin:∀x,o x->x=p\/upd (upd H1 dp (.own p)) p v x=none)(hk:∀x u,x≠p->upd (upd H1 dp (.own p)) p v x=some u->H' x=some u):Lw A H H' p S o/\Same H1 H':=by
 have s1:Same H1 H':=fun x u e=>hk x u (aQ e hp) (by rw[aL (aQ e hp),aL (aQ e hdp)];exact e)
 refine⟨⟨g.trans s1,fun x hx=>?_,hP⟩,s1⟩
 rcases hin x hx with h | h
 ·rw[h];exact g.none hp
 ·refine g.none ?_
  by_cases c:x=p
  ·rw[c,aB]at h;cases h
  ·rw[aL c]at h
   by_cases d:x=dp
   ·rw[d,aB]at h;cases h
   ·rw[aL d]at h;exact h
theorem PostAt.bd {A:Cs}{H:Hp}{p:Addr}{S:PS}{o:Own}(h:PostAt A H p S o):∃nw ob,Bd A H p nw S ob:=let ⟨nw,ob,_,bd,_⟩:=h;⟨nw,ob,bd⟩
theorem PostAt.cell {A:Cs}{H:Hp}{p:Addr}{S:PS}{o:Own}(h:PostAt A H p S o):∃dx ch vt wl ul ct nw,H p=some (.ins A.post dx (pF ch vt wl ul ct nw)):=let ⟨nw,_,_,⟨dx,ch,wl,ul,ct,_,_,b⟩,_⟩:=h;⟨dx,ch,_,wl,ul,ct,nw,b.e⟩
theorem FrsNew.at_ {H H':Hp}:∀{ts:List V}{fs:List Fr},FrsNew H H' ts fs->FrsAt H' (fun _=>True) ts fs
 |_,_,.nil=> .nil
 |_,_,.cons _ _ a3 a4 r=> .cons ⟨_,a3,a4,trivial⟩ r.at_
def frD (f:Fr):PyData:= .tuple [.int ((f.1:Nat):Int),.list (f.2.map .int)]
theorem FrsAt.dvs {K:W.Frag}{H:Hp}{o:Own}:∀{ts:List V}{fs:List Fr},FrsAt H o ts fs->DVs K H ts (fs.map frD)
 |_,_,.nil=> .nil
 |_,_,.cons ⟨_,e1,e2,_⟩ r=> .cons (.tup (SqT.of e1) (.cons (.int _) (.cons (DV.ints (SqL.of e2)) .nil))) r.dvs
theorem fB (fs:List Fr):SeqAt.shaped (.list (fs.map frD))=true:=rK fun d hd=>by
 obtain⟨f,_,rfl⟩:=Xg.mp hd
 have h:=lay_ints f.2
 have h2:=h.2
 unfold frD
 refine⟨?_,?_⟩
 ·simp only[PyData.canLay0,PyData.canLayAll0,Bool.true_and,Bool.and_true]
  have:=h.1
  simp only[PyData.canLay0]at this
  exact this
 ·have h3:=W.depthAll_ints f.2
  simp only[PyData.depth,PyData.depthAll]
  omega
structure FrL (H:Hp)(o:Own)(F:Addr)(fs:List Fr):Prop where
 no:¬ o F
 ex:∃xs,H F=some (.lst xs)/\FrsAt H (fun x=>¬ o x) xs fs
theorem a4R {lo:Own}{H:Hp}{a:Addr}{o u:HO}(e:H a=some o)(h:lo a)(n:¬ isT o):Mv lo H lo (upd H a u):=⟨fun x v ex z=>by
 rw[aL]
 ·exact ex
 ·rintro rfl
  rcases z with z | z
  ·exact z h
  ·rw[e]at ex;cases ex;exact n z,fun _=> .inl⟩
theorem a1X {xs:List V}:¬ isT (.lst xs):=fun ⟨_,z⟩=>by cases z
def spPoSays3 (A:Cs):Sp:=fun vs H Q _=>∃p S o,vs= [.ref p]/\S.now.tag<=3/\PostAt A H p S o/\Q (.int (saysP S)) H
def spPoHear3 (A:Cs):Sp:=fun vs H Q _=>∃p S o b,vs= [.ref p,.int b]/\S.now.tag<=3/\PostAt A H p S o/\(b=0\/b=1)/\S.up.length<900/\∀H' o',PostAt A H' p (hearP S b).2 o'->Mv o H o' H'->Q (.str (hearP S b).1) H'
def spPoShown6 (A:Cs):Sp:=fun vs H Q _=>∃p S o l,vs= [.ref p]/\S.now= .rests l/\PostAt A H p S o/\∀t H',H t=none->Same H H'->H' t=some (.tup [.str S.now.shown.1,.int ((S.now.shown.2:Nat):Int)])->Q (.ref t) H'
def PsAt (A:Cs)(H:Hp):List Addr->List PS->Own->Prop
 |[], [],o=>∀x,o x->H x≠none
 |p::ps,S::Ss,o=>∃o1 o2,PostAt A H p S o1/\PsAt A H ps Ss o2/\(∀x,o1 x->o2 x->False)/\(∀x,o1 x\/o2 x->o x)/\∀x,o x->H x≠none
 |_,_,_=>False
theorem PsAt.al {A:Cs}{H:Hp}:∀{ps:List Addr}{Ss:List PS}{o:Own},PsAt A H ps Ss o->∀x,o x->H x≠none
 |[], [],_,h=>h
 |_::_,_::_,_,⟨_,_,_,_,_,_,h⟩=>h
theorem PsAt.len {A:Cs}{H:Hp}:∀{ps:List Addr}{Ss:List PS}{o:Own},PsAt A H ps Ss o->ps.length=Ss.length
 |[], [],_,_=>rfl
 |_::_,_::_,_,⟨_,_,_,h,_⟩=>YF (·+1) h.len
theorem PsAt.move {A:Cs}{H H':Hp}:∀{ps:List Addr}{Ss:List PS}{o:Own},PsAt A H ps Ss o->(∀x v,H x=some v->(o x\/isT v)->H' x=some v)->PsAt A H' ps Ss o
 | [], [],o,h,g=>fun x hx=>by
  cases e:H x with
  |none=>exact absurd e (h x hx)
  |some v=>rw[g x v e (.inl hx)];simp
 | _::_,_::_,o,⟨o1,o2,h1,h2,dj,inc,al⟩,g=>⟨o1,o2,h1.move fun x v e z=>g x v e (z.imp_left fun y=>inc x (.inl y)),h2.move fun x v e z=>g x v e (z.imp_left fun y=>inc x (.inr y)),dj,inc,fun x hx=>by
  cases e:H x with
  |none=>exact absurd e (al x hx)
  |some v=>rw[g x v e (.inl hx)];simp⟩
theorem PsAt.same {A:Cs}{H H':Hp}{ps:List Addr}{Ss:List PS}{o:Own}(h:PsAt A H ps Ss o)(g:Same H H'):PsAt A H' ps Ss o:=h.move fun x v e _=>g x v e
theorem PsAt.get {A:Cs}{H:Hp}:∀{ps:List Addr}{Ss:List PS}{o:Own},PsAt A H ps Ss o->∀{i:Nat}{p:Addr},ps[i]? =some p->∃S oi,Ss[i]? =some S/\PostAt A H p S oi/\(∀x,oi x->o x)/\∀H' oi' S',Mv oi H oi' H'->PostAt A H' p S' oi'->∃o',PsAt A H' ps (Ss.set i S') o'/\Mv o H o' H'
 | q ::ps,S::Ss,o,⟨o1,o2,h1,h2,dj,inc,al⟩,0,p,hp=>by
  cases hp
  refine⟨S,o1,rfl,h1,fun x hx=>inc x (.inl hx),fun H' oi' S' m hP=>?_⟩
  have h2':PsAt A H' ps Ss o2:=h2.move fun x v e z=>m.1 x v e (z.imp_left fun y w=>dj x w y)
  refine⟨Or2 oi' o2,⟨oi',o2,hP,h2',fun x hx hy=>?_,fun x hx=>hx,fun x hx=>?_⟩,⟨fun x v e z=>m.1 x v e (z.imp_left fun y w=>y (inc x (.inl w))),fun x hx=>?_⟩⟩
  ·exact(m.2 x hx).elim (fun z=>dj x z hy) fun z=>h2.al x hy z
  ·rcases hx with hx | hx
   ·exact hP.al x hx
   ·exact h2'.al x hx
  ·rcases hx with hx | hx
   ·exact(m.2 x hx).imp (fun z=>inc x (.inl z)) id
   ·exact .inl (inc x (.inr hx))
 | q ::ps,S::Ss,o,⟨o1,o2,h1,h2,dj,inc,al⟩,i+1,p,hp=>by
  obtain⟨S1,oi,e1,hP1,le,back⟩:=PsAt.get h2 (i:=i) hp
  refine⟨S1,oi,e1,hP1,fun x hx=>inc x (.inr (le x hx)),fun H' oi' S' m hP=>?_⟩
  obtain⟨o2',h2',m'⟩:=back H' oi' S' m hP
  have h1':PostAt A H' q S o1:=h1.move fun x v e z=>m'.1 x v e (z.imp_left fun y w=>dj x y w)
  refine⟨Or2 o1 o2',⟨o1,o2',h1',h2',fun x hx hy=>?_,fun x hx=>hx,fun x hx=>?_⟩,⟨fun x v e z=>m'.1 x v e (z.imp_left fun y w=>y (inc x (.inr w))),fun x hx=>?_⟩⟩
  ·exact(m'.2 x hy).elim (fun z=>dj x hx z) fun z=>h1.al x hx z
  ·rcases hx with hx | hx
   ·exact h1'.al x hx
   ·exact h2'.al x hx
  ·rcases hx with hx | hx
   ·exact .inl (inc x (.inl hx))
   ·exact(m'.2 x hx).imp (fun z=>inc x (.inr z)) id
theorem PsAt.snoc {A:Cs}{H H':Hp}{p:Addr}{S:PS}{o1:Own}(hP:PostAt A H' p S o1)(g:Same H H')(n:∀x,o1 x->H x=none):∀{ps:List Addr}{Ss:List PS}{o:Own},PsAt A H ps Ss o->PsAt A H' (ps++[p]) (Ss++[S]) (Or2 o o1)
  | [], [],o,h=>⟨o1,o,hP,fun x hx=>by
      cases e:H x with
      |none=>exact absurd e (h x hx)
      |some v=>rw[g x v e];simp,fun x hx hy=>h x hy (n x hx),fun x hx=>hx.symm,fun x hx=>by
      rcases hx with hx | hx
      · cases e:H x with
        |none=>exact absurd e (h x hx)
        |some v=>rw[g x v e];simp
      · exact hP.al x hx⟩
  | q :: ps,T::Ss,o,⟨oa,ob,h1,h2,dj,inc,al⟩=>⟨oa,Or2 ob o1,h1.same g,PsAt.snoc hP g n h2,fun x hx hy=>by
      rcases hy with hy | hy
      · exact dj x hx hy
      · exact h1.al x hx (n x hy),fun x hx=>by
      rcases hx with hx | hx | hx
      · exact .inl (inc x (.inl hx))
      · exact .inl (inc x (.inr hx))
      · exact .inr hx,fun x hx=>by
      rcases hx with hx | hx
      · cases e:H x with
        |none=>exact absurd e (al x hx)
        |some v=>rw[g x v e];simp
      · exact hP.al x hx⟩
structure CellsAt (H:Hp)(L:List (Addr×HO)):Prop where
 at_:∀(j:Nat)(c:Addr×HO),L[j]? =some c->H c.1=some c.2
 ap:∀(i j:Nat)(c d:Addr×HO),L[i]? =some c->L[j]? =some d->c.1=d.1->i=j
theorem CellsAt.put {H:Hp}{L:List (Addr×HO)}{i:Nat}{a:Addr}{h:HO}(hc:CellsAt H L)(e:L[i]? =some (a,h))(h':HO):CellsAt (upd H a h') (L.set i (a,h')):=by
 have hi:i<L.length:=(Yg.mp e).1
 have old:∀(j:Nat)(c:Addr×HO),(L.set i (a,h'))[j]? =some c->(j=i/\c=(a,h'))\/(j≠i/\L[j]? =some c):=fun j c z=>by
  rw[Xq]at z
  by_cases k:i=j
  ·rw[if_pos k,if_pos hi]at z
   exact .inl ⟨k.symm,(Yt z).symm⟩
  ·rw[if_neg k]at z
   exact .inr ⟨fun y=>k y.symm,z⟩
 refine⟨fun j c z=>?_,fun j k c d z y q=>?_⟩
 ·rcases old j c z with ⟨_,rfl⟩ | ⟨n,z⟩
  ·exact aB
  ·rw[aL fun q=>n (hc.ap j i c (a,h) z e q)]
   exact hc.at_ j c z
 ·rcases old j c z with ⟨n1,rfl⟩ | ⟨n1,z⟩ <;> rcases old k d y with ⟨n2,rfl⟩ | ⟨n2,y⟩
  ·rw[n1,n2]
  ·exact absurd (hc.ap k i d (a,h) y e q.symm) n2
  ·exact absurd (hc.ap j i c (a,h) z e q) n1
  ·exact hc.ap j k c d z y q
theorem CellsAt.keep {H H':Hp}{L:List (Addr×HO)}(hc:CellsAt H L)(g:∀(j:Nat)(c:Addr×HO),L[j]? =some c->H' c.1=some c.2):CellsAt H' L:=⟨g,hc.ap⟩
theorem CellsAt.same {H H':Hp}{L:List (Addr×HO)}(hc:CellsAt H L)(g:Same H H'):CellsAt H' L:=hc.keep fun j c z=>g _ _ (hc.at_ j c z)
theorem CellsAt.snoc {H:Hp}{L:List (Addr×HO)}{a:Addr}{h:HO}(hc:CellsAt H L)(n:H a=none):CellsAt (upd H a h) (L++[(a,h)]):=by
 have old:∀(j:Nat)(c:Addr×HO),(L++[(a,h)])[j]? =some c->(j=L.length/\c=(a,h))\/L[j]? =some c:=fun j c z=>by
  by_cases k:j<L.length
  ·rw[YH k]at z
   exact .inr z
  ·rw [Yz (by omega)]at z
   have hj:j-L.length=0:=by
    cases e:j-L.length with
    |zero=>rfl
    |succ m=>rw[e]at z;cases z
   rw[hj]at z
   exact .inl ⟨by omega,(Yt z).symm⟩
 have ne:∀(j:Nat)(c:Addr×HO),L[j]? =some c->c.1≠a:=fun j c z q=>by have:=hc.at_ j c z;rw[q,n]at this;cases this
 refine⟨fun j c z=>?_,fun j k c d z y q=>?_⟩
 ·rcases old j c z with ⟨_,rfl⟩ | z
  ·exact aB
  ·rw[aL (ne j c z)];exact hc.at_ j c z
 ·rcases old j c z with ⟨n1,rfl⟩ | z <;> rcases old k d y with ⟨n2,rfl⟩ | y
  ·rw[n1,n2]
  ·exact absurd q.symm (ne k d y)
  ·exact absurd q (ne j c z)
  ·exact hc.ap j k c d z y q
open PyProof.Rows in
structure RS where
 (ps:List PS) (ow:List (Key×V)) (bo:List Int) (sa he:List (List Int)) (ev:List (Nat×Nat×Str))
inductive EvsAt (H:Hp):List V->List (Nat×Nat×Str)->Prop
 |nil:EvsAt H [] []
 |cons {t:Addr} {e:Nat×Nat×Str} {vs:List V} {es:List (Nat×Nat×Str)}:H t=some (.tup [.int ((e.1:Nat):Int),.int ((e.2.1:Nat):Int),.str e.2.2])->EvsAt H vs es->EvsAt H (.ref t::vs) (e::es)
theorem EvsAt.imp {H H':Hp}(g:∀x xs,H x=some (.tup xs)->H' x=some (.tup xs)):∀{vs:List V}{es:List (Nat×Nat×Str)},EvsAt H vs es->EvsAt H' vs es
 |_,_,.nil=> .nil
 |_,_,.cons a r=> .cons (g _ _ a) (r.imp g)
theorem EvsAt.snoc {H:Hp}{t:Addr}{e:Nat×Nat×Str}(a:H t=some (.tup [.int ((e.1:Nat):Int),.int ((e.2.1:Nat):Int),.str e.2.2])):∀{vs:List V}{es:List (Nat×Nat×Str)},EvsAt H vs es->EvsAt H (vs++[.ref t]) (es++[e])
 |_,_,.nil=> .cons a .nil
 |_,_,.cons b r=> .cons b (r.snoc a)
theorem EvsAt.len {H:Hp}:∀{vs:List V}{es:List (Nat×Nat×Str)},EvsAt H vs es->vs.length=es.length
 |_,_,.nil=>rfl
 |_,_,.cons _ r=>YF (·+1) r.len
abbrev rF (PL OW BO SA HE EV:Addr):List (Str×V):=[("posts",.ref PL),("owners",.ref OW),("borne",.ref BO),("sayings",.ref SA),("hearings",.ref HE),("happened",.ref EV)]
def lsC (as:List Addr)(xs:List (List Int)):List (Addr×HO):=List.zipWith (fun a x=>(a,HO.lst (x.map V.int))) as xs
structure Rw where
 (dx PL OW BO SA HE EV:Addr) (ps sas hes:List Addr) (evs:List V) (op:Own)
abbrev railL (C r:Addr)(w:Rw)(R:RS):List (Addr×HO):=(r,.ins C w.dx (rF w.PL w.OW w.BO w.SA w.HE w.EV))::(w.PL,.lst (w.ps.map V.ref))::(w.OW,.dK R.ow)::(w.BO,.lst (R.bo.map V.int))::(w.SA,.lst (w.sas.map V.ref))::(w.HE,.lst (w.hes.map V.ref))::(w.EV,.lst w.evs)::(lsC w.sas R.sa++lsC w.hes R.he)
structure RlAt (C:Addr)(A:Cs)(H:Hp)(r:Addr)(R:RS)(o:Own)(w:Rw):Prop where
 cs:CellsAt H (railL C r w R)
 po:PsAt A H w.ps R.ps w.op
 ev:EvsAt H w.evs R.ev
 l1:w.sas.length=R.ps.length
 l2:R.sa.length=R.ps.length
 l3:w.hes.length=R.ps.length
 l4:R.he.length=R.ps.length
 lp:R.ps.length<=5
 dj:∀x,w.op x->∀(j:Nat)(c:Addr×HO),(railL C r w R)[j]? =some c->c.1≠x
 inc:∀x,(w.op x\/∃(j:Nat)(c:Addr×HO),(railL C r w R)[j]? =some c/\c.1=x)->o x
 al:∀x,o x->H x≠none
def RailAt (C:Addr)(A:Cs)(H:Hp)(r:Addr)(R:RS)(o:Own):Prop:=∃w,RlAt C A H r R o w
section
variable {C:Addr}{A:Cs}{H H':Hp}{r:Addr}{R:RS}{o:Own}{w:Rw}
theorem RlAt.move (h:RlAt C A H r R o w)(g:∀x v,H x=some v->(o x\/isT v)->H' x=some v):RlAt C A H' r R o w:=
 ⟨h.cs.keep fun j c z=>g _ _ (h.cs.at_ j c z) (.inl (h.inc _ (.inr ⟨j,c,z,rfl⟩))),h.po.move fun x v e z=>g x v e (z.imp_left fun y=>h.inc x (.inl y)),h.ev.imp fun x xs e=>g x _ e (.inr ⟨_,rfl⟩),h.l1,h.l2,h.l3,h.l4,h.lp,h.dj,h.inc,fun x hx=>by
  cases e:H x with
  |none=>exact absurd e (h.al x hx)
  |some v=>rw[g x v e (.inl hx)];simp⟩
theorem RlAt.same (h:RlAt C A H r R o w)(g:Same H H'):RlAt C A H' r R o w:=h.move fun x v e _=>g x v e
theorem RlAt.er (h:RlAt C A H r R o w):H r=some (.ins C w.dx (rF w.PL w.OW w.BO w.SA w.HE w.EV)):=h.cs.at_ 0 _ rfl
theorem RlAt.ePL (h:RlAt C A H r R o w):H w.PL=some (.lst (w.ps.map V.ref)):=h.cs.at_ 1 _ rfl
theorem RlAt.eOW (h:RlAt C A H r R o w):H w.OW=some (.dK R.ow):=h.cs.at_ 2 _ rfl
theorem RlAt.eBO (h:RlAt C A H r R o w):H w.BO=some (.lst (R.bo.map V.int)):=h.cs.at_ 3 _ rfl
theorem RlAt.eSA (h:RlAt C A H r R o w):H w.SA=some (.lst (w.sas.map V.ref)):=h.cs.at_ 4 _ rfl
theorem RlAt.eHE (h:RlAt C A H r R o w):H w.HE=some (.lst (w.hes.map V.ref)):=h.cs.at_ 5 _ rfl
theorem RlAt.eEV (h:RlAt C A H r R o w):H w.EV=some (.lst w.evs):=h.cs.at_ 6 _ rfl
theorem RlAt.pl (h:RlAt C A H r R o w):w.ps.length=R.ps.length:=h.po.len
theorem RlAt.at (h:RlAt C A H r R o w){i:Nat}{S:PS}(hi:R.ps[i]? =some S):∃p oi,w.ps[i]? =some p/\PostAt A H p S oi:=by
 have hl:i<w.ps.length:=by rw[h.pl];exact(Yg.mp hi).1
 have hp:w.ps[i]? =some w.ps[i]:=Yb hl
 obtain⟨S',oi,e,hP,_⟩:=h.po.get hp
 rw[hi]at e
 cases e
 exact⟨_,oi,hp,hP⟩
end
theorem rM {L:List (Addr×HO)}{k j:Nat}{a:Addr}{v v':HO}{c:Addr×HO}(e:L[k]? =some (a,v))(h:(L.set k (a,v'))[j]? =some c):∃c',L[j]? =some c'/\c'.1=c.1:=by
 have hk:k<L.length:=(Yg.mp e).1
 rw[Xq]at h
 by_cases q:k=j
 ·rw[if_pos q,if_pos hk]at h
  cases h
  exact⟨(a,v),q▸e,rfl⟩
 ·rw[if_neg q]at h
  exact⟨c,h,rfl⟩
theorem RlAt.put {C:Addr}{A:Cs}{H:Hp}{r:Addr}{R R':RS}{o:Own}{w w':Rw}{k:Nat}{a:Addr}{v v':HO}(h:RlAt C A H r R o w)(e:(railL C r w R)[k]? =some (a,v))(nT:¬ isT v)(eL:railL C r w' R'=(railL C r w R).set k (a,v'))(ep:R'.ps=R.ps)(e1:w'.ps=w.ps)(e2:w'.op=w.op)(e3:w'.sas.length=w.sas.length)(e4:R'.sa.length=R.sa.length)(e5:w'.hes.length=w.hes.length)(e6:R'.he.length=R.he.length)(ev:EvsAt H w'.evs R'.ev):RlAt C A (upd H a v') r R' o w'/\Mv o H o (upd H a v'):=by
 have ea:=h.cs.at_ k _ e
 have oa:o a:=h.inc a (.inr ⟨k,_,e,rfl⟩)
 have kT:∀x u,H x=some u->isT u->upd H a v' x=some u:=fun x u eu t=>by
  rw[aL]
  ·exact eu
  ·rintro rfl
   rw[ea]at eu
   cases eu
   exact nT t
 refine⟨⟨eL▸h.cs.put e v',?_,ev.imp fun x xs ex=>kT x _ ex ⟨_,rfl⟩,by rw[e3,ep];exact h.l1,by rw[e4,ep];exact h.l2,by rw[e5,ep];exact h.l3,by rw[e6,ep];exact h.l4,by rw[ep];exact h.lp,?_,?_,?_⟩,a4R ea oa nT⟩
 ·rw[e1,e2,ep]
  refine h.po.move fun x u eu z=>?_
  rcases z with z | z
  ·rw[aL fun q=>h.dj x z k _ e q.symm];exact eu
  ·exact kT x u eu z
 ·rw[e2,eL]
  intro x hx j c hc q
  obtain⟨c',h1,h2⟩:=rM e hc
  exact h.dj x hx j c' h1 (h2.trans q)
 ·rw [e2,eL]
  rintro x (hx | ⟨j,c,hc,q⟩)
  ·exact h.inc x (.inl hx)
  ·obtain⟨c',h1,h2⟩:=rM e hc
   exact h.inc x (.inr ⟨j,c',h1,h2.trans q⟩)
 ·intro x hx
  by_cases q:x=a
  ·rw[q,aB];simp
  ·rw[aL q];exact h.al x hx
theorem RlAt.step {C:Addr}{A:Cs}{H:Hp}{r:Addr}{R:RS}{o:Own}{w:Rw}{i:Nat}{p:Addr}(h:RlAt C A H r R o w)(hp:w.ps[i]? =some p):∃S oi,R.ps[i]? =some S/\PostAt A H p S oi/\(∀x,oi x->o x)/\∀H' oi' S',Mv oi H oi' H'->PostAt A H' p S' oi'->∃o' op',RlAt C A H' r { R with ps:=R.ps.set i S' } o' { w with op:=op' }/\Mv o H o' H':=by
 obtain⟨S,oi,eS,hP,le,back⟩:=h.po.get hp
 refine⟨S,oi,eS,hP,fun x hx=>h.inc x (.inl (le x hx)),fun H' oi' S' m hP'=>?_⟩
 obtain⟨op',po',m'⟩:=back H' oi' S' m hP'
 have nop:∀(j:Nat)(c:Addr×HO),(railL C r w R)[j]? =some c->¬ w.op c.1:=fun j c hc z=>h.dj _ z j c hc rfl
 have len:(R.ps.set i S').length=R.ps.length:=Xm
 have ko:Keep o H H':=fun x v e z=>m'.1 x v e (z.imp_left fun y q=>y (h.inc x (.inl q)))
 refine⟨Or2 (fun x=>o x/\¬ w.op x) op',op',⟨h.cs.keep fun j c hc=>m'.1 _ _ (h.cs.at_ j c hc) (.inl (nop j c hc)),po',h.ev.imp fun x xs e=>m'.1 x _ e (.inr ⟨_,rfl⟩),h.l1.trans len.symm,h.l2.trans len.symm,h.l3.trans len.symm,h.l4.trans len.symm,by show (R.ps.set i S').length<=5;rw[len];exact h.lp,?_,?_,?_⟩,ko,?_⟩
 ·intro x hx j c hc q
  rcases m'.2 x hx with z | z
  ·exact h.dj x z j c hc q
  ·have:=h.cs.at_ j c hc
   rw[q,z]at this
   cases this
 ·rintro x (hx | ⟨j,c,hc,q⟩)
  ·exact .inr hx
  ·exact .inl ⟨h.inc x (.inr ⟨j,c,hc,q⟩),q▸nop j c hc⟩
 ·rintro x (hx | hx)
  ·cases e:H x with
   |none=>exact absurd e (h.al x hx.1)
   |some v=>rw[m'.1 x v e (.inl hx.2)];simp
  ·exact po'.al x hx
 ·rintro x (hx | hx)
  ·exact .inl hx.1
  ·exact(m'.2 x hx).imp (fun z=>h.inc x (.inl z)) id
theorem a0V {K:W.Frag}{H:Hp}{a b:Addr}{xs:List V}{m:List ((Int ⊕ Str)×V)}{v:HO}(h:SqL K H a xs)(e:H b=some (.dK m)):SqL K (upd H b v) a xs:=by
 rcases h with (h | ⟨o,h⟩) | h
 ·exact .inl (.inl ((aL fun q=>by rw[q,e]at h;cases h).trans h))
 ·exact .inl (.inr ⟨o,(aL fun q=>by rw[q,e]at h;cases h).trans h⟩)
 ·exact .inr h
theorem a6L {m:List ((Int ⊕ Str)×V)}:¬ isT (.dK m):=fun ⟨_,z⟩=>by cases z
theorem yP {as:List Addr}{xs:List (List Int)}{i:Nat}{a:Addr}{x:List Int}(ha:as[i]? =some a)(hx:xs[i]? =some x):(lsC as xs)[i]? =some (a,HO.lst (x.map V.int)):=by
 unfold lsC
 rw[List.getElem?_zipWith,ha,hx]
theorem jA {as:List Addr}{xs:List (List Int)}(h:as.length=xs.length):(lsC as xs).length=xs.length:=by
 unfold lsC
 rw[List.length_zipWith,h,Nat.min_self]
theorem RlAt.sa_at {C:Addr}{A:Cs}{H:Hp}{r:Addr}{R:RS}{o:Own}{w:Rw}{i:Nat}{xs:List Int}(h:RlAt C A H r R o w)(hi:R.sa[i]? =some xs):∃a,w.sas[i]? =some a/\(railL C r w R)[i+7]? =some (a,.lst (xs.map V.int)):=by
 have hl:i<R.sa.length:=(Yg.mp hi).1
 have e1:=h.l1
 have e2:=h.l2
 have ha:w.sas[i]? =some (w.sas[i]'(by omega)):=Yb (by omega)
 refine⟨_,ha,?_⟩
 show (lsC w.sas R.sa++lsC w.hes R.he)[i]? =_
 rw[YH (by rw[jA (by omega)];exact hl)]
 exact yP ha hi
theorem RlAt.he_at {C:Addr}{A:Cs}{H:Hp}{r:Addr}{R:RS}{o:Own}{w:Rw}{i:Nat}{xs:List Int}(h:RlAt C A H r R o w)(hi:R.he[i]? =some xs):∃a,w.hes[i]? =some a/\(railL C r w R)[R.ps.length+i+7]? =some (a,.lst (xs.map V.int)):=by
 have hl:i<R.he.length:=(Yg.mp hi).1
 have e1:=h.l1
 have e2:=h.l2
 have e3:=h.l3
 have e4:=h.l4
 have ha:w.hes[i]? =some (w.hes[i]'(by omega)):=Yb (by omega)
 refine⟨_,ha,?_⟩
 show (lsC w.sas R.sa++lsC w.hes R.he)[R.ps.length+i]? =_
 have ll:=jA (as:=w.sas) (xs:=R.sa) (by omega)
 rw[Yz (by omega),show R.ps.length+i-(lsC w.sas R.sa).length=i by omega]
 exact yP ha hi
def spRlBits (C:Addr)(A:Cs):Sp:=fun vs H Q _=>∃r R o w,vs= [.ref r]/\RlAt C A H r R o w/\∀l,H l=none->Q (.ref l) (upd H l (.lst (R.bo.map V.int)))
theorem sU {as:List Addr}{xs:List (List Int)}{i:Nat}{a:Addr}{y:List Int}(ha:as[i]? =some a):lsC as (xs.set i y)=(lsC as xs).set i (a,HO.lst (y.map V.int)):=by
 unfold lsC
 apply List.ext_getElem?
 intro j
 rw[List.getElem?_zipWith,Xq,Xq,List.getElem?_zipWith]
 by_cases q:i=j
 ·subst q
  have hl:i<as.length:=(Yg.mp ha).1
  rw[if_pos rfl,if_pos rfl,ha,List.length_zipWith]
  by_cases z:i<xs.length
  ·rw[if_pos z,if_pos (by omega)]
  ·rw[if_neg z,if_neg (by omega)]
 ·rw[if_neg q,if_neg q]
theorem RlAt.say {C:Addr}{A:Cs}{H:Hp}{r:Addr}{R:RS}{o:Own}{w:Rw}{i:Nat}{xs:List Int}{a:Addr}{b:Int}(h:RlAt C A H r R o w)(hi:R.sa[i]? =some xs)(ha:w.sas[i]? =some a):RlAt C A (upd H a (.lst (xs.map V.int++[.int b]))) r { R with sa:=R.sa.set i (xs++[b]) } o w/\Mv o H o (upd H a (.lst (xs.map V.int++[.int b]))):=by
 obtain⟨a',ha',e⟩:=h.sa_at hi
 rw[ha]at ha'
 cases ha'
 have hl:i<R.sa.length:=(Yg.mp hi).1
 have e1:=h.l1
 have e2:=h.l2
 have em:xs.map V.int++[V.int b]=(xs++[b]).map V.int:=by rw[Yk];rfl
 have eL:lsC w.sas (R.sa.set i (xs++[b]))++lsC w.hes R.he=(lsC w.sas R.sa++lsC w.hes R.he).set i (a,.lst ((xs++[b]).map V.int)):=by
  rw[List.set_append_left _ _ (by rw[jA (by omega)];exact hl),sU ha]
 rw[em]
 refine h.put (k:=i+7) (w':=w) e a1X ?_ rfl rfl rfl rfl Xm rfl rfl h.ev
 show (r,_)::(w.PL,_)::(w.OW,_)::(w.BO,_)::(w.SA,_)::(w.HE,_)::(w.EV,_)::(lsC w.sas (R.sa.set i (xs++[b]))++lsC w.hes R.he)=_
 rw[eL]
 rfl
theorem RlAt.hrd {C:Addr}{A:Cs}{H:Hp}{r:Addr}{R:RS}{o:Own}{w:Rw}{i:Nat}{xs:List Int}{a:Addr}{b:Int}(h:RlAt C A H r R o w)(hi:R.he[i]? =some xs)(ha:w.hes[i]? =some a):RlAt C A (upd H a (.lst (xs.map V.int++[.int b]))) r { R with he:=R.he.set i (xs++[b]) } o w/\Mv o H o (upd H a (.lst (xs.map V.int++[.int b]))):=by
 obtain⟨a',ha',e⟩:=h.he_at hi
 rw[ha]at ha'
 cases ha'
 have hl:i<R.he.length:=(Yg.mp hi).1
 have e1:=h.l1
 have e2:=h.l2
 have em:xs.map V.int++[V.int b]=(xs++[b]).map V.int:=by rw[Yk];rfl
 have ll:=jA (as:=w.sas) (xs:=R.sa) (by omega)
 have eL:lsC w.sas R.sa++lsC w.hes (R.he.set i (xs++[b]))=(lsC w.sas R.sa++lsC w.hes R.he).set (R.ps.length+i) (a,.lst ((xs++[b]).map V.int)):=by
  rw[List.set_append_right _ _ (by omega),show R.ps.length+i-(lsC w.sas R.sa).length=i by omega,sU ha]
 rw[em]
 refine h.put (k:=R.ps.length+i+7) (w':=w) e a1X ?_ rfl rfl rfl rfl rfl rfl Xm h.ev
 show (r,_)::(w.PL,_)::(w.OW,_)::(w.BO,_)::(w.SA,_)::(w.HE,_)::(w.EV,_)::(lsC w.sas R.sa++lsC w.hes (R.he.set i (xs++[b])))=_
 rw[eL]
 rfl
theorem RlAt.bear {C:Addr}{A:Cs}{H:Hp}{r:Addr}{R:RS}{o:Own}{w:Rw}{b:Int}(h:RlAt C A H r R o w):RlAt C A (upd H w.BO (.lst (R.bo.map V.int++[.int b]))) r { R with bo:=R.bo++[b] } o w/\Mv o H o (upd H w.BO (.lst (R.bo.map V.int++[.int b]))):=by
 have em:R.bo.map V.int++[V.int b]=(R.bo++[b]).map V.int:=by rw[Yk];rfl
 rw[em]
 exact h.put (k:=3) (w':=w) rfl a1X rfl rfl rfl rfl rfl rfl rfl rfl h.ev
theorem RlAt.happen {C:Addr}{A:Cs}{H:Hp}{r t:Addr}{R:RS}{o:Own}{w:Rw}{e:Nat×Nat×Str}(h:RlAt C A H r R o w)(et:H t=some (.tup [.int ((e.1:Nat):Int),.int ((e.2.1:Nat):Int),.str e.2.2])):RlAt C A (upd H w.EV (.lst (w.evs++[.ref t]))) r { R with ev:=R.ev++[e] } o { w with evs:=w.evs++[.ref t] }/\Mv o H o (upd H w.EV (.lst (w.evs++[.ref t]))):=
 h.put (k:=6) (w':={ w with evs:=w.evs++[.ref t] }) rfl a1X rfl rfl rfl rfl rfl rfl rfl rfl (h.ev.snoc et)
def spRlPost (C:Addr)(A:Cs)(NP:Addr):Sp:=fun vs H Q E=>∃r R o w k,vs= [.ref r,.int k]/\RlAt C A H r R o w/\(∀(i:Nat) p,k=((i:Nat):Int)->w.ps[i]? =some p->Q (.ref p) H)/\(¬ (0<=k/\k<((R.ps.length:Nat):Int))->∀H',Same H H'->E (.ref NP) none H')
def spRlEvents (C:Addr)(A:Cs):Sp:=fun vs H Q _=>∃r R o w,vs= [.ref r]/\RlAt C A H r R o w/\∀l,H l=none->Q (.ref l) (upd H l (.lst w.evs))
def spRlHand (K:W.Frag)(C:Addr)(A:Cs)(NP NF NN:Addr):Sp:=fun vs H Q E=>∃r R o w k n a ds,vs= [.ref r,.int k,.int n,.ref a]/\RlAt C A H r R o w/\SqL K H a (ds.map V.int)/\ds.length<=500/\R.ow.length<=900/\(∀S∈R.ps,S.wt.length<900)/\
 (¬ (0<=k/\k<((R.ps.length:Nat):Int))->∀H',Same H H'->E (.ref NP) none H')/\((0<=k/\k<((R.ps.length:Nat):Int))->¬ FrOk n ds->∀H',Same H H'->E (.ref NF) none H')/\
 (∀ (i:Nat) S,k=((i:Nat):Int)->R.ps[i]? =some S->FrOk n ds->∃j:Int,(valV R.ow (.inl n)).getD (.int ((i:Nat):Int))= .int j/\(j≠((i:Nat):Int)->∀H',Same H H'->E (.ref NN) none H')/\
  (j=((i:Nat):Int)->∀H' o',RailAt C A H' r { R with ps:=R.ps.set i { S with wt:=S.wt++[(n.toNat,ds)] },ow:=putK R.ow (.inl n) (.int ((i:Nat):Int)) } o'->Mv o H o' H'->Q .non H'))
def evt (t n:Nat)(w:Str):List (Nat×Nat×Str):=if w="" then [] else [(t,n,w)]
def oneP (R R':RS)(n:Nat)(S:PS)(b:Int)(x y:List Int):RS:=
 { R' with ps:=R'.ps.set n (hearP S b).2,sa:=R'.sa.set n (x++[saysP S]),he:=R'.he.set n (y++[b]),ev:=R'.ev++evt R.bo.length n (hearP S b).1 }
def halfP (R:RS)(hs:List Int):Nat->RS
 |0=>R
 | n+1=>match R.ps[n]?,hs[n]?,R.sa[n]?,R.he[n]? with
  |some S,some b,some x,some y=>oneP R (halfP R hs n) n S b x y
  |_,_,_,_=>halfP R hs n
def turnP (R:RS)(hs:List Int)(b:Int):RS:={ halfP R hs R.ps.length with bo:=R.bo++[b] }
theorem gG {R:RS}{hs:List Int}{n:Nat}{S:PS}{b:Int}{x y:List Int}(e1:R.ps[n]? =some S)(e2:hs[n]? =some b)(e3:R.sa[n]? =some x)(e4:R.he[n]? =some y):halfP R hs (n+1)=oneP R (halfP R hs n) n S b x y:=by
 show (match R.ps[n]?,hs[n]?,R.sa[n]?,R.he[n]? with
  |some S,some b,some x,some y=>oneP R (halfP R hs n) n S b x y
  |_,_,_,_=>halfP R hs n)=_
 rw[e1,e2,e3,e4]
theorem eG (R:RS)(hs:List Int):∀n:Nat,(halfP R hs n).bo=R.bo/\(halfP R hs n).ow=R.ow/\(halfP R hs n).ps.length=R.ps.length/\(halfP R hs n).sa.length=R.sa.length/\(halfP R hs n).he.length=R.he.length/\(∀j,n<=j->(halfP R hs n).ps[j]? =R.ps[j]?/\(halfP R hs n).sa[j]? =R.sa[j]?/\(halfP R hs n).he[j]? =R.he[j]?)/\(halfP R hs n).ev.length<=R.ev.length+n
 |0=>⟨rfl,rfl,rfl,rfl,rfl,fun _ _=>⟨rfl,rfl,rfl⟩,Yd _⟩
 | n + 1 => by
  obtain⟨h1,h2,h3,h4,h5,h6,h7⟩:=eG R hs n
  have go :(halfP R hs (n+1)=halfP R hs n)\/∃S b x y,halfP R hs (n+1)=oneP R (halfP R hs n) n S b x y:=by
   cases e1:R.ps[n]? with
   |none=>left;show (match R.ps[n]?,hs[n]?,R.sa[n]?,R.he[n]? with | some S,some b,some x,some y=>oneP R (halfP R hs n) n S b x y | _,_,_,_=>halfP R hs n)=_;rw[e1]
   | some S=>
    cases e2:hs[n]? with
    |none=>left;show (match R.ps[n]?,hs[n]?,R.sa[n]?,R.he[n]? with | some S,some b,some x,some y=>oneP R (halfP R hs n) n S b x y | _,_,_,_=>halfP R hs n)=_;rw[e1,e2]
    | some b=>
     cases e3:R.sa[n]? with
     |none=>left;show (match R.ps[n]?,hs[n]?,R.sa[n]?,R.he[n]? with | some S,some b,some x,some y=>oneP R (halfP R hs n) n S b x y | _,_,_,_=>halfP R hs n)=_;rw[e1,e2,e3]
     | some x=>
      cases e4:R.he[n]? with
      |none=>left;show (match R.ps[n]?,hs[n]?,R.sa[n]?,R.he[n]? with | some S,some b,some x,some y=>oneP R (halfP R hs n) n S b x y | _,_,_,_=>halfP R hs n)=_;rw[e1,e2,e3,e4]
      |some y=>exact .inr ⟨S,b,x,y,gG e1 e2 e3 e4⟩
  rcases go with e | ⟨S,b,x,y,e⟩
  ·rw[e];exact⟨h1,h2,h3,h4,h5,fun j hj=>h6 j (by omega),by omega⟩
  ·rw [e]
   refine⟨h1,h2,?_,?_,?_,fun j hj=>⟨?_,?_,?_⟩,?_⟩
   ·show ((halfP R hs n).ps.set n _).length=_;rw[Xm];exact h3
   ·show ((halfP R hs n).sa.set n _).length=_;rw[Xm];exact h4
   ·show ((halfP R hs n).he.set n _).length=_;rw[Xm];exact h5
   ·show ((halfP R hs n).ps.set n _)[j]? =_;rw[XD (by omega)];exact(h6 j (by omega)).1
   ·show ((halfP R hs n).sa.set n _)[j]? =_;rw[XD (by omega)];exact(h6 j (by omega)).2.1
   ·show ((halfP R hs n).he.set n _)[j]? =_;rw[XD (by omega)];exact(h6 j (by omega)).2.2
   ·show ((halfP R hs n).ev++evt _ _ _).length<=_
    rw[Yc]
    have:(evt R.bo.length n (hearP S b).1).length<=1:=by unfold evt;split <;> simp
    omega
def Least (ns:List Int)(b:Int):Prop:=b∈ns/\∀z∈ns,b<=z
structure SzR (R:RS):Prop where
 bo:R.bo.length<900
 sa:∀x∈R.sa,x.length<900
 he:∀x∈R.he,x.length<900
 ev:R.ev.length<900
 up:∀S∈R.ps,S.up.length<900
def spRlMake (K:W.Frag)(C:Addr)(A:Cs)(spc:Addr->List V->Hp->VK->Prop):Sp:=fun vs H Q _=>∃r R o w f,∃hs:Int->Nat->Int,vs= [.ref r,.ref f]/\RlAt C A H r R o w/\R.ps≠ []/\SzR R/\(∀S∈R.ps,S.now.tag<=3)/\(∀b,Least (R.ps.map saysP) b->(∀i,i<R.ps.length->∀H1,Same H H1->FnE K H1 f/\∀Q1:VK,(∀H2,Same H1 H2->Q1 (.int (hs b i)) H2)->spc f [.int ((i:Nat):Int),.int ((R.bo.length:Nat):Int),.int b] H1 Q1)/\(∀i,hs b i=0\/hs b i=1)/\
 ∀H' o',RailAt C A H' r (turnP R ((List.range R.ps.length).map (hs b)) b) o'->Mv o H o' H'->Q (.int b) H')
theorem gU {L1 L2:List (Addr×HO)}{c0 c:Addr×HO}{j:Nat}(z:(L1++c0::L2)[j]? =some c):(j=L1.length/\c=c0)\/(j<L1.length/\(L1++L2)[j]? =some c)\/(L1.length<j/\(L1++L2)[j-1]? =some c):=by
 by_cases k:j<L1.length
 ·rw[YH k]at z
  exact .inr (.inl ⟨k,by rw[YH k];exact z⟩)
 ·rw[Yz (by omega)]at z
  cases e:j-L1.length with
  |zero=>rw[e]at z;exact .inl ⟨by omega,(Yt z).symm⟩
  |succ m=>rw[e]at z;exact .inr (.inr ⟨by omega,by rw[Yz (by omega),show j-1-L1.length=m by omega];exact z⟩)
theorem CellsAt.ins {H:Hp}{L1 L2:List (Addr×HO)}{a:Addr}{h:HO}(hc:CellsAt H (L1++L2))(n:H a=none):CellsAt (upd H a h) (L1++(a,h)::L2):=by
 have ne:∀(j:Nat)(c:Addr×HO),(L1++L2)[j]? =some c->c.1≠a:=fun j c z q=>by have:=hc.at_ j c z;rw[q,n]at this;cases this
 refine⟨fun j c z=>?_,fun j k c d z y q=>?_⟩
 ·rcases gU z with ⟨_,rfl⟩ | ⟨_,z⟩ | ⟨_,z⟩
  ·exact aB
  ·rw[aL (ne _ c z)];exact hc.at_ _ c z
  ·rw[aL (ne _ c z)];exact hc.at_ _ c z
 ·rcases gU z with ⟨n1,rfl⟩ | ⟨n1,z⟩ | ⟨n1,z⟩ <;> rcases gU y with ⟨n2,rfl⟩ | ⟨n2,y⟩ | ⟨n2,y⟩
  ·omega
  ·exact absurd q.symm (ne _ d y)
  ·exact absurd q.symm (ne _ d y)
  ·exact absurd q (ne _ c z)
  ·exact hc.ap _ _ c d z y q
  ·have:=hc.ap _ _ c d z y q;omega
  ·exact absurd q (ne _ c z)
  ·have:=hc.ap _ _ c d z y q;omega
  ·have:=hc.ap _ _ c d z y q;omega
structure Mk0 (A:Cs)(H0:Hp)(a:Addr)(H:Hp)(L:List (Addr×HO))(ps:List Addr)(Ss:List PS)(op:Own):Prop where
 cs:CellsAt H L
 po:PsAt A H ps Ss op
 dj:∀x,op x->∀(j:Nat)(c:Addr×HO),L[j]? =some c->c.1≠x
 nw:∀(j:Nat)(c:Addr×HO),L[j]? =some c->c.1=a\/H0 c.1=none
 npo:∀x,op x->H0 x=none
 kp:∀x u,x≠a->H0 x=some u->H x=some u
 ha:H a≠none
theorem mV {c0 c:Addr×HO}{j:Nat}(z:[c0][j]? =some c):j=0/\c=c0:=by
 cases j with
 |zero=>exact⟨rfl,(Yt z).symm⟩
 |succ j=>cases z
theorem Mk0.base {A:Cs}{H:Hp}{a:Addr}{v:HO}(e:H a=some v):Mk0 A H a H [(a,v)] [] [] (fun _=>False):=by
 refine⟨⟨fun j c z=>?_,fun i j c d z y q=>?_⟩,fun x hx=>hx.elim,fun x hx=>hx.elim,fun j c z=>?_,fun x hx=>hx.elim,fun x u _ q=>q,by rw[e];simp⟩
 ·obtain⟨_,rfl⟩:=mV z
  exact e
 ·rw[(mV z).1,(mV y).1]
 ·obtain⟨_,rfl⟩:=mV z
  exact .inl rfl
section
variable {A:Cs}{H0 H H':Hp}{a q:Addr}{L L1 L2:List (Addr×HO)}{ps:List Addr}{Ss:List PS}{op:Own}{v v':HO}
theorem Mk0.non0 (h:Mk0 A H0 a H L ps Ss op)(n:H q=none):H0 q=none:=by
 cases e:H0 q with
 |none=>rfl
 | some u=>
  by_cases z:q=a
  ·exact absurd (z▸n) h.ha
  ·rw[h.kp q u z e]at n;cases n
theorem Mk0.ins (h:Mk0 A H0 a H (L1++L2) ps Ss op)(n:H q=none):Mk0 A H0 a (upd H q v) (L1++(q,v)::L2) ps Ss op:=by
 have nq:=h.non0 n
 refine⟨h.cs.ins n,h.po.same (aH n v),fun x hx j c z y=>?_,fun j c z=>?_,h.npo,fun x u hx e=>?_,?_⟩
 ·rcases gU z with ⟨_,rfl⟩ | ⟨_,z⟩ | ⟨_,z⟩
  ·exact h.po.al x hx (y▸n)
  ·exact h.dj x hx _ c z y
  ·exact h.dj x hx _ c z y
 ·rcases gU z with ⟨_,rfl⟩ | ⟨_,z⟩ | ⟨_,z⟩
  ·exact .inr nq
  ·exact h.nw _ c z
  ·exact h.nw _ c z
 ·exact aH n v _ _ (h.kp x u hx e)
 ·have:=h.ha
  cases e:H a with
  |none=>exact absurd e this
  |some u=>rw[aH n v _ _ e];simp
theorem Mk0.put (h:Mk0 A H0 a H ((a,v)::L) ps Ss op)(nT:¬ isT v):Mk0 A H0 a (upd H a v') ((a,v')::L) ps Ss op:=by
 have e:H a=some v:=h.cs.at_ 0 _ rfl
 have old:∀(j:Nat)(c:Addr×HO),((a,v')::L)[j]? =some c->∃c',((a,v)::L)[j]? =some c'/\c'.1=c.1:=fun j c z=>by
  cases j with
  |zero=>cases z;exact⟨_,rfl,rfl⟩
  |succ j=>exact⟨c,z,rfl⟩
 refine⟨h.cs.put (i:=0) rfl v',h.po.move fun x u eu z=>?_,fun x hx j c z y=>?_,fun j c z=>?_,h.npo,fun x u hx eu=>?_,by rw[aB];simp⟩
 ·rw [aL fun y=>?_]
  ·exact eu
  ·rcases z with z | z
   ·exact h.dj x z 0 _ rfl y.symm
   ·rw[y,e]at eu;cases eu;exact nT z
 ·obtain⟨c',z1,z2⟩:=old j c z
  exact h.dj x hx j c' z1 (z2.trans y)
 ·obtain⟨c',z1,z2⟩:=old j c z
  rw[<-z2]
  exact h.nw j c' z1
 ·rw[aL hx];exact h.kp x u hx eu
theorem Mk0.post {p dp:Addr}{w:HO}{S:PS}{o:Own}(h:Mk0 A H0 a H L ps Ss op)(hp:H p=none)(hdp:H dp=none)(hP:PostAt A H' p S o)(hin:∀x,o x->x=p\/upd (upd H dp (.own p)) p w x=none)(hk:∀x u,x≠p->upd (upd H dp (.own p)) p w x=some u->H' x=some u):Mk0 A H0 a H' L (ps++[p]) (Ss++[S]) (Or2 op o):=by
 obtain⟨lw,g⟩:=a1J (Same.refl H) hp hdp hP hin hk
 have no:∀x,o x->H x=none:=fun x hx=>lw.fr x hx
 refine⟨h.cs.same g,h.po.snoc hP g no,fun x hx j c z y=>?_,h.nw,fun x hx=>?_,fun x u hx e=>g _ _ (h.kp x u hx e),?_⟩
 ·rcases hx with hx | hx
  ·exact h.dj x hx j c z y
  ·have:=h.cs.at_ j c z
   rw[y,no x hx]at this;cases this
 ·rcases hx with hx | hx
  ·exact h.npo x hx
  ·exact h.non0 (no x hx)
 ·have:=h.ha
  cases e:H a with
  |none=>exact absurd e this
  |some u=>rw[g _ _ e];simp
end
theorem pI {as:List Addr}{q:Addr}(n:Nat)(h:as.length=n):lsC (as++[q]) (List.replicate (n+1) [])=lsC as (List.replicate n [])++[(q,.lst [])]:=by
 unfold lsC
 rw[List.replicate_succ',List.zipWith_append (by rw[YA];exact h)]
 rfl
def R0 (ms:List (Int×Int))(v:Int):RS:={ ps:=ms.map fun m=>S0 m.1.toNat m.2.toNat v.toNat,ow:=[],bo:=[],sa:=List.replicate ms.length [],he:=List.replicate ms.length [],ev:=[] }
theorem Mk0.fin {C:Addr}{A:Cs}{H0 H:Hp}{a dx PL OW BO SA HE EV:Addr}{ps sas hes:List Addr}{op:Own}{ms:List (Int×Int)}{v:Int}(h:Mk0 A H0 a H (railL C a ⟨dx,PL,OW,BO,SA,HE,EV,ps,sas,hes, [],op⟩ (R0 ms v)) ps (R0 ms v).ps op)(l1:sas.length=ms.length)(l2:hes.length=ms.length)(l5:ms.length<=5):∃o,RailAt C A H a (R0 ms v) o/\∀x,o x->x=a\/H0 x=none:=by
 have lp:(R0 ms v).ps.length=ms.length:=Ya ..
 refine⟨fun x=>op x\/∃(j:Nat)(c:Addr×HO),(railL C a ⟨dx,PL,OW,BO,SA,HE,EV,ps,sas,hes, [],op⟩ (R0 ms v))[j]? =some c/\c.1=x,⟨_,h.cs,h.po,.nil,by rw[lp];exact l1,by rw[lp];exact YA ..,by rw[lp];exact l2,by rw[lp];exact YA ..,by rw[lp];exact l5,h.dj,fun x hx=>hx,fun x hx=>?_⟩,fun x hx=>?_⟩
 ·rcases hx with hx | ⟨j,c,z,rfl⟩
  ·exact h.po.al x hx
  ·rw[h.cs.at_ j c z];simp
 ·rcases hx with hx | ⟨j,c,z,rfl⟩
  ·exact .inr (h.npo x hx)
  ·exact h.nw j c z
def ChsAt (H:Hp)(cl:Addr)(ms:List (Int×Int)):Prop:=∃ts:List Addr,H cl=some (.lst (ts.map V.ref))/\ts.length=ms.length/\∀(i:Nat)(t:Addr)(m:Int×Int),ts[i]? =some t->ms[i]? =some m->H t=some (.tup [.int m.1,.int m.2])
theorem ChsAt.keep {H H':Hp}{cl:Addr}{ms:List (Int×Int)}(h:ChsAt H cl ms)(g:∀x u,(x=cl\/isT u)->H x=some u->H' x=some u):ChsAt H' cl ms:=by
 obtain⟨ts,h1,h2,h3⟩:=h
 exact⟨ts,g _ _ (.inl rfl) h1,h2,fun i t m z y=>g _ _ (.inr ⟨_,rfl⟩) (h3 i t m z y)⟩
def spRlInit (C:Addr)(A:Cs)(NP:Addr):Sp:=fun vs H Q E=>∃a dx cl v ms,vs= [.ref a,.ref cl,.int v]/\H a=some (.ins C dx [])/\ChsAt H cl ms/\ms.length<=500/\
 (((1<=ms.length/\ms.length<=5)/\∀m∈ms,PoOk m.1 m.2 v)->∀H' o,RailAt C A H' a (R0 ms v) o->(∀x,o x->x=a\/H x=none)->(∀x u,x≠a->H x=some u->H' x=some u)->Q .non H')/\
 (¬ ((1<=ms.length/\ms.length<=5)/\∀m∈ms,PoOk m.1 m.2 v)->∀H',(∀x u,x≠a->H x=some u->H' x=some u)->E (.ref NP) none H')
theorem a3U {S:PS}(wf:Wf S):saysP S=0\/saysP S=1:=by
 have hw:=wf.now
 have sy:saysP S=saysP S:=rfl
 conv at sy=>rhs;unfold saysP
 rw[sy]
 cases en:S.now with
 | speaks n ds k=>
  rw[en]at hw
  dsimp only
  rw[Ye,Yb hw.2.2.1]
  exact(gK hw.1).wbits _ (YG _)
 |tlR n ds v c=>dsimp only;unfold tlSays;split <;> first | exact .inl rfl | exact .inr rfl
 |tlS v c=>dsimp only;unfold tlSays;split <;> first | exact .inl rfl | exact .inr rfl
 |free k=>dsimp only;(repeat' split) <;> first | exact .inl rfl | exact .inr rfl
 |flag l m=>exact .inl rfl
 |reads h=>exact .inr rfl
 |settles m=>exact .inr rfl
 |rests l=>exact .inr rfl
 |off=>exact .inr rfl
def spWell:Sp:=fun vs H Q _=>∃a b c,vs= [.int a,.int b,.int c]/\Q (.int c) H
def spcW (a:Addr):Addr->List V->Hp->VK->Prop:=fun f vs H Q=>f=a/\∃x y z:Int,vs= [.int x,.int y,.int z]/\Q (.int z) H
theorem uC {P:Program}{w:World}{K:W.Frag}{mg:Str->Option Value}{base:Heap}{k:Nat}{a:Addr}{d:FuncData}{ps:List Str}(G:FnOk P w K mg base CX0 k a d ps spWell)(B:Binds K d ps []):RunsV P w K mg base k (spcW a):=by
 rintro f A outer s H us vs Q hr e0 r ⟨rfl,x,y,z,rfl,q⟩
 have hsp:spWell [.int x,.int y,.int z] H Q E0:=⟨x,y,z,rfl,q⟩
 have KX:K.In s.heap:=e0.mod.kin.keeps fun b o e=>(e0.bs b o e).1
 have hb:=B s us KX (by rw[YJ,<-r.length];exact G.len _ _ _ _ hsp)
 rw[YJ]at hb
 exact G.run A outer s H ⟨us, []⟩ us _ Q E0 hr e0 hb r hsp
def bitP (R:RS):Int:=if (0:Int)∈R.ps.map saysP then 0 else 1
theorem uY {ns:List Int}{b:Int}(h:∀z∈ns,z=0\/z=1)(l:Least ns b):b=if (0:Int)∈ns then 0 else 1:=by
 by_cases c:(0:Int)∈ns
 ·rw[if_pos c]
  have:=l.2 0 c
  rcases h b l.1 with z | z <;> omega
 ·rw[if_neg c]
  rcases h b l.1 with z | z
  ·exact absurd (z▸l.1) c
  ·exact z
def stepR (R:RS):RS:=turnP R ((List.range R.ps.length).map fun _=>bitP R) (bitP R)
def runR (R:RS):Nat->RS
 |0=>R
 |n+1=>stepR (runR R n)
theorem oM (R:RS):∀n:Nat,(runR R n).ps.length=R.ps.length
 |0=>rfl
 |n+1=>((eG (runR R n) _ _).2.2.1).trans (oM R n)
def spRlRun (C:Addr)(A:Cs):Sp:=fun vs H Q _=>∃(r:Addr)(R:RS)(o:Own)(w:Rw)(n:Nat),vs= [.ref r,.int ((n:Nat):Int),.non]/\RlAt C A H r R o w/\R.ps≠ []/\n<=500/\(∀k,k<=n->SzR (runR R k))/\(∀k,k<n->∀S∈(runR R k).ps,S.now.tag<=3)/\
 ∀l H1 o',RailAt C A H1 r (runR R n) o'->Mv o H o' H1->H1 l=none->Q (.ref l) (upd H1 l (.lst (((List.range n).map fun k=>bitP (runR R k)).map V.int)))
theorem RlAt.says54 {C:Addr}{A:Cs}{H:Hp}{r:Addr}{R:RS}{o:Own}{w:Rw}(h:RlAt C A H r R o w){b:Int}(hb:b∈R.ps.map saysP):b=0\/b=1:=by
 obtain⟨S,hS,rfl⟩:=Xg.mp hb
 obtain⟨i,hi,e⟩:=Xs hS
 obtain⟨p,oi,_,hP⟩:=h.at (i:=i) (S:=S) (by rw[Yb hi,e])
 exact a3U hP.wf
def spAskE (C:Addr)(A:Cs)(NP:Addr)(g:PS->Hp->VK->Prop):Sp:=fun vs H Q E=>∃r R o w k,vs= [.ref r,.int k]/\RlAt C A H r R o w/\(∀(i:Nat) S,k=((i:Nat):Int)->R.ps[i]? =some S->g S H Q)/\(¬ (0<=k/\k<((R.ps.length:Nat):Int))->∀H',Same H H'->E (.ref NP) none H')
def gStance:PS->Hp->VK->Prop:=fun S H Q=>(∃l,S.now= .rests l)/\∀t H',H t=none->Same H H'->H' t=some (.tup [.str S.now.shown.1,.int ((S.now.shown.2:Nat):Int)])->Q (.ref t) H'
def gN:PS->Hp->VK->Prop:=fun S H Q=>Q (.int S.tot) H
def gWaits:PS->Hp->VK->Prop:=fun S H Q=>S.wt.length<=900/\∀l xs H',H l=none->Same H H'->H' l=some (.lst xs)->FrsNew H H' xs S.wt->Q (.ref l) H'
def gGot:PS->Hp->VK->Prop:=fun S H Q=>S.up.length<=900/\∀l xs H',H l=none->Same H H'->H' l=some (.lst xs)->FrsNew H H' xs S.up->Q (.ref l) H'
abbrev FB (P:Program)(w:World)(K:W.Frag)(mg:Str->Option Value)(base:Heap)(CX:CXT)(k:Nat)(nm:Str)(a:Addr)(d:FuncData)(ps:List Str)(sp:Sp):Prop:=FnOk P w K mg base CX k a d ps sp/\Binds K d ps []/\W.keepIn K (.ref a)=true/\mg nm=some (.ref a)
abbrev MB (P:Program)(w:World)(K:W.Frag)(mg:Str->Option Value)(base:Heap)(CX:CXT)(k:Nat)(a:Addr)(d:FuncData)(ps:List Str)(sp:Sp):Prop:=FnOk P w K mg base CX k a d ps sp/\Binds K d ps []
abbrev FL (K:W.Frag)(f:Addr)(n q:Str)(st:Stmt)(oc:Value)(od:Option Addr)(kV dc pm:Value)(an:Option Addr)(cd ct:Value)(sl:Array (Option Value)):Prop:=K.lookup f=some ⟨oc,od,.func (W.fnOf n q (defArgs st) (defBody st) (defScope st) .none kV dc pm an cd ct),sl⟩
structure GFm (K:W.Frag)(mg:Str->Option Value)(nm:Str)(st:Stmt)(f:Addr)(d:FuncData):Prop where
 F:Fun K nm nm st f d
 m:mg nm=some (.ref f)
def GF (K:W.Frag)(mg:Str->Option Value)(nm:Str)(st:Stmt)(f:Addr):Prop:=∃d,GFm K mg nm st f d
def MF (K:W.Frag)(C:Addr)(x q:Str)(st:Stmt)(f:Addr):Prop:=W.findIn K (.ref C) x=some (some (.ref f))/\∃d,Fun K x q st f d
theorem gf_mk {K:W.Frag}{h:Heap}{mg:Str->Option Value}{nm:Str}{st:Stmt}{f:Addr}{oc kV dc pm cd ct:Value}{od an:Option Addr}{sl:Array (Option Value)}(X:K.In h)(G:h.Ns mainGlobals mg)(a:W.nsIn K mainGlobals nm=some (some (.ref f)))(l:FL K f nm nm st oc od kV dc pm an cd ct sl)(c:W.codeIn K cd nm=true)(k:W.keepIn K (.ref f)=true):GF K mg nm st f:=⟨_,zM l c k,W.mg_of X G a⟩
theorem mf_mk {K:W.Frag}{C:Addr}{x q:Str}{st:Stmt}{f:Addr}{oc kV dc pm cd ct:Value}{od an:Option Addr}{sl:Array (Option Value)}(a:W.findIn K (.ref C) x=some (some (.ref f)))(l:FL K f x q st oc od kV dc pm an cd ct sl)(c:W.codeIn K cd q=true)(k:W.keepIn K (.ref f)=true):MF K C x q st f:=⟨a,_,zM l c k⟩
abbrev HB (x q:Str)(st:Stmt)(ps:List Str):Prop:=∀(kV doc pm:Value)(an:Option Addr)(cdv ct:Value)(us:List Value),us.length=ps.length->bindArgs (W.fnOf x q (defArgs st) (defBody st) (defScope st) .none kV doc pm an cdv ct) ⟨us, []⟩=pure (ps.zip us)
theorem bi0 {d:FuncData}(h:bindArgs d ⟨[], []⟩=pure []):∀us:List Value,us.length=([]:List Str).length->bindArgs d ⟨us, []⟩=pure (([]:List Str).zip us) | [],_=>h
theorem bi1 {d:FuncData}{a:Str}(h:∀u,bindArgs d ⟨[u], []⟩=pure [(a,u)]):∀us:List Value,us.length= [a].length->bindArgs d ⟨us, []⟩=pure ([a].zip us):=by
 intro us hl
 rcases us with _ | ⟨u,_ | ⟨w_,l_⟩⟩
 ·simp at hl
 ·exact h u
 ·simp at hl
theorem bi2 {d:FuncData}{a b:Str}(h:∀u v,bindArgs d ⟨[u,v], []⟩=pure [(a,u),(b,v)]):∀us:List Value,us.length= [a,b].length->bindArgs d ⟨us, []⟩=pure ([a,b].zip us):=by
 intro us hl
 rcases us with _ | ⟨u,_ | ⟨v,_ | ⟨w_,l_⟩⟩⟩
 ·simp at hl
 ·simp at hl
 ·exact h u v
 ·simp at hl
theorem bi3 {d:FuncData}{a b c:Str}(h:∀u v x,bindArgs d ⟨[u,v,x], []⟩=pure [(a,u),(b,v),(c,x)]):∀us:List Value,us.length= [a,b,c].length->bindArgs d ⟨us, []⟩=pure ([a,b,c].zip us):=by
 intro us hl
 rcases us with _ | ⟨u,_ | ⟨v,_ | ⟨x,_ | ⟨w_,l_⟩⟩⟩⟩
 ·simp at hl
 ·simp at hl
 ·simp at hl
 ·exact h u v x
 ·simp at hl
theorem bi4 {d:FuncData}{a b c e:Str}(h:∀u v x y,bindArgs d ⟨[u,v,x,y], []⟩=pure [(a,u),(b,v),(c,x),(e,y)]):∀us:List Value,us.length= [a,b,c,e].length->bindArgs d ⟨us, []⟩=pure ([a,b,c,e].zip us):=by
 intro us hl
 rcases us with _ | ⟨u,_ | ⟨v,_ | ⟨x,_ | ⟨y,_ | ⟨w_,l_⟩⟩⟩⟩⟩
 ·simp at hl
 ·simp at hl
 ·simp at hl
 ·simp at hl
 ·exact h u v x y
 ·simp at hl
theorem sco {N ps:List Str}{sc:Scope}(h1:sc.kind= .function/\sc.isCoroutine=false/\sc.isGenerator=false)(h2:N.Nodup/\N.take ps.length=ps/\(∀x∈ps,sc.names.lookup x=some .local\/sc.names.lookup x=some .cell)/\∀y∈sc.names,y.2≠ .free):FnScope N ps sc:=⟨h1.1,h1.2.1,h1.2.2,h2.1,h2.2.1,h2.2.2.1,h2.2.2.2⟩
section
variable {P:Program}{w:World}{K:W.Frag}{mg:Str->Option Value}{base:Heap}{CX:CXT}{x q:Str}{st:Stmt}{f:Addr}{fd:FuncData}{ps:List Str}{k:Nat}{sp:Sp}
theorem mbM (N:List Str)(F:Fun K x q st f fd)(g:FnScope N ps (defScope st)->FnOk P w K mg base CX k f fd ps sp)(S:FnScope N ps (defScope st):=by exact sco ⟨rfl,rfl,rfl⟩ (by decide +kernel))
  (hb:HB x q st ps:=by first | exact fun _ _ _ _ _ _=>bi1 fun _=>rfl | exact fun _ _ _ _ _ _=>bi2 fun _ _=>rfl | exact fun _ _ _ _ _ _=>bi3 fun _ _ _=>rfl | exact fun _ _ _ _ _ _=>bi4 fun _ _ _ _=>rfl | exact fun _ _ _ _ _ _=>bi5 fun _ _ _ _ _=>rfl | exact fun _ _ _ _ _ _=>bi6 fun _ _ _ _ _ _=>rfl | exact fun _ _ _ _ _ _=>bi7 fun _ _ _ _ _ _ _=>rfl | exact fun _ _ _ _ _ _=>bi0 rfl):MB P w K mg base CX k f fd ps sp:=⟨g S,F.binds hb⟩
theorem fbM (N:List Str)(F:GFm K mg x st f fd)(g:FnScope N ps (defScope st)->FnOk P w K mg base CX k f fd ps sp)(S:FnScope N ps (defScope st):=by exact sco ⟨rfl,rfl,rfl⟩ (by decide +kernel))
  (hb:HB x x st ps:=by first | exact fun _ _ _ _ _ _=>bi1 fun _=>rfl | exact fun _ _ _ _ _ _=>bi2 fun _ _=>rfl | exact fun _ _ _ _ _ _=>bi3 fun _ _ _=>rfl | exact fun _ _ _ _ _ _=>bi4 fun _ _ _ _=>rfl | exact fun _ _ _ _ _ _=>bi5 fun _ _ _ _ _=>rfl | exact fun _ _ _ _ _ _=>bi6 fun _ _ _ _ _ _=>rfl | exact fun _ _ _ _ _ _=>bi7 fun _ _ _ _ _ _ _=>rfl | exact fun _ _ _ _ _ _=>bi0 rfl):FB P w K mg base CX k x f fd ps sp:=⟨g S,F.F.binds hb,F.F.kp,F.m⟩
end
section
variable (P:Program)(w:World){K:W.Frag}(mg:Str->Option Value)(base:Heap){CA:Cs}
variable {Zbn ZdJ Zco ZcG ZbL Zh1 ZgD ZgB Zh2 Zh4 Zha Zh3 Zju Zfg ZfM Zh5 ZgE Zfi ZfN ZdE Zc1 ZdD Zdi Zdh ZeL Zds ZfJ Zcj Zbm Zdr Zc0 ZcF Zd3 ZcC Zdd Zde Zd4 Zdt Zd2 Zez ZeB ZdG Zd7 Zdu ZcY Zdj Zea ZcZ Zdy Zdx ZcD ZbK ZbJ ZgC Zdf ZeE Zjt Zd5 Zfl ZfP Zhb ZfO Zfh ZeA ZeG ZdF ZeC ZdH Zd8 Zdv ZeD Zd9 ZdI Zdw Zdz ZeH ZeF Zdg ZeK ZeJ ZcE ZdA ZdC Zd6 Zfm ZdB ZeI Zfn Zgy Zgx ZgA ZfL Zff Zey Zgz Zg9 ZfK ZlE ZlT ZkV ZfI ZlD Zcy ZbH Zdq ZjY Zm:Addr}
variable {Zij Zhu Zfj ZfU Zed Zkm Zi4 Zi2 Zkn Zkp ZjF Zko ZkX Zhw Zii Zkq Zi5 Zhy Zik Zhp Zf4 Zho ZgK ZgJ ZiW ZiX Zif Zf5 ZeS ZiV Zf3 ZfT Zh7 ZfQ ZgF ZgG Zh8 Zhe Zh6 ZgN ZiL Zhr Zib Zhf Zf1 ZgL Zie Zf2 Zhj Zhi ZfR Zec Zeb Zi3 ZgH ZiO ZkW Zh9 ZjB Zim ZjG Zil Zhx ZgO ZiQ Zhq ZiM Zhs Zic Zhg ZiN Zid Zht Zhh Zhk ZiR ZiP ZgI ZiU ZiT ZfS Zhl Zhn Zia ZjC Zhm ZiS ZjD ZiZ ZiY Zi1 Zih Zhv ZgM Zi0 ZjE Zig ZlQ:FuncData}
variable {Zkk ZlV Zll ZlB Zkl Zlm ZlP ZlC ZlO Zly Zln ZkN ZkP Zlp ZlK Zlx ZlL ZlA Zlq ZkO Zlz Zlo:Tok}
variable (ZbZ:mg "MOST_ALIKE"=some (.int 5 Zlm))
variable (Zam:mg "NoBits"=some (.ref ZkV))
variable (Zdn:mg "HIGHEST_BYTE"=some (.int 255 Zkk))
variable (ZG:mg "NoKey"=some (.ref ZlD))
variable (ZkQ:mg "KEY"=some (.int 64647 ZlV))
variable (Zbo:mg "CHECK_BITS"=some (.int 15 Zll))
variable (Zdo:mg "HIGHEST_NAME"=some (.int 255 Zkl))
variable (ZdW:mg "Streak"=some (.ref CA.streak))
variable (Zn:mg "NoFrame"=some (.ref Zcy))
variable (Zei:mg "MOST_BYTES"=some (.int 7 Zln))
variable (ZeO:mg "NAME_BITS"=some (.int 8 ZlB))
variable (ZeP:mg "SIZE_BITS"=some (.int 3 ZlC))
variable (ZaI:mg "BYTE_BITS"=some (.int 8 Zly))
variable (Zc8:mg "SIZE_AT"=some (.int 9 ZlP))
variable (Zbp:mg "DATA_AT"=some (.int 12 ZlO))
variable (Zcn:mg "ANSWER_AT"=some (.int 1 Zlx))
variable (ZcL:mg "VOTES_AT"=some (.int 9 ZlL))
variable (Zc9:mg "Tail"=some (.ref Zdq))
variable (Zek:mg "QUIET_FROM"=some (.int 12 Zlp))
variable (Zfp:mg "OFF_FROM"=some (.int 18 ZlK))
variable (ZdM:mg "GREAT_FAULT"=some (.int 8 ZkN))
variable (ZdO:mg "SMALL_FAULT"=some (.int 1 ZkP))
variable (Zhc:mg "Reader"=some (.ref CA.reader))
variable (ZkR:mg "Off"=some (.ref CA.off))
variable (Zfo:mg "Flagging"=some (.ref CA.flag))
variable (ZeN:mg "FLAG_BITS"=some (.int 6 ZlA))
variable (Zf6:mg "Settles"=some (.ref CA.settles))
variable (ZcX:mg "VOTES"=some (.ref ZjY))
variable (ZK:mg "NoPost"=some (.ref ZbH))
variable (ZiF:mg "Count"=some (.ref CA.count))
variable (ZfV:mg "Free"=some (.ref CA.free))
variable (ZdN:mg "QUIET_TURNS"=some (.int 8 ZkO))
variable (ZdV:mg "Speaks"=some (.ref CA.speaks))
variable (ZcW:mg "Reads"=some (.ref CA.reads))
variable (ZdU:mg "InTail"=some (.ref CA.intail))
variable (Zfq:mg "ReadTail"=some (.ref CA.rtail))
variable (ZeM:mg "DUEL_BITS"=some (.int 9 Zlz))
variable (ZeQ:mg "SpeakTail"=some (.ref CA.stail))
variable (ZgP:mg "Rests"=some (.ref CA.rests))
variable (Zc7:mg "REST_TURNS"=some (.int 3 Zlq))
variable (Z6:mg "Rail"=some (.ref Zm))
variable (Zej:mg "MOST_POSTS"=some (.int 5 Zlo))
variable (ZjH:mg "Post"=some (.ref CA.post))
variable (ZcK:mg "NoName"=some (.ref ZfI))
variable (ZB:mg "range"=none)
variable (ZkS:mg "all"=none)
variable (ZaD:mg "list"=none)
variable (Zx:mg "len"=none)
variable (ZkU:mg "max"=none)
variable (Zhd:mg "min"=none)
variable (ZeR:mg "enumerate"=none)
variable (ZkT:mg "int"=none)
variable (Zdm:TupK K ZjY [1,3,5])
variable (Zee:∃oc od fd sl,K.lookup Zbn=some ⟨oc,od,.func fd,sl⟩)
variable (Zg:TCl K CA.rtail)
variable (Zf:TCl K CA.stail)
variable (Zh:Cls K CA.streak)
variable (Zbb:Mk K CA.streak ZdJ)
variable (Ze:Cls K CA.reader)
variable (Z9:CMeth K Zdq "__init__" ZeL)
variable (Zd:Cls K CA.count)
variable (Zdl:Mk K CA.reader ZdE)
variable (ZL:Cls K CA.free)
variable (Zi:Cls K CA.speaks)
variable (ZC:Cls K CA.reads)
variable (Zq:Cls K CA.intail)
variable (ZbI:Cls K CA.flag)
variable (ZcH:Cls K CA.settles)
variable (Zai:Cls K CA.rests)
variable (Za:Cls K CA.post)
variable (ZcI:Mk K CA.flag ZcY)
variable (Zc4:Mk K CA.settles Zdj)
variable (ZdL:Mk K CA.count Zd3)
variable (ZbY:Mk K CA.free ZeB)
variable (Zba:Mk K CA.speaks ZdG)
variable (Zau:Mk K CA.reads Zd7)
variable (Za9:Mk K CA.intail Zdu)
variable (ZcJ:Mk K CA.rtail Zc0)
variable (Zcp:Mk K CA.stail ZcF)
variable (ZcM:Mk K CA.rests Zea)
variable (Zb:Cls K Zm)
variable (Zef:Mk K CA.post ZeG)
variable (Zeg:Mk K Zm ZeK)
variable (ZR:Meth K CA.streak "lengthen" Zco)
variable (ZA:Meth K CA.streak "is_full" ZcG)
variable (ZaB:Meth K CA.streak "is_too_long" ZbL)
variable (Za4:Meth K CA.reader "judged" Zc1)
variable (ZaR:Meth K CA.rtail "is_fault" Zcj)
variable (ZaK:Meth K CA.stail "is_fault" Zcj)
variable (ZaC:Meth K CA.rtail "judged_vote" Zbm)
variable (Zan:Meth K CA.stail "judged_vote" Zbm)
variable (Z5:Meth K CA.count "is_off" Zdd)
variable (Zae:Meth K CA.count "move" Zd4)
variable (ZO:Meth K CA.reader "hear" ZdD)
variable (ZaY:Meth K CA.count "is_quiet" ZcC)
variable (Zbc:Meth K CA.count "number" Zde)
variable (Zby:Meth K CA.post "is_off" Zdy)
variable (Zeh:MkB K CA.off)
variable (Zaa:Meth K CA.count "fault" Zdt)
variable (ZaZ:Meth K CA.post "has_frame" ZcD)
variable (Za3:Meth K CA.post "is_quiet" ZcZ)
variable (ZaP:Meth K CA.rtail "says" Zds)
variable (ZaH:Meth K CA.stail "says" Zds)
variable (Zaj:Meth K CA.free "says" ZeC)
variable (Zaz:Meth K CA.post "foremost_wire" ZbK)
variable (Zbe:Meth K CA.reader "frame" Zdh)
variable (Zbf:Meth K CA.reader "plain" Zdi)
variable (ZbM:Meth K CA.count "good" Zd2)
variable (Zay:Meth K CA.post "drop_foremost" ZbJ)
variable (Zbd:Meth K CA.post "hand_up" Zdf)
variable (ZaO:Meth K CA.rtail "hear" Zdr)
variable (ZaG:Meth K CA.stail "hear" Zdr)
variable (ZbD:Meth K CA.rests "shown" ZdF)
variable (ZbE:Meth K CA.speaks "says" ZdH)
variable (ZbO:Meth K CA.reads "says" Zd8)
variable (Zbv:Meth K CA.intail "says" Zdv)
variable (Zb0:Meth K CA.free "step" ZeD)
variable (ZbF:Meth K CA.speaks "step" ZdI)
variable (ZbP:Meth K CA.reads "step" Zd9)
variable (Zbw:Meth K CA.intail "step" Zdw)
variable (Zl:Meth K Zm "post_at" Zdg)
variable (Zb1:Meth K CA.post "hand" ZeE)
variable (Zb3:Meth K CA.post "says" ZeH)
variable (Zb2:Meth K CA.post "hear" ZeF)
variable (Zbz:Meth K CA.post "stance" Zdz)
variable (ZbN:Meth K CA.post "waits" Zd5)
variable (Zck:Meth K CA.post "got" Zfl)
variable (Zbx:Meth K CA.post "faults" Zdx)
variable (Za0:Meth K Zm "make_turn" ZcE)
variable (Zak:Meth K Zm "hand" ZeJ)
variable (Zb4:Meth K Zm "bits" ZeI)
variable (Zcm:Meth K Zm "run" Zfn)
variable (ZbA:Meth K Zm "events" ZdA)
variable (ZbB:Meth K Zm "faults" ZdB)
variable (ZaA:Meth K Zm "waits" Zd6)
variable (Zcl:Meth K Zm "got" Zfm)
variable (ZbC:Meth K Zm "stance" ZdC)
variable (Z8:NoAttr K CA.streak "last")
variable (Zt:NoAttr K CA.streak "alike")
variable (Zw:NoAttr K CA.reader "streak")
variable (Zp:NoAttr K CA.reader "kept")
variable (ZE:NoAttr K CA.reader "answer")
variable (Zo:NoAttr K CA.count "total")
variable (ZW:NoAttr K CA.free "since")
variable (ZF:NoAttr K CA.speaks "wire")
variable (ZQ:NoAttr K CA.speaks "reader")
variable (Zz:NoAttr K CA.speaks "many")
variable (ZV:NoAttr K CA.reads "reader")
variable (Zao:NoAttr K CA.reads "many")
variable (Zy:NoAttr K CA.intail "tail")
variable (Zaf:NoAttr K CA.intail "found")
variable (ZbG:NoAttr K CA.flag "left")
variable (ZaJ:NoAttr K CA.flag "may_blame")
variable (ZaQ:NoAttr K CA.settles "may_blame")
variable (Zap:NoAttr K CA.rests "left")
variable (Zk:NoAttr K CA.post "tally")
variable (Zj:NoAttr K CA.post "waiting")
variable (Zal:NoAttr K CA.post "choice")
variable (ZH:NoAttr K CA.post "handed_up")
variable (ZX:NoAttr K CA.post "votes")
variable (ZJ:NoAttr K CA.post "now")
variable (ZD:NoAttr K Zm "posts")
variable (Z7:NoAttr K Zm "owners")
variable (ZM:NoAttr K Zm "borne")
variable (Zag:NoAttr K Zm "sayings")
variable (Zab:NoAttr K Zm "hearings")
variable (ZP:NoAttr K Zm "happened")
variable (Zc2:W.excIn K ZkV [.type "ValueError",.type "Exception",.type "BaseException",.type "object"] "ValueError.__new__"=true)
variable (Zdk:W.excIn K ZlD [.type "ValueError",.type "Exception",.type "BaseException",.type "object"] "ValueError.__new__"=true)
variable (Z0:W.excIn K Zcy [.type "ValueError",.type "Exception",.type "BaseException",.type "object"] "ValueError.__new__"=true)
variable (ZT:W.excIn K ZbH [.type "ValueError",.type "Exception",.type "BaseException",.type "object"] "ValueError.__new__"=true)
variable (Zc3:W.excIn K ZfI [.type "ValueError",.type "Exception",.type "BaseException",.type "object"] "ValueError.__new__"=true)
variable (ZdK:W.exmOne K (.ref ZfI) (.ref ZfI)=some true)
set_option maxHeartbeats 4000000
variable (ZaX:FB P w K mg base (CX0) 1 "heard_well" Zbn Zij ["post","turn","bit"] (spWell))
theorem ZkJ (F0:GFm K mg "heard_well" ZiB Zbn Zij):type_of% ZaX:=by
 refine fbM ["post","turn","bit"] F0 fun Sc0=>F0.F.ok Sc0 (fun vs H Q E h=>?_) fun cdv A outer s H vs Q E hr h=>?_
 ·obtain⟨a,b,c,rfl,_⟩:=h
  rfl
 obtain⟨a,b,c,rfl,q⟩:=h
 have nd:=Sc0.nd
 refine⟨_,(aG (aM (dv 2))),?_⟩
 exact q
variable (Zat:MB P w K mg base (CX0) 1 ZdJ Zhu ["self"] (spSkInit CA.streak))
include Zh Z8 Zt in
theorem Zkf (F0:Fun K "__init__" "Streak.__init__" ZhP ZdJ Zhu):type_of% Zat:=by
 refine mbM ["self"] F0 fun Sc0=>F0.ok Sc0 (fun vs H Q E h=>?_) fun cdv A outer s H vs Q E hr h=>?_
 ·obtain⟨a,dx,rfl,_⟩:=h
  rfl
 obtain⟨a,dx,rfl,ha,q⟩:=h
 have nd:=Sc0.nd
 refine⟨_,(aF (bJ Zh Z8 (dv 0) jT) (aG (bJ Zh Zt (dv 0) aJ))),?_⟩
 refine⟨dx, [],ha,by decide,?_⟩
 refine⟨dx,_,aB,by decide,?_⟩
 exact q _ (by rw[eO];rfl)
variable (ZS:MB P w K mg base (CX0) 1 Zco Zfj ["self","bit"] (spSkLen CA.streak))
include Zh Z8 Zt in
theorem Zin (F0:Fun K "lengthen" "Streak.lengthen" Zfk Zco Zfj):type_of% ZS:=by
 refine mbM ["self","bit"] F0 fun Sc0=>F0.ok Sc0 (fun vs H Q E h=>?_) fun cdv A outer s H vs Q E hr h=>?_
 ·obtain⟨a,s,b,rfl,_⟩:=h
  rfl
 obtain⟨a,s,b,rfl,⟨dx,ha⟩,q⟩:=h
 have nd:=Sc0.nd
 refine⟨_,(aF (bJ Zh Zt (dv 0) (bR (cL (aX cV (dv 1) (aO Zh Z8 (dv 0)) (aR _)) (aU bZ (aO Zh Zt (dv 0)) aJ) aJ))) (aG (bJ Zh Z8 (dv 0) (dv 1)))),?_⟩
 refine⟨fun x H'=>x= .int (((skp s b).2:Nat):Int)/\H'=H,?_,?_⟩
 ·obtain⟨l,n⟩:=s
  cases l with
  |none=>exact⟨dx,_,.non,ha,rfl,rfl,rfl⟩
  | some c=>
   refine⟨dx,_,.int c,ha,rfl,?_⟩
   conv=>whnf
   refine bK (fun z=>?_) (fun z=>?_)
   ·have e:b=c:=dec_true z
    subst e
    refine⟨dx,_,.int n,ha,rfl,?_,rfl⟩
    have e2:(skp (some b,n) b).2=n+1:=if_pos rfl
    rw[e2];rfl
   ·have e:¬ b=c:=dec_false z
    refine⟨?_,rfl⟩
    have e2:(skp (some c,n) b).2=1:=if_neg fun y=>e (Yt y).symm
    rw[e2];rfl
 rintro x H' ⟨rfl,rfl⟩
 refine⟨dx,_,ha,(show 2<1000 by decide),?_⟩
 refine⟨dx,_,aB,(show 2<1000 by decide),?_⟩
 refine q _ ⟨dx,?_⟩ fun x hx=>by rw[aL hx,aL hx]
 rw[aB]
 rfl
variable (ZI:MB P w K mg base (CX0) 1 ZcG ZfU ["self"] (spSkFull CA.streak))
include ZbZ Zh Zt in
theorem ZiK (F0:Fun K "is_full" "Streak.is_full" Zf0 ZcG ZfU):type_of% ZI:=by
 refine mbM ["self"] F0 fun Sc0=>F0.ok Sc0 (fun vs H Q E h=>?_) fun cdv A outer s H vs Q E hr h=>?_
 ·obtain⟨a,s,rfl,_⟩:=h
  rfl
 obtain⟨a,s,rfl,⟨dx,ha⟩,q⟩:=h
 have nd:=Sc0.nd
 refine⟨_,(aG (aM (cD cV (aO Zh Zt (dv 0)) (bA (v:= .int 5) rfl ZbZ ⟨_,rfl⟩) (aR _)))),?_⟩
 refine⟨dx,_,.int s.2,ha,rfl,?_⟩
 conv=>whnf
 rw[vQ]
 exact q
variable (Zax:MB P w K mg base (CX0) 1 ZbL Zed ["self"] (spSkLong CA.streak))
include ZbZ Zh Zt in
theorem ZgS (F0:Fun K "is_too_long" "Streak.is_too_long" Zen ZbL Zed):type_of% Zax:=by
 refine mbM ["self"] F0 fun Sc0=>F0.ok Sc0 (fun vs H Q E h=>?_) fun cdv A outer s H vs Q E hr h=>?_
 ·obtain⟨a,s,rfl,_⟩:=h
  rfl
 obtain⟨a,s,rfl,⟨dx,ha⟩,q⟩:=h
 have nd:=Sc0.nd
 refine⟨_,(aG (aM (cD wF (aO Zh Zt (dv 0)) (bA (v:= .int 5) rfl ZbZ ⟨_,rfl⟩) (aR _)))),?_⟩
 refine⟨dx,_,.int s.2,ha,rfl,?_⟩
 show Q (.bl (decide ((5:Int)<((s.2:Nat):Int)))) H
 rw[a2K]
 exact q
variable (ZU:FB P w K mg base (CXR P w) 1 "bits_of" Zh1 Zkm ["number","many"] (spBitsOf))
include Zam ZB Zc2 in
theorem ZlF (F0:GFm K mg "bits_of" Zkr Zh1 Zkm):type_of% ZU:=by
 refine fbM ["number","many"] F0 fun Sc0=>F0.F.okR Sc0 (fun vs H Q E h=>?_) fun cdv A outer s H vs Q E hr h=>?_
 ·obtain⟨n,m,rfl,_⟩:=h
  rfl
 obtain⟨n,m,rfl,hn,hm,q⟩:=h
 have nd:=Sc0.nd
 refine⟨_,(aF (bF (PW.pt (lL (aX wC (dv 0) aJ (aR _)) (jP (aX iU (aU vZ (dv 0) (dv 1)) aJ (aR _))))) (aG (cF YM Zam Zc2 (aA aY aD))) aV) (aG (aM (dH rfl (ix:=[0,1]) (bT rfl ZB (aA (dv 1) aD)) (fun C fp s0 H0 at0=>cG) (fun C fp s0 H0 at0=>(aU oA (aU vZ (dv 1) (aU gB (aU gB (dv 2) aJ) (dv 0))) aJ)) rfl rfl (by rfl) (show ([".0","place","number","many"]:List Str).Nodup by decide +kernel))))),?_⟩
 refine⟨by omega,?_⟩
 conv=>whnf
 refine yZ (vO hn) ?_
 have em:((m:Nat):Int).toNat=m:=YD m
 refine⟨⟨by omega,by omega⟩,cQ (fun i ys H'=>ys=((bitsI n m).take i).map V.int/\H'=H) ?_ ⟨rfl,rfl⟩ ?_ ?_⟩
 ·rintro i ys H' hi ⟨rfl,_⟩
  refine bI ?_
  rw[Ya,Yo,bC]
  omega
 ·rintro i ys H' hi ⟨rfl,rfl⟩
  rw[em]at hi
  refine⟨(by show (0:Int)<=(m:Int)-1-(0+(i:Int));omega),?_,rfl⟩
  have e:(m:Int)-1-(0+(i:Int))=((m-1-i:Nat):Int):=by omega
  show _++[V.int (Builtin.bitAnd ((n:Int) / 2 ^ ((m:Int)-1-(0+(i:Int))).toNat) 1)]=_
  rw[e,a3H,lH hi,Yk]
  rfl
 ·rintro ys H' ⟨rfl,rfl⟩ p hp
  rw[em,Yi (by rw[bC];exact Yd _)]
  exact q p hp
variable (Zu:FB P w K mg base (CX0) 1 "number_of" ZgD Zi4 ["bits"] (spNumberOf K))
theorem Zlh (F0:GFm K mg "number_of" Zjp ZgD Zi4):type_of% Zu:=by
 refine fbM ["bits","number","bit"] F0 fun Sc0=>F0.F.ok Sc0 (fun vs H Q E h=>?_) fun cdv A outer s H vs Q E hr h=>?_
 ·obtain⟨a,bs,rfl,_⟩:=h
  rfl
 obtain⟨a,bs,rfl,hS,hb,hl,q⟩:=h
 have nd:=Sc0.nd
 refine⟨_,(aF (aW (i:=1) nd rfl (Or.inl rfl) aJ) (aF (cO YR rfl (cM (dv 0)) (cC (i:=2) nd rfl (Or.inl rfl)) (aG (aW (i:=1) nd rfl (Or.inl rfl) (aU bZ (aU gH (dv 1) aJ) (dv 2))))) (aG (aM (dv 1))))),?_⟩
 refine⟨⟨_,hS⟩,eN (xs:=bs.map V.int) (fun i σ H'=>(∃x,σ= [some (.ref a),some (.int (numI (bs.take i))),x])/\H'=H) ⟨⟨_,rfl⟩,rfl⟩ (fun i σ H' _ z=>by rw[z.2];exact hS) ?_ ?_⟩
 ·rintro i x σ H' hx ⟨⟨y,rfl⟩,rfl⟩
  obtain⟨hi,rfl⟩:=eZ hx
  have hb':Bits (bs.take i):=fun b h=>hb b (Xp h)
  have b1:=mX hb'
  have b2:(2:Int) ^ (bs.take i).length<=2 ^ 450:=qF (by rw[Yo];omega)
  refine⟨⟨a0I (n:=450) (uM b1.1 (by omega)),eE (by decide) (by decide)⟩,⟨some (.int bs[i]),?_⟩,rfl⟩
  rw[Yf hi,iD]
  rfl
 ·rintro σ H' ⟨⟨y,rfl⟩,rfl⟩
  rw[Ya,Yi (Yd _),a1W hb]
  exact q
variable (Zac:FB P w K mg base (CX0) 1 "are_bytes" ZgB Zi2 ["numbers"] (spBytes K))
include Zdn ZkS in
theorem Zlf (F0:GFm K mg "are_bytes" Zjn ZgB Zi2):type_of% Zac:=by
 refine fbM ["numbers"] F0 fun Sc0=>F0.F.ok Sc0 (fun vs H Q E h=>?_) fun cdv A outer s H vs Q E hr h=>?_
 ·obtain⟨a,ns,rfl,_⟩:=h
  rfl
 obtain⟨a,ns,rfl,hS,hl,q⟩:=h
 have nd:=Sc0.nd
 refine⟨_,(aG (aM (bB (a6A rfl) rfl ZkS a5L (aA (dH rfl (ix:=[]) (a4S (dv 0)) (fun C fp s0 H0 at0=>cG) (fun C fp s0 H0 at0=>(pH pZ pZ aJ (dv 0) (bA (v:= .int 255) rfl Zdn ⟨_,rfl⟩))) rfl rfl (by rfl) (show ([".0","number"]:List Str).Nodup by decide +kernel)) aD)))),?_⟩
 refine a0D hS (fun i ys=>ys=((ns.take i).map byt).map V.bl) ?_ rfl ?_ ?_
 ·rintro i ys hi rfl
  refine bI ?_
  rw[Ya,Ya,Yo]
  omega
 ·rintro i x ys hx rfl
  obtain⟨hi,rfl⟩:=eZ hx
  conv=>whnf
  refine bK (fun c=>⟨?_,rfl⟩) (fun c=>⟨?_,rfl⟩)
  ·have c1:(0:Int)<=ns[i]:=dec_true c
   rw[Yf hi,Yk,Yk]
   show _++[V.bl (decide (ns[i]<=255))]=_++[V.bl (byt ns[i])]
   unfold byt
   rw[Yl c1,Bool.true_and]
  ·have c1:¬ (0:Int)<=ns[i]:=dec_false c
   rw[Yf hi,Yk,Yk]
   show _++[V.bl false]=_++[V.bl (byt ns[i])]
   unfold byt
   rw[Ym c1,Bool.false_and]
 rintro ys rfl p hp
 rw[Ya,Yi (Yd _)]
 refine⟨ns.map byt,SqL.of aB,?_⟩
 have e:(ns.map byt).all id=ns.all byt:=by rw[List.all_map];rfl
 rw[e]
 exact q _ (aH hp _)
variable (Zcv:FB P w K mg base (CXR P w) 1 "divided" Zh2 Zkn ["number","key"] (spDivided))
include ZG Zdk in
theorem ZlG (F0:GFm K mg "divided" Zks Zh2 Zkn):type_of% Zcv:=by
 refine fbM ["number","key","whole","rest","power"] F0 fun Sc0=>F0.F.okR Sc0 (fun vs H Q E h=>?_) fun cdv A outer s H vs Q E hr h=>?_
 ·obtain⟨a,rfl,_⟩:=h
  rfl
 obtain⟨a,rfl,ha,q⟩:=h
 have nd:=Sc0.nd
 refine⟨_,(aF (bF (aX cV (dv 1) aJ (aR _)) (aG (cF YM ZG Zdk (aA aY aD))) aV) (aF (aW (i:=2) nd rfl (Or.inl rfl) aJ) (aF (aW (i:=3) nd rfl (Or.inl rfl) (dv 0)) (aF (jQ PassesOwn.leaving (aX tY (sS (dv 3)) (sS (dv 1)) (aR _)) (aF (aW (i:=4) nd rfl (Or.inl rfl) (aU gB (sS (dv 3)) (sS (dv 1)))) (aF (aW (i:=2) nd rfl (Or.inl rfl) (aU rZ (dv 2) (aU sE aJ (dv 4)))) (aG (aW (i:=3) nd rfl (Or.inl rfl) (aU rZ (dv 3) (aU sE (dv 1) (dv 4)))))))) (aG (aM (bQ (aA (dv 2) (aA (dv 3) aD))))))))),?_⟩
 refine⟨fun mm σ H'=>∃(w r:Nat)(p:Option V),mm=bl r/\σ= [some (.int a),some (.int 64647),some (.int w),some (.int r),p]/\H'=H/\r<2 ^ 450/\R r=R a,⟨_,0,a,_,rfl,rfl,rfl,ha,rfl⟩,?_⟩
 rintro mm σ H' ⟨w,r,p,rfl,rfl,rfl,hr,e⟩
 conv=>whnf
 refine bK (fun c=>?_) (fun c=>?_)
 ·have c1:16<=bl r:=by
   have:((Builtin.Int.intBits (64647:Int):Nat):Int)<=((Builtin.Int.intBits (r:Int):Nat):Int):=dec_true c
   have k:=rB
   show 16<=Builtin.Int.intBits (r:Int)
   have k':Builtin.Int.intBits (64647:Int)=16:=k
   omega
  obtain⟨t1,t2,t3⟩:=yW hr c1
  have r3:=a0H hr
  refine⟨fun σ' H2=>∃(w:Nat)(p:Option V),σ'= [some (.int a),some (.int 64647),some (.int w),some (.int ((r ^^^ 64647 <<< (bl r-16):Nat):Int)),p]/\H2=H',?_,?_⟩
  ·rintro σ' H2 ⟨w',p',rfl,rfl⟩
   exact⟨bl (r ^^^ 64647 <<< (bl r-16)),t3,w',_,p',rfl,rfl,rfl,t1,t2.trans e⟩
  have ep:((Builtin.Int.intBits (r:Int):Nat):Int)-((Builtin.Int.intBits (64647:Int):Nat):Int)=((bl r-16:Nat):Int):=by
   have k':Builtin.Int.intBits (64647:Int)=16:=rB
   rw[k']
   show ((bl r:Nat):Int)-_=_
   omega
  refine⟨1,(bl r-16),rfl,YF V.int ep,⟨yO (n:=1) (by decide),by omega⟩,w,_,rfl,rfl,trivial,?_⟩
  refine⟨64647,(bl r-16),rfl,YF V.int ep,⟨yO (n:=16) (by decide),by omega⟩,r,_,rfl,rfl,trivial,?_⟩
  exact⟨_,_,rfl,rfl⟩
 ·have c1:bl r<16:=by
   have:¬ ((Builtin.Int.intBits (64647:Int):Nat):Int)<=((Builtin.Int.intBits (r:Int):Nat):Int):=dec_false c
   have k':Builtin.Int.intBits (64647:Int)=16:=rB
   show Builtin.Int.intBits (r:Int)<16
   omega
  have hs:r<32768:=Yh (a3E r) (Ys (n:=2) (j:=15) (by decide) (by omega))
  rw[nW hs]at e
  rw[e]
  exact⟨aK rfl,fun p hp=>q w p hp⟩
variable (Z1:FB P w K mg base (CX0) 2 "rest_of" Zh4 Zkp ["bits"] (spRest K))
include ZG ZkQ Zu Zcv in
theorem ZlI (F0:GFm K mg "rest_of" Zku Zh4 Zkp):type_of% Z1:=by
 refine fbM ["bits"] F0 fun Sc0=>F0.F.ok Sc0 (fun vs H Q E h=>?_) fun cdv A outer s H vs Q E hr h=>?_
 ·obtain⟨a,bs,rfl,_⟩:=h
  rfl
 obtain⟨a,bs,rfl,hS,hb,hl,q⟩:=h
 have nd:=Sc0.nd
 refine⟨_,(aG (aM (bG dG (aP Zcv.1 (hr.mono (by decide)) rfl Zcv.2.2.2 Zcv.2.2.1 Zcv.2.1 .nil dF (aA (aP Zu.1 (hr.mono (by decide)) rfl Zu.2.2.2 Zu.2.2.1 Zu.2.1 .nil aN (aA (dv 0) aD)) (aA (bA (v:= .int 64647) rfl ZkQ ⟨_,rfl⟩) aD))) aJ (fun _ _=>rfl)))),?_⟩
 refine⟨a,bs,rfl,hS,hb,hl,?_⟩
 refine⟨nm bs,rfl,Yh (oZ hb) (Ys (by decide) hl),fun w p hp=>?_⟩
 exact⟨_,_,SqT.of aB,rfl,q _ (aH hp _)⟩
variable (Zci:FB P w K mg base (CX0) 3 "check_of" Zha ZjF ["bits"] (spCheck K))
include Zam ZG Zbo ZaD ZU Z1 in
theorem Zlv (F0:GFm K mg "check_of" ZjW Zha ZjF):type_of% Zci:=by
 refine fbM ["bits"] F0 fun Sc0=>F0.F.ok Sc0 (fun vs H Q E h=>?_) fun cdv A outer s H vs Q E hr h=>?_
 ·obtain⟨a,bs,rfl,_⟩:=h
  rfl
 obtain⟨a,bs,rfl,hS,hb,hl,q⟩:=h
 have nd:=Sc0.nd
 refine⟨_,(aG (aM (aP ZU.1 (hr.mono (by decide)) rfl ZU.2.2.2 ZU.2.2.1 ZU.2.1 .nil dF (aA (aP Z1.1 (hr.mono (by decide)) rfl Z1.2.2.2 Z1.2.2.1 Z1.2.1 .nil aN (aA (aU fJ (cR dM rfl ZaD fC (aA (dv 0) aD)) (aU rG (bN (aA aJ aD)) (bA (v:= .int 15) rfl Zbo ⟨_,rfl⟩))) aD)) (aA (bA (v:= .int 15) rfl Zbo ⟨_,rfl⟩) aD))))),?_⟩
 refine⟨_,.inl hS,fun l hl1=>?_⟩
 have g1:=aH hl1 (.lst (bs.map V.int))
 have e1:=aB (H:=H) (a:=l) (o:= .lst (bs.map V.int))
 generalize upd H l (.lst (bs.map V.int))=H1 at g1 e1
 refine⟨aK rfl,fun o ho=>?_⟩
 have g2:=aH ho (.lst [.int 0])
 have e2:=aB (H:=H1) (a:=o) (o:= .lst [.int 0])
 generalize upd H1 o (.lst [.int 0])=H2 at g2 e2
 refine⟨_,e2,⟨by decide,by decide⟩,(by show 1*15<=sizeLine;exact small (by decide)),fun z hz=>?_⟩
 have g3:=aH hz (.lst (List.replicate (15:Int).toNat [V.int 0]).flatten)
 have e3:upd H2 z (.lst (List.replicate (15:Int).toNat [V.int 0]).flatten) z=some (.lst ((zs 15).map V.int)):=by rw[aB];rfl
 generalize upd H2 z (.lst (List.replicate (15:Int).toNat [V.int 0]).flatten)=H3 at g3 e3
 refine⟨_,_,g3 _ _ (g2 _ _ e1),e3,(by rw[Ya];exact small (by show bs.length+15<=1000;omega)),fun c hc=>?_⟩
 have g4:=aH hc (.lst (bs.map V.int++(zs 15).map V.int))
 have e4:upd H3 c (.lst (bs.map V.int++(zs 15).map V.int)) c=some (.lst ((bs++zs 15).map V.int)):=by rw[aB,Yk]
 generalize upd H3 c (.lst (bs.map V.int++(zs 15).map V.int))=H4 at g4 e4
 refine⟨c,bs++zs 15,rfl,SqL.of e4,dD hb (mH 15),(by rw[Yc];show bs.length+15<=450;omega),fun H5 g5=>?_⟩
 refine⟨ckn bs,15,rfl,a0E bs,by decide,fun p hp=>?_⟩
 have gs:=g1.trans (g2.trans (g3.trans (g4.trans g5)))
 exact q p _ (gs.none hp) (gs.trans (aH hp _)) aB
variable (Zcw:FB P w K mg base (CX0) 1 "is_name" Zh3 Zko ["number"] (spByt))
include Zdo in
theorem ZlH (F0:GFm K mg "is_name" Zkt Zh3 Zko):type_of% Zcw:=by
 refine fbM ["number"] F0 fun Sc0=>F0.F.ok Sc0 (fun vs H Q E h=>?_) fun cdv A outer s H vs Q E hr h=>?_
 ·obtain⟨n,rfl,_⟩:=h
  rfl
 obtain⟨n,rfl,q⟩:=h
 have nd:=Sc0.nd
 refine⟨_,(aG (aM (pH pZ pZ aJ (dv 0) (bA (v:= .int 255) rfl Zdo ⟨_,rfl⟩)))),?_⟩
 conv=>whnf
 refine bK (fun c=>?_) (fun c=>?_)
 ·have c1:(0:Int)<=n:=dec_true c
  show Q (.bl (decide (n<=255))) H
  have e:decide (n<=255)=byt n:=by unfold byt;rw[Yl c1,Bool.true_and]
  rw[e];exact q
 ·have c1:¬ (0:Int)<=n:=dec_false c
  show Q (.bl false) H
  have e:false=byt n:=by unfold byt;rw[Ym c1,Bool.false_and]
  rw[e];exact q
variable (Zc6:FB P w K mg base (CX0) 3 "put_in" Zju ZkX ["bits"] (spPutIn K))
include ZdW Zh Zbb ZR ZA Zat ZS ZI in
theorem ZlN (F0:GFm K mg "put_in" Zlk Zju ZkX):type_of% Zc6:=by
 refine fbM ["bits","wire","streak","bit"] F0 fun Sc0=>F0.F.ok Sc0 (fun vs H Q E h=>?_) fun cdv A outer s H vs Q E hr h=>?_
 ·obtain⟨a,bs,rfl,_⟩:=h
  rfl
 obtain⟨a,bs,rfl,hS,hl,q⟩:=h
 have nd:=Sc0.nd
 refine⟨_,(aF (aW (i:=1) nd rfl (Or.inl rfl) (bN aD)) (aF (aW (i:=2) nd rfl (Or.inl rfl) (gO Zbb Zat.1 (hr.mono (by decide)) rfl ZdW Zat.2 .nil aN)) (aF (cO YR rfl (cM (dv 0)) (cC (i:=3) nd rfl (Or.inl rfl)) (aF (aZ (bO (dv 1) (aA (dv 3) aD))) (aF (aZ (bH Zh ZR ZS.1 (hr.mono (by decide)) ZS.2 .nil aN (dv 2) (aA (dv 3) aD))) (aG (bF (bY (bD Zh ZA ZI.1 (hr.mono (by decide)) ZI.2 .nil aN (dv 2))) (aF (aZ (bO (dv 1) (aA (aU gB aJ (dv 3)) aD))) (aG (aZ (bH Zh ZR ZS.1 (hr.mono (by decide)) ZS.2 .nil aN (dv 2) (aA (aU gB aJ (dv 3)) aD))))) aV))))) (aG (aM (dv 1)))))),?_⟩
 refine⟨aK rfl,fun p hp=>?_⟩
 have g0:=aH hp (.lst [])
 have e0:=aB (H:=H) (a:=p) (o:= .lst [])
 generalize upd H p (.lst [])=H1 at g0 e0
 refine fun st dx hst hdx hne=>⟨st,dx,rfl,aB,fun H2 eH=>⟨rfl,?_⟩⟩
 have g1:Same H1 H2:=by rw[eH];exact bL hst hdx
 have s2:SkAt CA.streak H2 st (sk []):=⟨dx,by rw[eH];exact aB⟩
 clear eH
 have nst:=g0.none hst
 refine⟨⟨_,(g0.trans g1).seq hS⟩,eN (xs:=bs.map V.int) (fun i σ H'=>(∃x,σ= [some (.ref a),some (.ref p),some (.ref st),x])/\H' p=some (.lst ((put (bs.take i)).map V.int))/\SkAt CA.streak H' st (sk (put (bs.take i)))/\Same H H')
  ⟨⟨_,rfl⟩,g1 _ _ e0,s2,g0.trans g1⟩ (fun i σ H' _ z=>z.2.2.2.seq hS) ?_ ?_⟩
 ·rintro i x σ H' hx ⟨⟨y,rfl⟩,h1,h2,h3⟩
  obtain⟨hi,rfl⟩:=eZ hx
  have pl:=fZ (bs.take i)
  rw[Yo]at pl
  have h4:=gM (bs.take i)
  generalize wV hi=ept
  generalize bs[i]=b at ept
  generalize put (bs.take i)=w at h1 h2 pl h4 ept
  refine⟨⟨_,SqL.of h1⟩,_,h1,bI (by rw[Ya];omega),?_⟩
  have h1':upd H' p (.lst (w.map V.int++[.int b])) p=some (.lst ((w++[b]).map V.int)):=by rw[aB,Yk];rfl
  have h2':SkAt CA.streak (upd H' p (.lst (w.map V.int++[.int b]))) st (sk w):=h2.set h1
  have h3':Same H (upd H' p (.lst (w.map V.int++[.int b]))):=h3.put hp
  generalize upd H' p (.lst (w.map V.int++[.int b]))=H3 at h1' h2' h3'
  obtain⟨d3,k3⟩:=id h2'
  refine⟨⟨d3,_,k3,rfl⟩,st,sk w,b,rfl,h2',fun H4 s4 k4=>?_⟩
  rw[<-fY]at s4
  have h1'':=(k4 p (h2'.ne h1')).trans h1'
  have h3'':Same H H4:=fun c o e=>(k4 c (aQ e nst)).trans (h3' c o e)
  obtain⟨d4,k5⟩:=id s4
  refine⟨⟨d4,_,k5,rfl⟩,st,sk (w++[b]),rfl,s4,?_⟩
  conv=>whnf
  refine bK (fun c=>?_) (fun c=>?_)
  ·have c1:run (w++[b])=5:=dec_true c
   have ep:put (bs.take (i+1))=w++[b]++[1-b]:=by rw[ept];unfold pst;rw[if_pos c1]
   refine⟨⟨_,SqL.of h1''⟩,_,h1'',bI (by rw[Ya,Yc,Yu];omega),?_⟩
   have q1:upd H4 p (.lst ((w++[b]).map V.int++[.int (1-b)])) p=some (.lst ((w++[b]++[1-b]).map V.int)):=by rw[aB,Yk (l₁:=w++[b])];rfl
   have q2:=s4.set (ys:=(w++[b]).map V.int++[.int (1-b)]) h1''
   have q3:Same H (upd H4 p (.lst ((w++[b]).map V.int++[.int (1-b)]))):=h3''.put hp
   generalize upd H4 p (.lst ((w++[b]).map V.int++[.int (1-b)]))=H5 at q1 q2 q3
   obtain⟨d6,k6⟩:=id q2
   refine⟨⟨d6,_,k6,rfl⟩,st,sk (w++[b]),1-b,rfl,q2,fun H6 s6 k7=>?_⟩
   rw[<-fY]at s6
   refine⟨⟨_,rfl⟩,?_,?_,fun c o e=>(k7 c (aQ e nst)).trans (q3 c o e)⟩
   ·rw[ep];exact(k7 p (q2.ne q1)).trans q1
   ·rw[ep];exact s6
  ·have c1:¬ run (w++[b])=5:=dec_false c
   have ep:put (bs.take (i+1))=w++[b]:=by rw[ept];unfold pst;rw[if_neg c1]
   exact⟨⟨_,rfl⟩,by rw[ep];exact h1'',by rw[ep];exact s4,h3''⟩
 rintro σ H' ⟨⟨y,rfl⟩,h1,h2,h3⟩
 rw[Ya,Yi (Yd _)]at h1
 exact q p H' hp h3 h1
variable (Zv:FB P w K mg base (CXR P w) 2 "check_frame" Zfg Zhw ["name","data"] (spChkF K Zcy))
include Zn Zei Zx Z0 Zac Zcw in
theorem Zkh (F0:GFm K mg "check_frame" ZhR Zfg Zhw):type_of% Zv:=by
 refine fbM ["name","data"] F0 fun Sc0=>F0.F.okR Sc0 (fun vs H Q E h=>?_) fun cdv A outer s H vs Q E hr h=>?_
 ·obtain⟨n,a,ds,rfl,_⟩:=h
  rfl
 obtain⟨n,a,ds,rfl,hS,hl,q1,q2⟩:=h
 have nd:=Sc0.nd
 refine⟨_,(aF (bF (dN (bY (aP Zcw.1 (hr.mono (by decide)) rfl Zcw.2.2.2 Zcw.2.2.1 Zcw.2.1 .nil aN (aA (dv 0) aD)))) (aG (cF YM Zn Z0 (aA aY aD))) aV) (aF (bF (aX wF (bB cH rfl Zx bU (aA (dv 1) aD)) (bA (v:= .int 7) rfl Zei ⟨_,rfl⟩) (aR _)) (aG (cF YM Zn Z0 (aA aY aD))) aV) (aG (bF (dN (bY (aP Zac.1 (hr.mono (by decide)) rfl Zac.2.2.2 Zac.2.2.1 Zac.2.1 .nil aN (aA (dv 1) aD)))) (aG (cF YM Zn Z0 (aA aY aD))) aV)))),?_⟩
 refine⟨n,rfl,?_⟩
 conv=>whnf
 refine bK (fun c=>?_) (fun c=>?_)
 ·have c1:¬ byt n=true:=fun z=>by
   have:(!byt n)=true:=c
   rw[z]at this;cases this
  exact⟨aK rfl,q2 (yD (.inl c1)) _ (Same.refl _)⟩
 have c1:byt n=true:=by
  cases e:byt n with
  |true=>rfl
  |false=>exact absurd (show (!byt n)=true by rw[e];rfl) c
 refine⟨_,.inl hS,?_⟩
 rw[Ya]
 conv=>whnf
 refine bK (fun z=>?_) (fun z=>?_)
 ·have z1:(7:Int)<((ds.length:Nat):Int):=dec_true z
  exact⟨aK rfl,q2 (yD (.inr (.inl (by omega)))) _ (Same.refl _)⟩
 have z1:¬ (7:Int)<((ds.length:Nat):Int):=dec_false z
 refine⟨a,ds,rfl,.inl hS,hl,fun H1 g1=>?_⟩
 conv=>whnf
 refine bK (fun y=>?_) (fun y=>?_)
 ·have y1:¬ ds.all byt=true:=fun z=>by
   have:(!ds.all byt)=true:=y
   rw[z]at this;cases this
  exact⟨aK rfl,q2 (fun h=>y1 h.2.2) _ g1⟩
 ·have y1:ds.all byt=true:=by
   cases e:ds.all byt with
   |true=>rfl
   |false=>exact absurd (show (!ds.all byt)=true by rw[e];rfl) y
  exact q1 ⟨c1,by omega,y1⟩ _ g1
variable (Zbj:FB P w K mg base (CXR P w) 5 "frame_bits" ZfM Zii ["name","data"] (spFrame K Zcy))
include Zam ZG Zn ZeO ZeP ZaI Zx ZU Zci Zv in
theorem ZkI (F0:GFm K mg "frame_bits" ZiA ZfM Zii):type_of% Zbj:=by
 refine fbM ["name","data","bits","byte"] F0 fun Sc0=>F0.F.okR Sc0 (fun vs H Q E h=>?_) fun cdv A outer s H vs Q E hr h=>?_
 ·obtain⟨n,a,ds,rfl,_⟩:=h
  rfl
 obtain⟨n,a,ds,rfl,hS,hl,q1,q2⟩:=h
 have nd:=Sc0.nd
 refine⟨_,(aF (aZ (aP Zv.1 (hr.mono (by decide)) rfl Zv.2.2.2 Zv.2.2.1 Zv.2.1 .nil (dO fun _ _ _ z=>z) (aA (dv 0) (aA (dv 1) aD)))) (aF (aW (i:=2) nd rfl (Or.inl rfl) (aU fJ (aU fJ (bN (aA aJ aD)) (aP ZU.1 (hr.mono (by decide)) rfl ZU.2.2.2 ZU.2.2.1 ZU.2.1 .nil (dO fun _ _ _ z=>z) (aA (dv 0) (aA (bA (v:= .int 8) rfl ZeO ⟨_,rfl⟩) aD)))) (aP ZU.1 (hr.mono (by decide)) rfl ZU.2.2.2 ZU.2.2.1 ZU.2.1 .nil (dO fun _ _ _ z=>z) (aA (bB cH rfl Zx bU (aA (dv 1) aD)) (aA (bA (v:= .int 3) rfl ZeP ⟨_,rfl⟩) aD))))) (aF (cO PassesOwn.leaving rfl (cM (dv 1)) (cC (i:=3) nd rfl (Or.inl rfl)) (aG (aZ (uR (dv 2) (aA (aP ZU.1 (hr.mono (by decide)) rfl ZU.2.2.2 ZU.2.2.1 ZU.2.1 .nil (dO fun _ _ _ z=>z) (aA (dv 3) (aA (bA (v:= .int 8) rfl ZaI ⟨_,rfl⟩) aD))) aD))))) (aG (aM (aU fJ (dv 2) (aP Zci.1 (hr.mono (by decide)) rfl Zci.2.2.2 Zci.2.2.1 Zci.2.1 .nil aN (aA (dv 2) aD)))))))),?_⟩
 refine⟨n,a,ds,rfl,hS,hl,fun hf H1 g1=>?_,q2⟩
 obtain⟨m,rfl,hm⟩:=jE hf.1
 refine⟨aK rfl,fun p2 hp2=>?_⟩
 have g2:=aH hp2 (.lst [.int 0])
 have e2:=aB (H:=H1) (a:=p2) (o:= .lst [.int 0])
 generalize upd H1 p2 (.lst [.int 0])=H2 at g2 e2
 refine⟨m,8,rfl,by show m<2 ^ 8;omega,by decide,fun p3 hp3=>?_⟩
 have g3:=aH hp3 (.lst ((bitsI m 8).map V.int))
 have e3:=aB (H:=H2) (a:=p3) (o:= .lst ((bitsI m 8).map V.int))
 generalize upd H2 p3 (.lst ((bitsI m 8).map V.int))=H3 at g3 e3
 refine⟨_,_,g3 _ _ e2,e3,(by rw[Ya,bC];exact aK rfl),fun p4 hp4=>?_⟩
 have g4:=aH hp4 (.lst ([.int 0]++(bitsI m 8).map V.int))
 have e4:=aB (H:=H3) (a:=p4) (o:= .lst ([.int 0]++(bitsI m 8).map V.int))
 generalize upd H3 p4 (.lst ([.int 0]++(bitsI m 8).map V.int))=H4 at g4 e4
 have gs4:=g1.trans (g2.trans (g3.trans g4))
 refine⟨_,.inl (gs4.seq hS),?_⟩
 rw[Ya]
 have h7:=hf.2.1
 refine⟨ds.length,3,rfl,by show ds.length<2 ^ 3;omega,by decide,fun p5 hp5=>?_⟩
 have g5:=aH hp5 (.lst ((bitsI ds.length 3).map V.int))
 have e5:=aB (H:=H4) (a:=p5) (o:= .lst ((bitsI ds.length 3).map V.int))
 generalize upd H4 p5 (.lst ((bitsI ds.length 3).map V.int))=H5 at g5 e5
 refine⟨_,_,g5 _ _ e4,e5,(by rw[Yc,Ya,Ya,bC,bC];exact aK rfl),fun p6 hp6=>?_⟩
 have g6:=aH hp6 (.lst ([.int 0]++(bitsI m 8).map V.int++(bitsI ds.length 3).map V.int))
 have e6:upd H5 p6 (.lst ([.int 0]++(bitsI m 8).map V.int++(bitsI ds.length 3).map V.int)) p6=some (.lst ((hdD (m:Int) ds.length []).map V.int)):=by
  rw[aB];unfold hdD b8;simp
 generalize upd H5 p6 (.lst ([.int 0]++(bitsI m 8).map V.int++(bitsI ds.length 3).map V.int))=H6 at g6 e6
 have gs6:=gs4.trans (g5.trans g6)
 have np6:H p6=none:=(gs4.trans g5).none hp6
 refine⟨⟨_,gs6.seq hS⟩,eN (xs:=ds.map V.int) (fun i σ H'=>(∃x,σ= [some (.int m),some (.ref a),some (.ref p6),x])/\Same H H'/\H' p6=some (.lst ((hdD (m:Int) ds.length (ds.take i)).map V.int))) ⟨⟨_,rfl⟩,gs6,e6⟩ (fun i σ H' _ z=>z.2.1.seq hS) ?_ ?_⟩
 ·rintro i x σ H' hx ⟨⟨y,rfl⟩,g,e⟩
  obtain⟨hi,rfl⟩:=eZ hx
  obtain⟨d,ed,hd256⟩:=jE (lA hf.2.2 hi)
  have hlen:=nG (m:Int) ds.length (ds.take i)
  rw[Yo]at hlen
  refine⟨⟨_,e⟩,d,8,by rw[ed];rfl,by show d<2 ^ 8;omega,by decide,fun p7 hp7=>?_⟩
  have g7:=aH hp7 (.lst ((bitsI d 8).map V.int))
  refine⟨_,_,g7 _ _ e,aB,(by rw[Ya,Ya,bC,hlen];exact small (by omega)),⟨_,rfl⟩,(g.trans g7).put np6,?_⟩
  have eb:b8 ds[i]=bitsI d 8:=by rw[ed];rfl
  rw[aB,Yf hi,pM,eb,Yk]
 rintro σ H7 ⟨⟨y,rfl⟩,g7,e7⟩
 rw[Ya,Yi (Yd _)]at e7
 have hlen:=nD (m:Int) ds
 refine⟨p6,hd (m:Int) ds,rfl,SqL.of e7,jC _ _,by omega,fun p8 H8 hp8 g8 e8=>?_⟩
 refine⟨_,_,g8 _ _ e7,e8,(by rw[Ya,Ya,a0F];show (hd (m:Int) ds).length+15<=sizeLine;exact small (by omega)),fun p9 hp9=>?_⟩
 have g9:=aH hp9 (.lst ((hd (m:Int) ds).map V.int++(ck (hd (m:Int) ds)).map V.int))
 refine q1 hf p9 _ ((g7.trans g8).none hp9) (g7.trans (g8.trans g9)) ?_
 rw[aB]
 unfold fb
 rw[Yk]
 rfl
variable (Zcx:FB P w K mg base (CXR P w) 6 "wire_of" Zh5 Zkq ["name","data"] (spWireOf K Zcy))
include Zam ZG Zn Zc6 Zbj in
theorem ZlJ (F0:GFm K mg "wire_of" Zkv Zh5 Zkq):type_of% Zcx:=by
 refine fbM ["name","data"] F0 fun Sc0=>F0.F.okR Sc0 (fun vs H Q E h=>?_) fun cdv A outer s H vs Q E hr h=>?_
 ·obtain⟨n,a,ds,rfl,_⟩:=h
  rfl
 obtain⟨n,a,ds,rfl,hS,hl,q1,q2⟩:=h
 have nd:=Sc0.nd
 refine⟨_,(aG (aM (aP Zc6.1 (hr.mono (by decide)) rfl Zc6.2.2.2 Zc6.2.2.1 Zc6.2.1 .nil aN (aA (aP Zbj.1 (hr.mono (by decide)) rfl Zbj.2.2.2 Zbj.2.2.1 Zbj.2.1 .nil (dO fun _ _ _ z=>z) (aA (dv 0) (aA (dv 1) aD))) aD)))),?_⟩
 refine⟨n,a,ds,rfl,hS,hl,fun hf p H1 hp g1 e1=>?_,q2⟩
 have:=iJ n ds
 have:=hf.2.1
 exact⟨p,fb n ds,rfl,SqL.of e1,by omega,fun p2 H2 hp2 g2 e2=>q1 hf p2 H2 (g1.none hp2) (g1.trans g2) e2⟩
variable (Zad:FB P w K mg base (CX0) 2 "told_size" ZgE Zi5 ["bits"] (spSize K))
include Zc8 Zbp Zu in
theorem Zli (F0:GFm K mg "told_size" Zjq ZgE Zi5):type_of% Zad:=by
 refine fbM ["bits"] F0 fun Sc0=>F0.F.ok Sc0 (fun vs H Q E h=>?_) fun cdv A outer s H vs Q E hr h=>?_
 ·obtain⟨a,bs,rfl,_⟩:=h
  rfl
 obtain⟨a,bs,rfl,hS,hb,h12,hl,q⟩:=h
 have nd:=Sc0.nd
 refine⟨_,(aG (aM (aP Zu.1 (hr.mono (by decide)) rfl Zu.2.2.2 Zu.2.2.1 Zu.2.1 .nil aN (aA (fP nY (dv 0) (dY (bA (v:= .int 9) rfl Zc8 ⟨_,rfl⟩)) (dY (bA (v:= .int 12) rfl Zbp ⟨_,rfl⟩))) aD)))),?_⟩
 refine⟨_,hS,fun p hp=>?_⟩
 have ec:cutV (bs.map V.int) (some (9:Int)) (some (12:Int))=((bs.drop 9).take 3).map V.int:=rA rfl rfl (by omega)
 rw[ec]
 refine⟨p,_,rfl,SqL.of aB,fV hb 9 3,?_,q _ (aH hp _)⟩
 rw[Yo];omega
variable (ZZ:FB P w K mg base (CX0) 3 "is_complete" Zfi Zhy ["bits"] (spCmp K))
include Zbo ZaI Zbp Zx Zad in
theorem Zkj (F0:GFm K mg "is_complete" ZhT Zfi Zhy):type_of% ZZ:=by
 refine fbM ["bits"] F0 fun Sc0=>F0.F.ok Sc0 (fun vs H Q E h=>?_) fun cdv A outer s H vs Q E hr h=>?_
 ·obtain⟨a,bs,rfl,_⟩:=h
  rfl
 obtain⟨a,bs,rfl,hS,hb,hl,q1,q2⟩:=h
 have nd:=Sc0.nd
 refine⟨_,(aG (aM (yL (cD tY (bB cH rfl Zx bU (aA (dv 0) aD)) (bA (v:= .int 12) rfl Zbp ⟨_,rfl⟩) (aR _)) (xK (cD cV (bB cH rfl Zx bU (aA (dv 0) aD)) (aU bZ (aU bZ (bA (v:= .int 12) rfl Zbp ⟨_,rfl⟩) (aU gH (bA (v:= .int 8) rfl ZaI ⟨_,rfl⟩) (aP Zad.1 (hr.mono (by decide)) rfl Zad.2.2.2 Zad.2.2.1 Zad.2.1 .nil aN (aA (dv 0) aD)))) (bA (v:= .int 15) rfl Zbo ⟨_,rfl⟩)) (aR _)))))),?_⟩
 refine⟨_,.inl hS,?_⟩
 rw[Ya]
 conv=>whnf
 refine bK (fun c=>?_) (fun c=>?_)
 ·have c1:(12:Int)<=((bs.length:Nat):Int):=dec_true c
  refine⟨_,.inl hS,?_⟩
  rw[Ya]
  refine⟨a,bs,rfl,hS,hb,by omega,hl,fun H1 g1=>?_⟩
  have:=wM hb
  refine⟨⟨by decide,eE (by omega) (by omega)⟩,?_⟩
  by_cases z:CmpB bs
  ·have e:decide (((bs.length:Nat):Int)=12+8*((szB bs:Nat):Int)+15)=true:=Yl (by have:=z.2;omega)
   show Q (.bl (decide (((bs.length:Nat):Int)=12+8*((szB bs:Nat):Int)+15))) H1
   rw[e];exact q1 z _ g1
  ·have e:decide (((bs.length:Nat):Int)=12+8*((szB bs:Nat):Int)+15)=false:=Ym (fun y=>z ⟨by omega,by omega⟩)
   show Q (.bl (decide (((bs.length:Nat):Int)=12+8*((szB bs:Nat):Int)+15))) H1
   rw[e];exact q2 z _ g1
 ·have c1:¬ (12:Int)<=((bs.length:Nat):Int):=dec_false c
  exact q2 (fun z=>by have:=z.1;omega) _ (Same.refl _)
variable (Zbk:FB P w K mg base (CXR P w) 4 "read_frame" ZfN Zik ["bits"] (spRead K Zcy))
include ZG Zn ZaI Zc8 Zbp ZB Z0 Zu Z1 Zad ZZ in
theorem ZkK (F0:GFm K mg "read_frame" ZiC ZfN Zik):type_of% Zbk:=by
 refine fbM ["bits","starts"] F0 fun Sc0=>F0.F.okR Sc0 (fun vs H Q E h=>?_) fun cdv A outer s H vs Q E hr h=>?_
 ·obtain⟨a,bs,rfl,_⟩:=h
  rfl
 obtain⟨a,bs,rfl,hS,hb,hl,q1,q2⟩:=h
 have nd:=Sc0.nd
 refine⟨_,(aF (bF (dN (bY (aP ZZ.1 (hr.mono (by decide)) rfl ZZ.2.2.2 ZZ.2.2.1 ZZ.2.1 .nil aN (aA (dv 0) aD)))) (aG (cF YM Zn Z0 (aA aY aD))) aV) (aF (bF (aX iU (bG bW (dv 0) aJ (fun _ _=>rfl)) aJ (aR _)) (aG (cF YM Zn Z0 (aA aY aD))) aV) (aF (bF (aX iU (aP Z1.1 (hr.mono (by decide)) rfl Z1.2.2.2 Z1.2.2.1 Z1.2.1 .nil aN (aA (dv 0) aD)) aJ (aR _)) (aG (cF YM Zn Z0 (aA aY aD))) aV) (aF (cZ (j:=1) nd rfl rfl rfl (ix:=[]) (bT rfl ZB (aA (aP Zad.1 (hr.mono (by decide)) rfl Zad.2.2.2 Zad.2.2.1 Zad.2.1 .nil aN (aA (dv 0) aD)) aD)) (fun C fp s0 H0 at0=>cG) (fun C fp s0 H0 at0=>(aU bZ (bA (v:= .int 12) rfl Zbp ⟨_,rfl⟩) (aU gH (bA (v:= .int 8) rfl ZaI ⟨_,rfl⟩) (dv 0)))) rfl rfl (by rfl) (show ([".0","number"]:List Str).Nodup by decide +kernel)) (aG (aM (bQ (aA (aP Zu.1 (hr.mono (by decide)) rfl Zu.2.2.2 Zu.2.2.1 Zu.2.1 .nil aN (aA (fP nY (dv 0) (dY aJ) (dY (bA (v:= .int 9) rfl Zc8 ⟨_,rfl⟩))) aD)) (aA (dH rfl (ix:=[0]) (cM (dv 1)) (fun C fp s0 H0 at0=>cG) (fun C fp s0 H0 at0=>(aP Zu.1 (hr.mono (by decide)) rfl Zu.2.2.2 Zu.2.2.1 Zu.2.1 .nil aN (aA (fP (a3I (K:=K)) (dv 1) (dY (dv 0)) (dY (aU bZ (dv 0) (bA (v:= .int 8) rfl ZaI ⟨_,rfl⟩)))) aD))) rfl rfl (by rfl) (show ([".0","start","bits"]:List Str).Nodup by decide +kernel)) aD))))))))),?_⟩
 refine⟨a,bs,rfl,hS,hb,hl,fun hc H1 g1=>?_,fun hc H1 g1=>⟨aK rfl,q2 (fun z=>hc z.1) _ g1⟩⟩
 have h12:=hc.1
 have e0:atI (bs.map V.int) (0:Int)=some (.int (bs.getD 0 0)):=by rw[<-a7F (by omega)];exact nQ (i:=0) (by omega)
 refine⟨_,_,g1.seq hS,e0,?_⟩
 conv=>whnf
 refine bK (fun c=>?_) (fun c=>?_)
 ·refine⟨aK rfl,q2 (fun z=>?_) _ g1⟩
  have:(!decide (bs.getD 0 0=0))=true:=c
  rw[Yl z.2.1]at this;cases this
 have c1:bs.getD 0 0=0:=YB fun y=>c (by
  show (!decide (bs.getD 0 0=0))=true
  rw[Ym y];rfl)
 refine⟨a,bs,rfl,g1.seq hS,hb,hl,fun H2 g2=>?_⟩
 conv=>whnf
 refine bK (fun z=>?_) (fun z=>?_)
 ·refine⟨aK rfl,q2 (fun y=>?_) _ (g1.trans g2)⟩
  have:(!decide (((rst bs:Nat):Int)=0))=true:=z
  rw[Yl (by have:=y.2.2;omega)]at this;cases this
 have z1:rst bs=0:=YB fun y=>z (by
  show (!decide (((rst bs:Nat):Int)=0))=true
  rw[Ym (by omega)];rfl)
 have ok:RdOk bs:=⟨hc,c1,z1⟩
 have gs2:=g1.trans g2
 have s8:=wM hb
 refine⟨a,bs,rfl,gs2.seq hS,hb,h12,hl,fun H3 g3=>?_⟩
 have gs3:=gs2.trans g3
 have em:((szB bs:Nat):Int).toNat=szB bs:=YD _
 refine⟨⟨by omega,by omega⟩,cQ (fun i ys H'=>ys=((List.range i).map fun k=>V.int (12+8*((k:Nat):Int)))/\H'=H3) ?_ ⟨rfl,rfl⟩ ?_ ?_⟩
 ·rintro i ys H' hi ⟨rfl,_⟩
  refine bI ?_
  rw[Ya,YU];omega
 ·rintro i ys H' hi ⟨rfl,rfl⟩
  rw[em]at hi
  refine⟨⟨by decide,eE (by omega) (by omega)⟩,?_,rfl⟩
  rw[X8,Yk]
  show _++[V.int (12+8*(0+(i:Int)))]=_++[V.int (12+8*((i:Nat):Int))]
  rw[Xo]
 rintro ys H4 ⟨rfl,rfl⟩ ps hps
 rw[em]
 have g4:=aH hps (.lst ((List.range (szB bs)).map fun k=>V.int (12+8*((k:Nat):Int))))
 have e4:=aB (H:=H4) (a:=ps) (o:= .lst ((List.range (szB bs)).map fun k=>V.int (12+8*((k:Nat):Int))))
 generalize upd H4 ps _=H5 at g4 e4
 have gs5:=gs3.trans g4
 refine⟨_,gs5.seq hS,fun p6 hp6=>?_⟩
 have ec:cutV (bs.map V.int) (some (1:Int)) (some (9:Int))=((bs.drop 1).take 8).map V.int:=rA rfl rfl (by omega)
 rw[ec]
 have g6:=aH hp6 (.lst (((bs.drop 1).take 8).map V.int))
 have e6:=aB (H:=H5) (a:=p6) (o:= .lst (((bs.drop 1).take 8).map V.int))
 generalize upd H5 p6 _=H6 at g6 e6
 refine⟨p6,_,rfl,SqL.of e6,fV hb 1 8,(by rw[Yo];omega),?_⟩
 have gs6:=gs5.trans g6
 have e46:=g6 _ _ e4
 refine⟨⟨_,SqL.of e46⟩,cU (xs:=(List.range (szB bs)).map fun k=>V.int (12+8*((k:Nat):Int))) (fun i ys H'=>ys=((daB bs).take i).map V.int/\Same H6 H') ?_ ⟨rfl,Same.refl _⟩ (fun i ys H' _ z=>SqL.of (z.2 _ _ e46)) ?_ ?_⟩
 ·rintro i ys H' hi ⟨rfl,_⟩
  refine bI ?_
  rw[Ya,Yo]
  rw[Ya,YU]at hi
  omega
 ·rintro i x ys H' hx ⟨rfl,g⟩
  have hi:i<szB bs:=by
   have:=(Yg.mp hx).1
   rwa [Ya,YU]at this
  have ex:x=V.int (12+8*((i:Nat):Int)):=by
   rw[Yj,List.getElem?_range hi]at hx
   exact(Yt hx).symm
  subst ex
  have hc2:=hc.2
  refine⟨_,(gs6.trans g).seq hS,fun p7 hp7=>?_⟩
  have ec2:cutV (bs.map V.int) (some ((12:Int)+8*((i:Nat):Int))) (some ((12:Int)+8*((i:Nat):Int)+8))=((bs.drop (12+8*i)).take 8).map V.int:=rA (by omega) (by omega) (by omega)
  rw[ec2]
  refine⟨p7,_,rfl,SqL.of aB,fV hb _ 8,(by rw[Yo];omega),?_,g.trans (aH hp7 _)⟩
  rw[a0A hi,Yk]
  rfl
 rintro ys H7 ⟨rfl,g7⟩ p8 hp8
 have e8:upd H7 p8 (.lst (((daB bs).take ((List.range (szB bs)).map fun k=>V.int (12+8*((k:Nat):Int))).length).map V.int)) p8=some (.lst ((daB bs).map V.int)):=by
  rw[aB,Ya,YU,Yi (by rw[tO];exact Yd _)]
 have g8:=aH hp8 (.lst (((daB bs).take ((List.range (szB bs)).map fun k=>V.int (12+8*((k:Nat):Int))).length).map V.int))
 generalize upd H7 p8 _=H8 at e8 g8
 refine⟨aK rfl,fun t ht=>?_⟩
 have g9:=aH ht (.tup [.int ((nm ((bs.drop 1).take 8):Nat):Int),.ref p8])
 exact q1 ok t p8 _ ((gs6.trans g7).none hp8) (gs6.trans (g7.trans (g8.trans g9))) (g9 _ _ e8) aB
variable (Zcd:MB P w K mg base (CX0) 3 ZdE Zhp ["self"] (spRdInit CA.reader CA.streak))
include ZdW Zbb Ze Zw Zp ZE Zat in
theorem Zka (F0:Fun K "__init__" "Reader.__init__" ZhK ZdE Zhp):type_of% Zcd:=by
 refine mbM ["self"] F0 fun Sc0=>F0.ok Sc0 (fun vs H Q E h=>?_) fun cdv A outer s H vs Q E hr h=>?_
 ·obtain⟨a,dx,rfl,_⟩:=h
  rfl
 obtain⟨a,dx,rfl,ha,q⟩:=h
 have nd:=Sc0.nd
 refine⟨_,(aF (bJ Ze Zw (dv 0) (gO Zbb Zat.1 (hr.mono (by decide)) rfl ZdW Zat.2 .nil aN)) (aF (bJ Ze Zp (dv 0) (bN aD)) (aG (bJ Ze ZE (dv 0) aY)))),?_⟩
 refine fun st ds hst hds hne=>⟨st,ds,rfl,aB,fun H2 eH=>⟨rfl,?_⟩⟩
 have g1:Same H H2:=by rw[eH];exact bL hst hds
 have s2:SkAt CA.streak H2 st (sk []):=⟨ds,by rw[eH];exact aB⟩
 clear eH
 refine⟨dx, [],g1 _ _ ha,by decide,?_⟩
 have nas:a≠st:=fun z=>by rw[z,hst]at ha;cases ha
 refine⟨aK rfl,fun ks hks=>?_⟩
 have nak:a≠ks:=fun z=>by rw[z]at hks;rw[aB]at hks;cases hks
 have hks2:H2 ks=none:=by rw[aL (Ne.symm nak)]at hks;exact hks
 have nsk:st≠ks:=fun z=>by
  obtain⟨d,e⟩:=s2
  rw[z,hks2]at e;cases e
 refine⟨dx, [("streak",.ref st)],(by rw[aL nak,aB];rfl),(show 1<1000 by decide),?_⟩
 refine⟨dx,_,aB,(show 2<1000 by decide),?_⟩
 refine q _ st ks ⟨⟨dx,aB⟩,?_,?_⟩ hst (g1.none hks2) ?_
 ·refine s2.at_ ?_
  rw[aL (Ne.symm nas),aL (Ne.symm nas),aL nsk,aL (Ne.symm nas)]
 ·rw[aL (Ne.symm nak),aL (Ne.symm nak),aB]
  rfl
 ·intro x o hx e
  have hxk:x≠ks:=fun z=>by rw[z,g1.none hks2]at e;cases e
  rw[aL hx,aL hx,aL hxk,aL hx]
  exact g1 _ _ e
variable (Zbt:MB P w K mg base (CX0) 4 Zc1 Zf4 ["self"] (spRdJudged CA.reader CA.streak))
include ZG Zh Ze ZA ZaB Zw Zp ZI Zax Z1 ZZ in
theorem Zjy (F0:Fun K "judged" "Reader.judged" Zga Zc1 Zf4):type_of% Zbt:=by
 refine mbM ["self"] F0 fun Sc0=>F0.ok Sc0 (fun vs H Q E h=>?_) fun cdv A outer s H vs Q E hr h=>?_
 ·obtain⟨r,st,ks,w,t,rfl,_⟩:=h
  rfl
 obtain⟨r,st,ks,w,t,rfl,hR,hb,hl,q⟩:=h
 have nd:=Sc0.nd
 refine⟨_,(aF (bF (bY (bD Zh ZaB Zax.1 (hr.mono (by decide)) Zax.2 .nil aN (aO Ze Zw (dv 0)))) (aG (aM aY)) aV) (aF (bF (PW.pt (lL (bY (bD Zh ZA ZI.1 (hr.mono (by decide)) ZI.2 .nil aN (aO Ze Zw (dv 0)))) (jP (dN (bY (aP ZZ.1 (hr.mono (by decide)) rfl ZZ.2.2.2 ZZ.2.2.1 ZZ.2.1 .nil aN (aA (aO Ze Zp (dv 0)) aD))))))) (aG (aM aY)) aV) (aG (aM (bR (cL (aX cV (aP Z1.1 (hr.mono (by decide)) rfl Z1.2.2.2 Z1.2.2.1 Z1.2.1 .nil aN (aA (aO Ze Zp (dv 0)) aD)) aJ (aR _)) aY aY)))))),?_⟩
 obtain⟨dx,er⟩:=hR.rd
 have hs:=hR.sk
 obtain⟨ds,es⟩:=id hs
 refine⟨dx,_,.ref st,er,rfl,⟨ds,_,es,rfl⟩,st,sk w,rfl,hs,?_⟩
 conv=>whnf
 refine bK (fun c=>?_) (fun c=>?_)
 ·have c1:5<run w:=dec_true c
  have:=q H (Same.refl _)
  rw[jF c1]at this
  exact this
 have c1:¬ 5<run w:=dec_false c
 refine⟨dx,_,.ref st,er,rfl,⟨ds,_,es,rfl⟩,st,sk w,rfl,hs,?_⟩
 conv=>whnf
 refine bK (fun z=>?_) (fun z=>?_)
 ·have z1:run w=5:=dec_true z
  have:=q H (Same.refl _)
  rw[fX c1 (.inl z1)]at this
  exact this
 have z1:¬ run w=5:=dec_false z
 have kb:=nA hb
 have kl:=qR w
 refine⟨dx,_,.ref ks,er,rfl,ks,kp w,rfl,SqL.of hR.kp,kb,by omega,fun hc H1 g1=>?_,fun hc H1 g1=>?_⟩
 ·have hc2:¬ (run w=5\/¬ CmpB (kp w)):=fun y=>y.elim z1 fun x=>x hc
  refine⟨fun x H'=>x= .str (ans w)/\Same H H',?_,?_⟩
  ·refine⟨dx,_,.ref ks,g1 _ _ er,rfl,ks,kp w,rfl,SqL.of (g1 _ _ hR.kp),kb,by omega,fun H2 g2=>?_⟩
   conv=>whnf
   refine bK (fun y=>?_) (fun y=>?_)
   ·have y1:((rst (kp w):Nat):Int)=0:=dec_true y
    rw[iK c1 hc2 (by omega)]
    exact⟨rfl,g1.trans g2⟩
   ·have y1:¬ ((rst (kp w):Nat):Int)=0:=dec_false y
    rw[nU c1 hc2 (by omega)]
    exact⟨rfl,g1.trans g2⟩
  ·rintro x H2 ⟨rfl,g2⟩
   exact q _ g2
 ·have:=q H1 g1
  rw[fX c1 (.inr hc)]at this
  exact this
variable (ZY:MB P w K mg base (CX0) 5 ZdD Zho ["self","bit"] (spRdHear CA.reader CA.streak))
include ZG Zh Ze ZR ZA Za4 Zw Zp ZE ZS ZI Zbt in
theorem Zj9 (F0:Fun K "hear" "Reader.hear" ZhJ ZdD Zho):type_of% ZY:=by
 refine mbM ["self","bit","is_put_in"] F0 fun Sc0=>F0.ok Sc0 (fun vs H Q E h=>?_) fun cdv A outer s H vs Q E hr h=>?_
 ·obtain⟨r,st,ks,w,t,b,rfl,_⟩:=h
  rfl
 obtain⟨r,st,ks,w,t,b,rfl,hR,hb,hl,q⟩:=h
 have nd:=Sc0.nd
 refine⟨_,(aF (aW (i:=2) nd rfl (Or.inl rfl) (bD Zh ZA ZI.1 (hr.mono (by decide)) ZI.2 .nil aN (aO Ze Zw (dv 0)))) (aF (aZ (bH Zh ZR ZS.1 (hr.mono (by decide)) ZS.2 .nil aN (aO Ze Zw (dv 0)) (aA (dv 1) aD))) (aF (gC (bF (dN (bY (dv 2))) (aG (aZ (bO (aO Ze Zp (dv 0)) (aA (dv 1) aD)))) aV)) (aF (bJ Ze ZE (dv 0) (bD Ze Za4 Zbt.1 (hr.mono (by decide)) Zbt.2 .nil aN (dv 0))) (aG (aM (aO Ze ZE (dv 0)))))))),?_⟩
 obtain⟨dx,er⟩:=hR.rd
 have hs:=hR.sk
 obtain⟨ds,es⟩:=id hs
 refine⟨dx,_,.ref st,er,rfl,⟨ds,_,es,rfl⟩,st,sk w,rfl,hs,?_⟩
 refine⟨dx,_,.ref st,er,rfl,⟨ds,_,es,rfl⟩,st,sk w,b,rfl,hs,fun H2 s2 k2=>?_⟩
 rw[<-fY]at s2
 have er2:=(k2 r hR.ne1).trans er
 have ek2:=(k2 ks hR.ne3).trans hR.kp
 have kl:=qR w
 refine⟨fun σ' H'=>σ'= [some (.ref r),some (.int b),some (.bl (decide (run w=5)))]/\RdAt CA.reader CA.streak H' r st ks (w++[b]) t/\But3 H H' r st ks,?_,?_⟩
 ·conv =>whnf
  refine bK (fun c=>?_) (fun c=>?_)
  ·have c1:¬ run w=5:=fun y=>by
    have:(!decide (run w=5))=true:=c
    rw[Yl y]at this;cases this
   refine⟨dx,_,.ref ks,er2,rfl,⟨_,SqL.of ek2⟩,_,ek2,bI (by rw[Ya];omega),rfl,⟨⟨dx,(by rw[aL hR.ne2];exact er2)⟩,s2.set ek2,?_⟩,?_⟩
   ·rw[aB,cX,if_neg c1,Yk];rfl
   ·intro x o h1 h2 h3 e
    rw[aL h3,k2 x h2]
    exact e
  ·have c1:run w=5:=YB fun y=>c (by
    show (!decide (run w=5))=true
    rw[Ym y];rfl)
   refine⟨rfl,⟨⟨dx,er2⟩,s2,?_⟩,?_⟩
   ·rw[cX,if_pos c1];exact ek2
   ·intro x o h1 h2 h3 e
    rw[k2 x h2]
    exact e
 rintro σ' H3 ⟨rfl,hR3,b3⟩
 have h450:(w++[b]).length<=450:=by rw[Yc,Yu];omega
 obtain⟨dy,er3⟩:=hR3.rd
 refine⟨⟨dy,_,er3,rfl⟩,r,st,ks,w++[b],t,rfl,hR3,hb,h450,fun H4 g4=>?_⟩
 have hR4:=hR3.same g4
 obtain⟨dz,er4⟩:=hR4.rd
 refine⟨dz,_,er4,(show 3<1000 by decide),?_⟩
 have hR5:RdAt CA.reader CA.streak (upd H4 r (.ins CA.reader dz (rdF st ks (ans (w++[b]))))) r st ks (w++[b]) (ans (w++[b])):=⟨⟨dz,aB⟩,hR4.sk.at_ (aL (Ne.symm hR4.ne1)),by rw[aL (Ne.symm hR4.ne2)];exact hR4.kp⟩
 have b5:But3 H (upd H4 r (.ins CA.reader dz (rdF st ks (ans (w++[b]))))) r st ks:=fun x o h1 h2 h3 e=>by
  rw[aL h1]
  exact g4 _ _ (b3 x o h1 h2 h3 e)
 exact⟨dz,_,.str (ans (w++[b])),aB,rfl,q _ hR5 b5⟩
variable (ZbW:MB P w K mg base (CX0) 1 Zdi ZgK ["self"] (spRdPlain CA.reader CA.streak))
include ZaD Ze Zp in
theorem ZjN (F0:Fun K "plain" "Reader.plain" ZgY Zdi ZgK):type_of% ZbW:=by
 refine mbM ["self"] F0 fun Sc0=>F0.ok Sc0 (fun vs H Q E h=>?_) fun cdv A outer s H vs Q E hr h=>?_
 ·obtain⟨r,st,ks,w,t,rfl,_⟩:=h
  rfl
 obtain⟨r,st,ks,w,t,rfl,hR,q⟩:=h
 have nd:=Sc0.nd
 refine⟨_,(aG (aM (cR dM rfl ZaD fC (aA (aO Ze Zp (dv 0)) aD)))),?_⟩
 obtain⟨dx,er⟩:=hR.rd
 exact⟨dx,_,.ref ks,er,rfl,_,.inl (SqL.of hR.kp),fun p hp=>q p _ hp (aH hp _) aB⟩
variable (ZbV:MB P w K mg base (CX0) 5 Zdh ZgJ ["self"] (spRdFrame CA.reader CA.streak))
include ZG Zn Ze Zp ZE Zbk in
theorem ZjM (F0:Fun K "frame" "Reader.frame" ZgX Zdh ZgJ):type_of% ZbV:=by
 refine mbM ["self"] F0 fun Sc0=>F0.ok Sc0 (fun vs H Q E h=>?_) fun cdv A outer s H vs Q E hr h=>?_
 ·obtain⟨r,st,ks,w,rfl,_⟩:=h
  rfl
 obtain⟨r,st,ks,w,rfl,hR,hb,hl,h0,q1,q2⟩:=h
 have nd:=Sc0.nd
 refine⟨_,(aG (aM (bR (cL (aX cV (aO Ze ZE (dv 0)) aY (aR _)) (aP Zbk.1 (hr.mono (by decide)) rfl Zbk.2.2.2 Zbk.2.2.1 Zbk.2.1 .nil dF (aA (aO Ze Zp (dv 0)) aD)) jT)))),?_⟩
 obtain⟨dx,er⟩:=hR.rd
 have kb:=nA hb
 have kl:=qR w
 refine⟨fun x H'=>Q x H',?_,fun x H' z=>z⟩
 refine⟨dx,_,.str (ans w),er,rfl,?_⟩
 conv=>whnf
 refine bK (fun c=>?_) (fun c=>?_)
 ·have c1:ans w="whole":=YT c
  have c2:=nR c1
  have ok:RdOk (kp w):=⟨c2.1,h0 c1,c2.2⟩
  refine⟨dx,_,.ref ks,er,rfl,ks,kp w,rfl,SqL.of hR.kp,kb,by omega,fun _ t p H' hp g e1 e2=>q1 c1 ok t p H' hp g e1 e2,fun no=>absurd ok no⟩
 ·exact q2 fun z=>c (Yl z)
variable (ZaV:MB P w K mg base (CX0) 1 ZeL ZiW ["self","votes","spoke"] (spTlInit K CA.rtail CA.stail))
include Zg Zf in
theorem Zk9 (F0:Fun K "__init__" "Tail.__init__" Zjh ZeL ZiW):type_of% ZaV:=by
 refine mbM ["self","votes","spoke"] F0 fun Sc0=>F0.ok Sc0 (fun vs H Q E h=>?_) fun cdv A outer s H vs Q E hr h=>?_
 ·obtain⟨t,C,dx,v,s,rfl,_⟩:=h
  rfl
 obtain⟨t,C,dx,v,s,rfl,hC,e,q⟩:=h
 have nd:=Sc0.nd
 refine⟨_,(aF (gA (dv 0) (dv 1)) (aF (gA (dv 0) (dv 2)) (aF (gA (dv 0) aJ) (aG (gA (dv 0) aJ))))),?_⟩
 have hc:=fH Zg Zf hC
 refine⟨C,dx,_,e,hc.cls,hc.n1,by decide,?_⟩
 refine⟨C,dx,_,aB,hc.cls,hc.n2,(show 1<1000 by decide),?_⟩
 refine⟨C,dx,_,aB,hc.cls,hc.n3,(show 2<1000 by decide),?_⟩
 refine⟨C,dx,_,aB,hc.cls,hc.n4,(show 3<1000 by decide),?_⟩
 have eu:∀(H:Hp)(a:Addr)(x y:HO),upd (upd H a x) a y=upd H a y:=fun H a x y=>by
  funext z
  by_cases h:z=a
  ·rw[h,aB,aB]
  ·rw[aL h,aL h,aL h]
 rw[eu,eu,eu]
 exact q
variable (ZcV:MB P w K mg base (CX0) 1 Zds ZiX ["self"] (spTlSays CA.rtail CA.stail))
include Zcn Zg Zf in
theorem Zla (F0:Fun K "says" "Tail.says" Zji Zds ZiX):type_of% ZcV:=by
 refine mbM ["self"] F0 fun Sc0=>F0.ok Sc0 (fun vs H Q E h=>?_) fun cdv A outer s H vs Q E hr h=>?_
 ·obtain⟨t,v,s,o,n,rfl,_⟩:=h
  rfl
 obtain⟨t,v,s,o,n,rfl,⟨C,dx,hC,e⟩,q⟩:=h
 have nd:=Sc0.nd
 refine⟨_,(aG (aM (bR (cL (PW.pt (fO (aX cV (cN (dv 0)) (bA (v:= .int 1) rfl Zcn ⟨_,rfl⟩) (aR _)) (eU (dN (bY (cN (dv 0))))))) aJ aJ)))),?_⟩
 have hc:=fH Zg Zf hC
 refine⟨fun x H'=>x= .int (tlSays s o)/\H'=H,?_,?_⟩
 ·refine⟨C,dx,_,_,e,hc.cls,hc.n3,rfl,?_⟩
  conv=>whnf
  refine bK (fun c=>?_) (fun c=>vD ?_)
  ·have c1:((o:Nat):Int)=1:=dec_true c
   refine⟨C,dx,_,_,e,hc.cls,hc.n2,rfl,?_⟩
   cases s
   ·refine⟨?_,rfl⟩
    unfold tlSays
    rw[if_pos ⟨by omega,rfl⟩]
   ·refine⟨?_,rfl⟩
    unfold tlSays
    rw[if_neg fun z=>nomatch z.2]
  ·have c1:¬ ((o:Nat):Int)=1:=dec_false c
   refine⟨?_,rfl⟩
   unfold tlSays
   rw[if_neg fun z=>c1 (by omega)]
 rintro x H' ⟨rfl,rfl⟩
 exact q
variable (Zh0:MB P w K mg base (CX0) 1 ZfJ Zif ["self"] (spTlPlace CA.rtail CA.stail))
include Zg Zf in
theorem ZkF (F0:Fun K "place" "Tail.place" Zix ZfJ Zif):type_of% Zh0:=by
 refine mbM ["self"] F0 fun Sc0=>F0.ok Sc0 (fun vs H Q E h=>?_) fun cdv A outer s H vs Q E hr h=>?_
 ·obtain⟨t,v,s,o,n,rfl,_⟩:=h
  rfl
 obtain⟨t,v,s,o,n,rfl,⟨C,dx,hC,e⟩,q⟩:=h
 have nd:=Sc0.nd
 refine⟨_,(aG (aM (cN (dv 0)))),?_⟩
 have hc:=fH Zg Zf hC
 exact⟨C,dx,_,_,e,hc.cls,hc.n3,rfl,q⟩
variable (Zbu:MB P w K mg base (CX0) 1 Zcj Zf5 ["self","at","bit"] (spTlFault CA.rtail CA.stail))
include Zcn Zg Zf in
theorem Zjz (F0:Fun K "is_fault" "Tail.is_fault" Zgb Zcj Zf5):type_of% Zbu:=by
 refine mbM ["self","at","bit"] F0 fun Sc0=>F0.ok Sc0 (fun vs H Q E h=>?_) fun cdv A outer s H vs Q E hr h=>?_
 ·obtain⟨t,v,s,o,n,a,b,rfl,_⟩:=h
  rfl
 obtain⟨t,v,s,o,n,a,b,rfl,⟨C,dx,hC,e⟩,q⟩:=h
 have nd:=Sc0.nd
 refine⟨_,(aF (bF (aX cV (dv 1) (bA (v:= .int 1) rfl Zcn ⟨_,rfl⟩) (aR _)) (aG (aM (yL (cN (dv 0)) (xK (cD cV (dv 2) aJ (aR _)))))) aV) (aG (aM (cD cV (dv 2) aJ (aR _))))),?_⟩
 have hc:=fH Zg Zf hC
 conv=>whnf
 refine bK (fun c=>?_) (fun c=>?_)
 ·have c1:((a:Nat):Int)=1:=dec_true c
  have ef:tlFault s a b=(s && decide (b=1)):=if_pos (by omega)
  rw[ef]at q
  refine⟨C,dx,_,_,e,hc.cls,hc.n2,rfl,?_⟩
  cases s
  ·exact q
  ·exact q
 ·have c1:¬ ((a:Nat):Int)=1:=dec_false c
  have ef:tlFault s a b=decide (b=0):=if_neg (by omega)
  rw[ef]at q
  exact q
variable (ZaL:MB P w K mg base (CX0) 1 Zbm ZeS ["self","bit"] (spTlJudge CA.rtail CA.stail))
include ZcL Zg Zf in
theorem ZhU (F0:Fun K "judged_vote" "Tail.judged_vote" ZeT Zbm ZeS):type_of% ZaL:=by
 refine mbM ["self","bit"] F0 fun Sc0=>F0.ok Sc0 (fun vs H Q E h=>?_) fun cdv A outer s H vs Q E hr h=>?_
 ·obtain⟨t,v,s,o,n,b,rfl,_⟩:=h
  rfl
 obtain⟨t,v,s,o,n,b,rfl,⟨C,dx,hC,e⟩,q⟩:=h
 have nd:=Sc0.nd
 refine⟨_,(aF (gC (bF (aX cV (dv 1) aJ (aR _)) (aG (gA (dv 0) (aU bZ (cN (dv 0)) aJ))) aV)) (aF (bF (aX wC (cN (dv 0)) (aU bZ (bA (v:= .int 9) rfl ZcL ⟨_,rfl⟩) (cN (dv 0))) (aR _)) (aG (aM aY)) aV) (aG (aM (bR (cL (aX wF (cN (dv 0)) (aU a3L (cN (dv 0)) aJ) (aR _)) aY aY)))))),?_⟩
 have hc:=fH Zg Zf hC
 refine⟨fun σ' H'=>σ'= [some (.ref t),some (.int b)]/\H' t=some (.ins C dx (tlF v s o (if b=0 then n+1 else n)))/\But1 H H' t,?_,?_⟩
 ·conv=>whnf
  refine bK (fun c=>?_) (fun c=>?_)
  ·have c1:b=0:=dec_true c
   refine⟨C,dx,_,_,e,hc.cls,hc.n4,rfl,C,dx,_,e,hc.cls,hc.n4,(show 4<1000 by decide),rfl,?_,fun x u hx ex=>by rw[aL hx];exact ex⟩
   rw[aB,if_pos c1]
   rfl
  ·have c1:¬ b=0:=dec_false c
   refine⟨rfl,?_,fun x u hx ex=>ex⟩
   rw[if_neg c1]
   exact e
 rintro σ' H' ⟨rfl,e',b'⟩
 have q':=q H' ⟨C,dx,hC,e'⟩ b'
 generalize (if b=0 then n+1 else n)=m at e' q'
 refine⟨C,dx,_,_,e',hc.cls,hc.n3,rfl,C,dx,_,_,e',hc.cls,hc.n1,rfl,?_⟩
 conv=>whnf
 refine bK (fun c=>?_) (fun c=>?_)
 ·have c1:((o:Nat):Int)<9+((v:Nat):Int):=dec_true c
  have ev:tlVote v o m="more":=if_pos (by omega)
  rw[ev]at q'
  exact q'
 have c1:¬ ((o:Nat):Int)<9+((v:Nat):Int):=dec_false c
 have ev:tlVote v o m=(if v / 2<m then ("refused":Str) else ("taken":Str)):=if_neg (by omega)
 rw[ev]at q'
 refine⟨fun x H2=>x= .str (if v / 2<m then ("refused":Str) else ("taken":Str))/\H2=H',?_,?_⟩
 ·refine⟨C,dx,_,_,e',hc.cls,hc.n4,rfl,C,dx,_,_,e',hc.cls,hc.n1,rfl,?_⟩
  refine⟨⟨by decide,by decide⟩,?_⟩
  conv=>whnf
  refine bK (fun z=>?_) (fun z=>?_)
  ·have z1:((v:Nat):Int) / 2<((m:Nat):Int):=dec_true z
   rw[if_pos (by omega)]
   exact⟨rfl,rfl⟩
  ·have z1:¬ ((v:Nat):Int) / 2<((m:Nat):Int):=dec_false z
   rw[if_neg (by omega)]
   exact⟨rfl,rfl⟩
 rintro x H2 ⟨rfl,rfl⟩
 exact q'
variable (ZcU:MB P w K mg base (CX0) 2 Zdr ZiV ["self","bit"] (spTlHear CA.rtail CA.stail))
include ZcL Zg Zf ZaR ZaK ZaC Zan Zbu ZaL in
theorem Zk8 (F0:Fun K "hear" "Tail.hear" Zjg Zdr ZiV):type_of% ZcU:=by
 refine mbM ["self","bit","at"] F0 fun Sc0=>F0.ok Sc0 (fun vs H Q E h=>?_) fun cdv A outer s H vs Q E hr h=>?_
 ·obtain⟨t,v,s,o,n,b,rfl,_⟩:=h
  rfl
 obtain⟨t,v,s,o,n,b,rfl,⟨C,dx,hC,e⟩,q⟩:=h
 have nd:=Sc0.nd
 refine⟨_,(aF (aW (i:=2) nd rfl (Or.inl rfl) (cN (dv 0))) (aF (gA (dv 0) (aU bZ (dv 2) aJ)) (aF (bF (aX tY (dv 2) (bA (v:= .int 9) rfl ZcL ⟨_,rfl⟩) (aR _)) (aG (aM (jW ZaL.1 (hr.mono (by decide)) ZaL.2 .nil aN (dv 0) (aA (dv 1) aD)))) aV) (aG (aM (bR (cL (bY (jW Zbu.1 (hr.mono (by decide)) Zbu.2 .nil aN (dv 0) (aA (dv 2) (aA (dv 1) aD)))) aY aY))))))),?_⟩
 have hc:=fH Zg Zf hC
 have hmj:=lG ZaC Zan hC
 have hmf:=lG ZaR ZaK hC
 refine⟨C,dx,_,_,e,hc.cls,hc.n3,rfl,C,dx,_,e,hc.cls,hc.n3,(show 4<1000 by decide),?_⟩
 have e1:upd H t (.ins C dx (putF "over" (.int (((o:Nat):Int)+1)) (tlF v s o n))) t=some (.ins C dx (tlF v s (o+1) n)):=aB
 have b1:But1 H (upd H t (.ins C dx (putF "over" (.int (((o:Nat):Int)+1)) (tlF v s o n)))) t:=fun x u hx ex=>by rw[aL hx];exact ex
 generalize upd H t (.ins C dx (putF "over" (.int (((o:Nat):Int)+1)) (tlF v s o n)))=H1 at e1 b1
 conv=>whnf
 refine bK (fun c=>?_) (fun c=>?_)
 ·have c1:(9:Int)<=((o:Nat):Int):=dec_true c
  have c2:9<=o:=by omega
  refine⟨⟨C,dx,_,e1,hc.cls,hmj,rfl⟩,t,v,s,o+1,n,b,rfl,⟨C,dx,hC,e1⟩,fun H2 h2 b2=>?_⟩
  have en:tlN o b n=(if b=0 then n+1 else n):=by
   unfold tlN
   by_cases z:b=0
   ·rw[if_pos ⟨c2,z⟩,if_pos z]
   ·rw[if_neg fun y=>z y.2,if_neg z]
  have ew:tlWord v s o n b=tlVote v (o+1) (tlN o b n):=if_pos c2
  rw[<-en]at h2 ⊢
  have:=q H2 h2 fun x u hx ex=>b2 x u hx (b1 x u hx ex)
  rw[ew]at this
  exact this
 have c1:¬ (9:Int)<=((o:Nat):Int):=dec_false c
 have c2:¬ 9<=o:=by omega
 have en:tlN o b n=n:=if_neg fun z=>c2 z.1
 have ew:tlWord v s o n b=(if tlFault s o b=true then ("fault":Str) else ("more":Str)):=if_neg c2
 rw[ew,en]at q
 have q':=q H1 ⟨C,dx,hC,e1⟩ b1
 refine⟨fun x H2=>x= .str (if tlFault s o b=true then ("fault":Str) else ("more":Str))/\H2=H1,?_,?_⟩
 ·refine⟨⟨C,dx,_,e1,hc.cls,hmf,rfl⟩,t,v,s,o+1,n,o,b,rfl,⟨C,dx,hC,e1⟩,?_⟩
  generalize tlFault s o b=f
  cases f
  ·exact⟨rfl,rfl⟩
  ·exact⟨rfl,rfl⟩
 rintro x H2 ⟨rfl,rfl⟩
 exact q'
variable (Zbs:MB P w K mg base (CX0) 2 Zc0 Zf3 ["self","votes"] (spTlMake CA.rtail false))
include Zc9 Zg Zf Z9 ZaV in
theorem Zjx (F0:Fun K "__init__" "ReadTail.__init__" Zf9 Zc0 Zf3):type_of% Zbs:=by
 refine mbM ["self","votes"] F0 fun Sc0=>F0.ok Sc0 (fun vs H Q E h=>?_) fun cdv A outer s H vs Q E hr h=>?_
 ·obtain⟨t,dx,v,rfl,_⟩:=h
  rfl
 obtain⟨t,dx,v,rfl,e,q⟩:=h
 have nd:=Sc0.nd
 refine⟨_,(aG (aZ (pG Z9 ZaV.1 (hr.mono (by decide)) ZaV.2 .nil aN (bA (v:= .ref Zdq) rfl Zc9 rfl) (aA (dv 0) (aA (dv 1) (aA dX aD)))))),?_⟩
 exact⟨rfl,t,CA.rtail,dx,v,false,rfl,.inl rfl,e,q _ rfl⟩
variable (Za8:MB P w K mg base (CX0) 2 ZcF ZfT ["self","votes"] (spTlMake CA.stail true))
include Zc9 Zg Zf Z9 ZaV in
theorem ZiJ (F0:Fun K "__init__" "SpeakTail.__init__" ZfZ ZcF ZfT):type_of% Za8:=by
 refine mbM ["self","votes"] F0 fun Sc0=>F0.ok Sc0 (fun vs H Q E h=>?_) fun cdv A outer s H vs Q E hr h=>?_
 ·obtain⟨t,dx,v,rfl,_⟩:=h
  rfl
 obtain⟨t,dx,v,rfl,e,q⟩:=h
 have nd:=Sc0.nd
 refine⟨_,(aG (aZ (pG Z9 ZaV.1 (hr.mono (by decide)) ZaV.2 .nil aN (bA (v:= .ref Zdq) rfl Zc9 rfl) (aA (dv 0) (aA (dv 1) (aA dX aD)))))),?_⟩
 exact⟨rfl,t,CA.stail,dx,v,true,rfl,.inr rfl,e,q _ rfl⟩
variable (Zcr:MB P w K mg base (CX0) 1 Zd3 Zh7 ["self"] (spCtInit CA.count))
include Zd Zo in
theorem Zkx (F0:Fun K "__init__" "Count.__init__" Zip Zd3 Zh7):type_of% Zcr:=by
 refine mbM ["self"] F0 fun Sc0=>F0.ok Sc0 (fun vs H Q E h=>?_) fun cdv A outer s H vs Q E hr h=>?_
 ·obtain⟨a,dx,rfl,_⟩:=h
  rfl
 obtain⟨a,dx,rfl,ha,q⟩:=h
 have nd:=Sc0.nd
 refine⟨_,(aG (bJ Zd Zo (dv 0) aJ)),?_⟩
 exact⟨dx, [],ha,by decide,q⟩
variable (Za5:MB P w K mg base (CX0) 1 ZcC ZfQ ["self"] (spCtB CA.count 12))
include Zek Zd Zo in
theorem ZiG (F0:Fun K "is_quiet" "Count.is_quiet" ZfW ZcC ZfQ):type_of% Za5:=by
 refine mbM ["self"] F0 fun Sc0=>F0.ok Sc0 (fun vs H Q E h=>?_) fun cdv A outer s H vs Q E hr h=>?_
 ·obtain⟨a,n,rfl,_⟩:=h
  rfl
 obtain⟨a,n,rfl,⟨dx,ha⟩,q⟩:=h
 have nd:=Sc0.nd
 refine⟨_,(aG (aM (cD tY (aO Zd Zo (dv 0)) (bA (v:= .int 12) rfl Zek ⟨_,rfl⟩) (aR _)))),?_⟩
 exact⟨dx,_,.int n,ha,rfl,q⟩
variable (Zah:MB P w K mg base (CX0) 1 Zdd ZgF ["self"] (spCtB CA.count 18))
include Zfp Zd Zo in
theorem ZjI (F0:Fun K "is_off" "Count.is_off" ZgT Zdd ZgF):type_of% Zah:=by
 refine mbM ["self"] F0 fun Sc0=>F0.ok Sc0 (fun vs H Q E h=>?_) fun cdv A outer s H vs Q E hr h=>?_
 ·obtain⟨a,n,rfl,_⟩:=h
  rfl
 obtain⟨a,n,rfl,⟨dx,ha⟩,q⟩:=h
 have nd:=Sc0.nd
 refine⟨_,(aG (aM (cD tY (aO Zd Zo (dv 0)) (bA (v:= .int 18) rfl Zfp ⟨_,rfl⟩) (aR _)))),?_⟩
 exact⟨dx,_,.int n,ha,rfl,q⟩
variable (ZbT:MB P w K mg base (CX0) 1 Zde ZgG ["self"] (spCtN CA.count))
include Zd Zo in
theorem ZjJ (F0:Fun K "number" "Count.number" ZgU Zde ZgG):type_of% ZbT:=by
 refine mbM ["self"] F0 fun Sc0=>F0.ok Sc0 (fun vs H Q E h=>?_) fun cdv A outer s H vs Q E hr h=>?_
 ·obtain⟨a,n,rfl,_⟩:=h
  rfl
 obtain⟨a,n,rfl,⟨dx,ha⟩,q⟩:=h
 have nd:=Sc0.nd
 refine⟨_,(aG (aM (aO Zd Zo (dv 0)))),?_⟩
 exact⟨dx,_,.int n,ha,rfl,q⟩
variable (ZaE:MB P w K mg base (CX0) 2 Zd4 Zh8 ["self","step"] (spCtMove CA.count))
include ZkU Zd Z5 Zo Zah in
theorem Zky (F0:Fun K "move" "Count.move" Ziq Zd4 Zh8):type_of% ZaE:=by
 refine mbM ["self","step"] F0 fun Sc0=>F0.ok Sc0 (fun vs H Q E h=>?_) fun cdv A outer s H vs Q E hr h=>?_
 ·obtain⟨a,n,st,rfl,_⟩:=h
  rfl
 obtain⟨a,n,st,rfl,⟨dx,ha⟩,q⟩:=h
 have nd:=Sc0.nd
 refine⟨_,(aG (bF (dN (bY (bD Zd Z5 Zah.1 (hr.mono (by decide)) Zah.2 .nil aN (dv 0)))) (aG (bJ Zd Zo (dv 0) (bB (a3J rfl) rfl ZkU a5J (aA aJ (aA (aU bZ (aO Zd Zo (dv 0)) (dv 1)) aD))))) aV)),?_⟩
 refine⟨⟨dx,_,ha,rfl⟩,a,n,rfl,⟨dx,ha⟩,?_⟩
 conv=>whnf
 refine bK (fun c=>?_) (fun c=>?_)
 ·have c1:¬ (18:Int)<=n:=fun z=>by
   have:(!decide ((18:Int)<=n))=true:=c
   rw[Yl z]at this
   cases this
  refine⟨dx,_,.int n,ha,rfl,dx,_,ha,(show 1<1000 by decide),q _ ?_ fun b hb=>aL hb⟩
  refine⟨dx,?_⟩
  unfold mvd
  rw[if_neg c1]
  exact aB
 ·have c1:(18:Int)<=n:=YB fun z=>c (by
   show (!decide ((18:Int)<=n))=true
   rw[Ym z];rfl)
  refine q _ ?_ fun b hb=>rfl
  unfold mvd
  rw[if_pos c1]
  exact⟨dx,ha⟩
variable (Zaq:MB P w K mg base (CX0) 3 Zdt Zhe ["self","spoke"] (spCtFault CA.count))
include ZdM ZdO Zd Zae ZaE in
theorem ZjZ (F0:Fun K "fault" "Count.fault" Zhz Zdt Zhe):type_of% Zaq:=by
 refine mbM ["self","spoke"] F0 fun Sc0=>F0.ok Sc0 (fun vs H Q E h=>?_) fun cdv A outer s H vs Q E hr h=>?_
 ·obtain⟨a,n,b,rfl,_⟩:=h
  rfl
 obtain⟨a,n,b,rfl,⟨dx,ha⟩,q⟩:=h
 have nd:=Sc0.nd
 refine⟨_,(aG (aZ (bH Zd Zae ZaE.1 (hr.mono (by decide)) ZaE.2 .nil aN (dv 0) (aA (bR (cL (bY (dv 1)) (bA (v:= .int 8) rfl ZdM ⟨_,rfl⟩) (bA (v:= .int 1) rfl ZdO ⟨_,rfl⟩))) aD)))),?_⟩
 refine⟨⟨dx,_,ha,rfl⟩,fun x H'=>x= .int (if b=true then 8 else 1)/\H'=H,?_,?_⟩
 ·cases b with
  |true=>exact⟨rfl,rfl⟩
  |false=>exact⟨rfl,rfl⟩
 rintro x H' ⟨rfl,rfl⟩
 exact⟨a,n,_,rfl,⟨dx,ha⟩,q⟩
variable (Zcq:MB P w K mg base (CX0) 3 Zd2 Zh6 ["self"] (spCtStep CA.count (-1)))
include Zd Zae ZaE in
theorem Zkw (F0:Fun K "good" "Count.good" Zio Zd2 Zh6):type_of% Zcq:=by
 refine mbM ["self"] F0 fun Sc0=>F0.ok Sc0 (fun vs H Q E h=>?_) fun cdv A outer s H vs Q E hr h=>?_
 ·obtain⟨a,n,rfl,_⟩:=h
  rfl
 obtain⟨a,n,rfl,⟨dx,ha⟩,q⟩:=h
 have nd:=Sc0.nd
 refine⟨_,(aG (aZ (bH Zd Zae ZaE.1 (hr.mono (by decide)) ZaE.2 .nil aN (dv 0) (aA (a3B a2U aJ) aD)))),?_⟩
 exact⟨⟨dx,_,ha,rfl⟩,a,n, -1,rfl,⟨dx,ha⟩,q⟩
variable (Z2:FB P w K mg base (CX0) 7 "begun_reader" Zez ZgN [] (spBegun CA))
include ZG Zn Zhc Ze Zdl ZO Zcd ZY in
theorem ZjQ (F0:GFm K mg "begun_reader" Zg1 Zez ZgN):type_of% Z2:=by
 refine fbM ["reader"] F0 fun Sc0=>F0.F.ok Sc0 (fun vs H Q E h=>?_) fun cdv A outer s H vs Q E hr h=>?_
 ·obtain⟨rfl,_⟩:=h
  rfl
 obtain⟨rfl,q⟩:=h
 have nd:=Sc0.nd
 refine⟨_,(aF (aW (i:=0) nd rfl (Or.inl rfl) (gO Zdl Zcd.1 (hr.mono (by decide)) rfl Zhc Zcd.2 .nil aN)) (aF (aZ (bH Ze ZO ZY.1 (hr.mono (by decide)) ZY.2 .nil aN (dv 0) (aA aJ aD))) (aG (aM (dv 0))))),?_⟩
 refine fun r dr hr0 hdr hne=>⟨r,dr,rfl,aB,fun H2 st ks hR hst hks k2=>⟨rfl,?_⟩⟩
 have s12:Same H H2:=fun x o e=>k2 x o (aQ e hr0) (by rw[aL (aQ e hr0),aL (aQ e hdr)];exact e)
 have nst:H st=none:=Same.none (fun x o e=>(by rw[aL (aQ e hr0),aL (aQ e hdr)];exact e):Same H _) hst
 have nks:H ks=none:=Same.none (fun x o e=>(by rw[aL (aQ e hr0),aL (aQ e hdr)];exact e):Same H _) hks
 obtain⟨dx,exr⟩:=hR.rd
 refine⟨⟨dx,_,exr,rfl⟩,r,st,ks, [],_,0,rfl,hR,(fun z hz=> .inl (Yp.mp hz)),by decide,fun H3 hR3 b3=>?_⟩
 exact q r st ks H3 _ hR3 (fun x o e=>b3 x o (aQ e hr0) (aQ e nst) (aQ e nks) (s12 x o e)) hr0 nst nks
variable (ZaS:MB P w K mg base (CX0) 1 ZeB ZiL ["self","since"] (spIni1 CA.free "since"))
include ZL ZW in
theorem ZkY (F0:Fun K "__init__" "Free.__init__" Zi6 ZeB ZiL):type_of% ZaS:=by
 refine mbM ["self","since"] F0 fun Sc0=>F0.ok Sc0 (fun vs H Q E h=>?_) fun cdv A outer s H vs Q E hr h=>?_
 ·obtain⟨a,dx,v,rfl,_⟩:=h
  rfl
 obtain⟨a,dx,v,rfl,e,q⟩:=h
 have nd:=Sc0.nd
 refine⟨_,(aG (bJ ZL ZW (dv 0) (dv 1))),?_⟩
 exact⟨dx, [],e,by decide,q _ rfl⟩
variable (Zas:MB P w K mg base (CX0) 1 ZdG Zhr ["self","wire","reader","many"] (spIni3 CA.speaks "wire" "reader" "many"))
include Zi ZF ZQ Zz in
theorem Zkc (F0:Fun K "__init__" "Speaks.__init__" ZhM ZdG Zhr):type_of% Zas:=by
 refine mbM ["self","wire","reader","many"] F0 fun Sc0=>F0.ok Sc0 (fun vs H Q E h=>?_) fun cdv A outer s H vs Q E hr h=>?_
 ·obtain⟨a,dx,v,w,z,rfl,_⟩:=h
  rfl
 obtain⟨a,dx,v,w,z,rfl,e,q⟩:=h
 have nd:=Sc0.nd
 refine⟨_,(aF (bJ Zi ZF (dv 0) (dv 1)) (aF (bJ Zi ZQ (dv 0) (dv 2)) (aG (bJ Zi Zz (dv 0) (dv 3))))),?_⟩
 refine⟨dx, [],e,by decide,dx,_,aB,(show 1<1000 by decide),dx,_,aB,(show 2<1000 by decide),?_⟩
 refine q _ ?_
 rw[eO,eO]
 rfl
variable (Z3:MB P w K mg base (CX0) 1 Zd7 Zib ["self","reader","many"] (spIni2 CA.reads "reader" "many"))
include ZC ZV Zao in
theorem ZkB (F0:Fun K "__init__" "Reads.__init__" Zit Zd7 Zib):type_of% Z3:=by
 refine mbM ["self","reader","many"] F0 fun Sc0=>F0.ok Sc0 (fun vs H Q E h=>?_) fun cdv A outer s H vs Q E hr h=>?_
 ·obtain⟨a,dx,v,w,rfl,_⟩:=h
  rfl
 obtain⟨a,dx,v,w,rfl,e,q⟩:=h
 have nd:=Sc0.nd
 refine⟨_,(aF (bJ ZC ZV (dv 0) (dv 1)) (aG (bJ ZC Zao (dv 0) (dv 2)))),?_⟩
 refine⟨dx, [],e,by decide,dx,_,aB,(show 1<1000 by decide),?_⟩
 refine q _ ?_
 rw[eO]
 rfl
variable (Zar:MB P w K mg base (CX0) 1 Zdu Zhf ["self","tail","found"] (spIni2 CA.intail "tail" "found"))
include Zq Zy Zaf in
theorem Zj0 (F0:Fun K "__init__" "InTail.__init__" ZhA Zdu Zhf):type_of% Zar:=by
 refine mbM ["self","tail","found"] F0 fun Sc0=>F0.ok Sc0 (fun vs H Q E h=>?_) fun cdv A outer s H vs Q E hr h=>?_
 ·obtain⟨a,dx,v,w,rfl,_⟩:=h
  rfl
 obtain⟨a,dx,v,w,rfl,e,q⟩:=h
 have nd:=Sc0.nd
 refine⟨_,(aF (bJ Zq Zy (dv 0) (dv 1)) (aG (bJ Zq Zaf (dv 0) (dv 2)))),?_⟩
 refine⟨dx, [],e,by decide,dx,_,aB,(show 1<1000 by decide),?_⟩
 refine q _ ?_
 rw[eO]
 rfl
variable (Zbq:MB P w K mg base (CX0) 1 ZcY Zf1 ["self","left","may_blame"] (spIni2 CA.flag "left" "may_blame"))
include ZbI ZbG ZaJ in
theorem Zjv (F0:Fun K "__init__" "Flagging.__init__" Zf7 ZcY Zf1):type_of% Zbq:=by
 refine mbM ["self","left","may_blame"] F0 fun Sc0=>F0.ok Sc0 (fun vs H Q E h=>?_) fun cdv A outer s H vs Q E hr h=>?_
 ·obtain⟨a,dx,v,w,rfl,_⟩:=h
  rfl
 obtain⟨a,dx,v,w,rfl,e,q⟩:=h
 have nd:=Sc0.nd
 refine⟨_,(aF (bJ ZbI ZbG (dv 0) (dv 1)) (aG (bJ ZbI ZaJ (dv 0) (dv 2)))),?_⟩
 refine⟨dx, [],e,by decide,dx,_,aB,(show 1<1000 by decide),?_⟩
 refine q _ ?_
 rw[eO]
 rfl
variable (ZbX:MB P w K mg base (CX0) 1 Zdj ZgL ["self","may_blame"] (spIni1 CA.settles "may_blame"))
include ZcH ZaQ in
theorem ZjO (F0:Fun K "__init__" "Settles.__init__" ZgZ Zdj ZgL):type_of% ZbX:=by
 refine mbM ["self","may_blame"] F0 fun Sc0=>F0.ok Sc0 (fun vs H Q E h=>?_) fun cdv A outer s H vs Q E hr h=>?_
 ·obtain⟨a,dx,v,rfl,_⟩:=h
  rfl
 obtain⟨a,dx,v,rfl,e,q⟩:=h
 have nd:=Sc0.nd
 refine⟨_,(aG (bJ ZcH ZaQ (dv 0) (dv 1))),?_⟩
 exact⟨dx, [],e,by decide,q _ rfl⟩
variable (Zbg:MB P w K mg base (CX0) 1 Zea Zie ["self","left"] (spIni1 CA.rests "left"))
include Zai Zap in
theorem ZkE (F0:Fun K "__init__" "Rests.__init__" Ziw Zea Zie):type_of% Zbg:=by
 refine mbM ["self","left"] F0 fun Sc0=>F0.ok Sc0 (fun vs H Q E h=>?_) fun cdv A outer s H vs Q E hr h=>?_
 ·obtain⟨a,dx,v,rfl,_⟩:=h
  rfl
 obtain⟨a,dx,v,rfl,e,q⟩:=h
 have nd:=Sc0.nd
 refine⟨_,(aG (bJ Zai Zap (dv 0) (dv 1))),?_⟩
 exact⟨dx, [],e,by decide,q _ rfl⟩
variable (Zbr:MB P w K mg base (CX0) 2 ZcZ Zf2 ["self"] (spBdB CA 12))
include Zd Za ZaY Zk Za5 in
theorem Zjw (F0:Fun K "is_quiet" "Post.is_quiet" Zf8 ZcZ Zf2):type_of% Zbr:=by
 refine mbM ["self"] F0 fun Sc0=>F0.ok Sc0 (fun vs H Q E h=>?_) fun cdv A outer s H vs Q E hr h=>?_
 ·obtain⟨p,nwf,S,o,rfl,_⟩:=h
  rfl
 obtain⟨p,nwf,S,o,rfl,⟨dx,ch,wl,ul,ct,ws,us,b⟩,q⟩:=h
 have nd:=Sc0.nd
 refine⟨_,(aG (aM (bD Zd ZaY Za5.1 (hr.mono (by decide)) Za5.2 .nil aN (aO Za Zk (dv 0))))),?_⟩
 obtain⟨dc,ec⟩:=b.et
 exact⟨dx,_,.ref ct,b.e,rfl,⟨dc,_,ec,rfl⟩,ct,S.tot,rfl,⟨dc,ec⟩,q⟩
variable (Zb8:MB P w K mg base (CX0) 2 Zdy Zhj ["self"] (spBdB CA 18))
include Zd Za Z5 Zk Zah in
theorem Zj4 (F0:Fun K "is_off" "Post.is_off" ZhE Zdy Zhj):type_of% Zb8:=by
 refine mbM ["self"] F0 fun Sc0=>F0.ok Sc0 (fun vs H Q E h=>?_) fun cdv A outer s H vs Q E hr h=>?_
 ·obtain⟨p,nwf,S,o,rfl,_⟩:=h
  rfl
 obtain⟨p,nwf,S,o,rfl,⟨dx,ch,wl,ul,ct,ws,us,b⟩,q⟩:=h
 have nd:=Sc0.nd
 refine⟨_,(aG (aM (bD Zd Z5 Zah.1 (hr.mono (by decide)) Zah.2 .nil aN (aO Za Zk (dv 0))))),?_⟩
 obtain⟨dc,ec⟩:=b.et
 exact⟨dx,_,.ref ct,b.e,rfl,⟨dc,_,ec,rfl⟩,ct,S.tot,rfl,⟨dc,ec⟩,q⟩
variable (Zb7:MB P w K mg base (CX0) 2 Zdx Zhi ["self"] (spBdN CA))
include Zd Za Zbc Zk ZbT in
theorem Zj3 (F0:Fun K "faults" "Post.faults" ZhD Zdx Zhi):type_of% Zb7:=by
 refine mbM ["self"] F0 fun Sc0=>F0.ok Sc0 (fun vs H Q E h=>?_) fun cdv A outer s H vs Q E hr h=>?_
 ·obtain⟨p,nwf,S,o,rfl,_⟩:=h
  rfl
 obtain⟨p,nwf,S,o,rfl,⟨dx,ch,wl,ul,ct,ws,us,b⟩,q⟩:=h
 have nd:=Sc0.nd
 refine⟨_,(aG (aM (bD Zd Zbc ZbT.1 (hr.mono (by decide)) ZbT.2 .nil aN (aO Za Zk (dv 0))))),?_⟩
 obtain⟨dc,ec⟩:=b.et
 exact⟨dx,_,.ref ct,b.e,rfl,⟨dc,_,ec,rfl⟩,ct,S.tot,rfl,⟨dc,ec⟩,q⟩
variable (Za6:MB P w K mg base (CX0) 1 ZcD ZfR ["self"] (spHas CA))
include Zx Za Zj in
theorem ZiH (F0:Fun K "has_frame" "Post.has_frame" ZfX ZcD ZfR):type_of% Za6:=by
 refine mbM ["self"] F0 fun Sc0=>F0.ok Sc0 (fun vs H Q E h=>?_) fun cdv A outer s H vs Q E hr h=>?_
 ·obtain⟨p,nwf,S,o,rfl,_⟩:=h
  rfl
 obtain⟨p,nwf,S,o,rfl,⟨dx,ch,wl,ul,ct,ws,us,b⟩,q⟩:=h
 have nd:=Sc0.nd
 refine⟨_,(aG (aM (cD wF (bB cH rfl Zx bU (aA (aO Za Zj (dv 0)) aD)) aJ (aR _)))),?_⟩
 refine⟨dx,_,.ref wl,b.e,rfl,_,.inl (SqL.of b.ew),?_⟩
 rw[b.fw.len]
 exact q
variable (Zaw:MB P w K mg base (CX0) 7 ZbK Zec ["self"] (spForemost CA))
include Zam ZG Zn Za Zj Zcx in
theorem ZgR (F0:Fun K "foremost_wire" "Post.foremost_wire" Zem ZbK Zec):type_of% Zaw:=by
 refine mbM ["self"] F0 fun Sc0=>F0.ok Sc0 (fun vs H Q E h=>?_) fun cdv A outer s H vs Q E hr h=>?_
 ·obtain⟨p,nwf,S,o,f,r,rfl,_⟩:=h
  rfl
 obtain⟨p,nwf,S,o,f,r,rfl,⟨dx,ch,wl,ul,ct,ws,us,b⟩,ewt,hf,q⟩:=h
 have nd:=Sc0.nd
 refine⟨_,(aG (aM (aP Zcx.1 (hr.mono (by decide)) rfl Zcx.2.2.2 Zcx.2.2.1 Zcx.2.1 .nil dF (aA (bG dG (bG bW (aO Za Zj (dv 0)) aJ (fun _ _=>rfl)) aJ (fun _ _=>rfl)) (aA (bG dG (bG bW (aO Za Zj (dv 0)) aJ (fun _ _=>rfl)) aJ (fun _ _=>rfl)) aD))))),?_⟩
 have fw:=b.fw
 rw[ewt]at fw
 generalize hws:ws=ws' at fw
 cases fw with
 | cons a rr=>
  rename_i t ts
  obtain⟨d,e1,e2,e3⟩:=a
  have ew:=b.ew
  rw[hws]at ew
  refine⟨dx,_,.ref wl,b.e,rfl,_,.ref t,SqL.of ew,at0,_,_,SqT.of e1,rfl,dx,_,.ref wl,b.e,rfl,_,.ref t,SqL.of ew,at0,_,_,SqT.of e1,rfl,?_⟩
  have h7:=hf.2.1
  refine⟨(f.1:Int),d,f.2,rfl,SqL.of e2,by omega,fun _ pw H' hpw g e=>q pw H' hpw g e,fun no=>absurd hf.ok no⟩
variable (Zav:MB P w K mg base (CX0) 1 ZbJ Zeb ["self"] (spDrop CA))
include Za Zj in
theorem ZgQ (F0:Fun K "drop_foremost" "Post.drop_foremost" Zel ZbJ Zeb):type_of% Zav:=by
 refine mbM ["self"] F0 fun Sc0=>F0.ok Sc0 (fun vs H Q E h=>?_) fun cdv A outer s H vs Q E hr h=>?_
 ·obtain⟨p,nwf,S,o,rfl,_⟩:=h
  rfl
 obtain⟨p,nwf,S,o,rfl,⟨dx,ch,wl,ul,ct,ws,us,b⟩,hn,q⟩:=h
 have nd:=Sc0.nd
 refine⟨_,(aG (aZ (yI (aO Za Zj (dv 0)) (aA aJ aD)))),?_⟩
 have fw:=b.fw
 generalize hws:ws=ws' at fw
 generalize hwt:S.wt=wt at fw
 cases fw with
 |nil=>exact absurd hwt hn
 | cons a rr=>
  rename_i t f ts fs
  have ew:=b.ew
  rw[hws]at ew
  refine⟨dx,_,.ref wl,b.e,rfl,⟨_,ew⟩,_,0,.ref t,ew,⟨by decide,by decide⟩,sq0,rfl,?_⟩
  have kk:Keep o H (upd H wl (.lst ts)):=fun x v e z=>by
   rw[aL]
   ·exact e
   ·rintro rfl
    rcases z with z | ⟨vs,rfl⟩
    ·exact z b.ow
    ·rw[ew]at e;cases e
  have nl:∀{x:Addr}{v:HO},H x=some v->(∀l,v≠ .lst l)->upd H wl (.lst ts) x=some v:=fun {x v} e h=>by
   rw[aL]
   ·exact e
   ·rintro rfl
    rw[ew]at e
    exact h _ (Yt e).symm
  have fk:∀{ts':List V}{fs':List Fr},FrsAt H (Dl o wl ul) ts' fs'->FrsAt (upd H wl (.lst ts)) (Dl o wl ul) ts' fs':=fun {ts' fs'} h=>by
   induction h with
   |nil=>exact .nil
   | cons a _ ih=>
    obtain⟨d,e1,e2,e3⟩:=a
    exact .cons ⟨d,kk.tup e1,by rw[aL e3.2.1];exact e2,e3⟩ ih
  refine q _ ⟨dx,ch,wl,ul,ct,ts,us,nl b.e (fun l z=>nomatch z),kk.tup b.ec,aB,?_,by rw[aL (Ne.symm b.ne)];exact b.eu,fk b.fu,(let ⟨d,e⟩:=b.et;⟨d,nl e fun l z=>nomatch z⟩),b.op,b.ow,b.ou,b.ot,b.ne,fun x hx=>?_⟩ kk
  ·show FrsAt _ _ ts S.wt.tail
   rw[hwt]
   exact fk rr
  ·by_cases h:x=wl
   ·rw[h,aB];simp
   ·rw[aL h];exact b.al x hx
variable (ZbS:FB P w K mg base (CX0) 1 "is_wanted" ZgC Zi3 ["choice","name"] (spWanted K))
theorem Zlg (F0:GFm K mg "is_wanted" Zjo ZgC Zi3):type_of% ZbS:=by
 refine fbM ["choice","name"] F0 fun Sc0=>F0.F.ok Sc0 (fun vs H Q E h=>?_) fun cdv A outer s H vs Q E hr h=>?_
 ·obtain⟨c,m,t,n,rfl,_⟩:=h
  rfl
 obtain⟨c,m,t,n,rfl,e,q⟩:=h
 have nd:=Sc0.nd
 refine⟨_,(aG (aM (cD cV (aU oA (dv 1) (bG dG (dv 0) aJ (fun _ _=>rfl))) (bG dG (dv 0) aJ (fun _ _=>rfl)) (aR _)))),?_⟩
 exact⟨_,_,SqT.of e,rfl,_,_,SqT.of e,rfl,q⟩
variable (ZbU:MB P w K mg base (CX0) 2 Zdf ZgH ["self","frame"] (spHandUp CA))
include Za Zal ZH ZbS in
theorem ZjK (F0:Fun K "hand_up" "Post.hand_up" ZgV Zdf ZgH):type_of% ZbU:=by
 refine mbM ["self","frame"] F0 fun Sc0=>F0.ok Sc0 (fun vs H Q E h=>?_) fun cdv A outer s H vs Q E hr h=>?_
 ·obtain⟨p,nwf,S,o,t,d,n,ds,rfl,_⟩:=h
  rfl
 obtain⟨p,nwf,S,o,t,d,n,ds,rfl,⟨dx,ch,wl,ul,ct,ws,us,b⟩,et,ed,nd_,hl,q⟩:=h
 have nd:=Sc0.nd
 refine⟨_,(aG (bF (bY (aP ZbS.1 (hr.mono (by decide)) rfl ZbS.2.2.2 ZbS.2.2.1 ZbS.2.1 .nil aN (aA (aO Za Zal (dv 0)) (aA (bG dG (dv 1) aJ (fun _ _=>rfl)) aD)))) (aG (aZ (bO (aO Za ZH (dv 0)) (aA (dv 1) aD)))) aV)),?_⟩
 refine⟨dx,_,.ref ch,b.e,rfl,_,_,SqT.of et,rfl,ch,_,_,_,rfl,b.ec,?_⟩
 conv=>whnf
 refine bK (fun c=>?_) (fun c=>?_)
 ·have c1:wantP S n=true:=c
  have hul:=b.fu.len
  refine⟨dx,_,.ref ul,b.e,rfl,⟨_,SqL.of b.eu⟩,_,b.eu,bI (by omega),?_⟩
  obtain⟨k1,k2,k3,k4,k5,k6⟩:=pJ (ys:=us++[.ref t]) b (.inr rfl)
  refine q _ ⟨dx,ch,wl,ul,ct,ws,us++[.ref t],k2.trans b.e,k3.trans b.ec,by rw[aL b.ne];exact b.ew,(k5 b.fw).imp (fun x v e _=>e) (fun x z=>⟨.inl z.1,z.2⟩),aB,?_,(let ⟨d,e⟩:=b.et;⟨d,k4.trans e⟩),.inl b.op,.inl b.ow,.inl b.ou,.inl b.ot,b.ne,fun x hx=>?_⟩ k1
  ·show FrsAt _ _ _ (if wantP S n=true then S.up++[(n,ds)] else S.up)
   rw[if_pos c1]
   have nwl:d≠wl:=fun z=>nd_ (z▸b.ow)
   have nul:d≠ul:=fun z=>nd_ (z▸b.ou)
   exact((k5 b.fu).imp (fun x v e _=>e) (fun x z=>⟨.inl z.1,z.2⟩)).snoc ⟨d,k1.tup et,by rw[aL nul];exact ed,.inr rfl,nwl,nul⟩
  ·rcases hx with hx | hx
   ·exact k6 x hx
   ·have hx':x=d:=hx
    have nul:d≠ul:=fun z=>nd_ (z▸b.ou)
    rw[hx',aL nul,ed];simp
 ·have c1:¬ wantP S n=true:=c
  refine q _ ?_ Keep.refl
  rw[if_neg c1]
  exact Bd.grow ⟨dx,ch,wl,ul,ct,ws,us,b⟩ ed
variable (ZcO:MB P w K mg base (CXR P w) 3 ZeE ZiO ["self","name","data"] (spHand K CA Zcy))
include Zn ZaD Za Zj Zv in
theorem Zk1 (F0:Fun K "hand" "Post.hand" Zi9 ZeE ZiO):type_of% ZcO:=by
 refine mbM ["self","name","data"] F0 fun Sc0=>F0.okR Sc0 (fun vs H Q E h=>?_) fun cdv A outer s H vs Q E hr h=>?_
 ·obtain⟨p,nwf,S,o,n,a,ds,rfl,_⟩:=h
  rfl
 obtain⟨p,nwf,S,o,n,a,ds,rfl,bd,hS,hl,hw,q1,q2⟩:=h
 have nd:=Sc0.nd
 refine⟨_,(aF (aZ (aP Zv.1 (hr.mono (by decide)) rfl Zv.2.2.2 Zv.2.2.1 Zv.2.1 .nil (dO fun _ _ _ z=>z) (aA (dv 1) (aA (dv 2) aD)))) (aG (aZ (bO (aO Za Zj (dv 0)) (aA (bQ (aA (dv 1) (aA (cR dM rfl ZaD fC (aA (dv 2) aD)) aD))) aD))))),?_⟩
 refine⟨n,a,ds,rfl,hS,hl,fun ok H1 g1=>?_,fun no H1 g1=>q2 no H1 g1⟩
 obtain⟨dx,ch,wl,ul,ct,ws,us,b⟩:=bd.move (H':=H1) fun x v e _=>g1 x v e
 refine⟨dx,_,.ref wl,b.e,rfl,⟨_,SqL.of b.ew⟩,_,.inl (g1.seq hS),fun d hd=>?_⟩
 have g2:=aH hd (.lst (ds.map V.int))
 have e2:=aB (H:=H1) (a:=d) (o:= .lst (ds.map V.int))
 generalize upd H1 d (.lst (ds.map V.int))=H2 at g2 e2
 refine⟨aK rfl,fun t ht=>?_⟩
 have g3:=aH ht (.tup [.int n,.ref d])
 have e3:=aB (H:=H2) (a:=t) (o:= .tup [.int n,.ref d])
 generalize upd H2 t (.tup [.int n,.ref d])=H3 at g3 e3
 have g13:=g2.trans g3
 have nd_:¬ o d:=fun z=>b.al d z hd
 have b3:=b.move (H':=H3) fun x v e _=>g13 x v e
 have hwl:=b.fw.len
 refine⟨_,b3.ew,bI (by omega),?_⟩
 obtain⟨k1,k2,k3,k4,k5,k6⟩:=pJ (ys:=ws++[.ref t]) b3 (.inl rfl)
 have nwl:d≠wl:=fun z=>nd_ (z▸b.ow)
 have nul:d≠ul:=fun z=>nd_ (z▸b.ou)
 have en:((n.toNat:Nat):Int)=n:=by
  have:=dJ.mp ok.1
  omega
 refine q1 ok _ d (g1.none hd) ⟨dx,ch,wl,ul,ct,ws++[.ref t],us,k2.trans b3.e,k3.trans b3.ec,aB,?_,by rw[aL (Ne.symm b.ne)];exact b3.eu,(k5 b3.fu).imp (fun x v e _=>e) (fun x z=>⟨.inl z.1,z.2⟩),(let ⟨d,e⟩:=b3.et;⟨d,k4.trans e⟩),.inl b.op,.inl b.ow,.inl b.ou,.inl b.ot,b.ne,fun x hx=>?_⟩ (fun x v e z=>k1 x v (g13 x v (g1 x v e)) z)
 ·refine((k5 b3.fw).imp (fun x v e _=>e) (fun x z=>⟨.inl z.1,z.2⟩)).snoc ⟨d,?_,by rw[aL nwl];exact g3 _ _ e2,.inr rfl,nwl,nul⟩
  show _=some (HO.tup [.int ((n.toNat:Nat):Int),.ref d])
  rw[en]
  exact k1.tup e3
 ·rcases hx with hx | hx
  ·exact k6 x hx
  ·have hx':x=d:=hx
   rw[hx',aL nwl,g3 _ _ e2];simp
variable (ZaW:FB P w K mg base (CX0) 1 "copies" Zjt ZkW ["frames"] (spCopies K))
include ZaD in
theorem ZlM (F0:GFm K mg "copies" Zlj Zjt ZkW):type_of% ZaW:=by
 refine fbM ["frames"] F0 fun Sc0=>F0.F.ok Sc0 (fun vs H Q E h=>?_) fun cdv A outer s H vs Q E hr h=>?_
 ·obtain⟨a,ts,fs,o,rfl,_⟩:=h
  rfl
 obtain⟨a,ts,fs,o,rfl,e,hF,hl,q⟩:=h
 have nd:=Sc0.nd
 refine⟨_,(aG (aM (dH rfl (ix:=[]) (cM (dv 0)) (fun C fp s0 H0 at0=>cG) (fun C fp s0 H0 at0=>(bQ (aA (bG (wD (K:=K)) (dv 0) aJ (fun _ _=>rfl)) (aA (cR (tX (K:=K)) rfl ZaD fC (aA (bG (wD (K:=K)) (dv 0) aJ (fun _ _=>rfl)) aD)) aD)))) rfl rfl (by rfl) (show ([".0","frame"]:List Str).Nodup by decide +kernel)))),?_⟩
 have tl:=hF.len
 refine⟨⟨_,SqL.of e⟩,cU (xs:=ts) (fun i ys H'=>Same H H'/\FrsNew H H' ys (fs.take i)) ?_ ⟨Same.refl _,.nil⟩ (fun i ys H' _ z=>SqL.of (z.1 _ _ e)) ?_ ?_⟩
 ·rintro i ys H' hi ⟨_,n⟩
  refine bI ?_
  rw[n.len,Yo]
  omega
 ·rintro i x ys H' hx ⟨g,n⟩
  obtain⟨t,f,rfl,hf,d,e1,e2,e3⟩:=hF.get hx
  refine⟨_,_,SqT.of (g _ _ e1),rfl,_,_,SqT.of (g _ _ e1),rfl,_,.inl (SqL.of (g _ _ e2)),fun d' hd'=>?_⟩
  have g2:=aH hd' (.lst (f.2.map V.int))
  have e5:=aB (H:=H') (a:=d') (o:= .lst (f.2.map V.int))
  generalize upd H' d' (.lst (f.2.map V.int))=H2 at g2 e5
  refine⟨aK rfl,fun t' ht'=>?_⟩
  have g3:=aH ht' (.tup [.int ((f.1:Nat):Int),.ref d'])
  refine⟨g.trans (g2.trans g3),?_⟩
  have hi:i<fs.length:=(Yg.mp hf).1
  have ef:fs[i]=f:=(Yg.mp hf).2
  rw[Yf hi,ef]
  exact FrsNew.snoc ((g.trans g2).none ht') (g.none hd') aB (g3 _ _ e5) (n.same (g2.trans g3))
 rintro ys H' ⟨g,n⟩ l hl'
 have g2:=aH hl' (.lst ys)
 rw[tl,Yi (Yd _)]at n
 exact q l ys _ (g.none hl') (g.trans g2) aB (n.same g2)
variable (Zcs:MB P w K mg base (CX0) 2 Zd5 Zh9 ["self"] (spWaits CA))
include Za Zj ZaW in
theorem Zkz (F0:Fun K "waits" "Post.waits" Zir Zd5 Zh9):type_of% Zcs:=by
 refine mbM ["self"] F0 fun Sc0=>F0.ok Sc0 (fun vs H Q E h=>?_) fun cdv A outer s H vs Q E hr h=>?_
 ·obtain⟨p,nwf,S,o,rfl,_⟩:=h
  rfl
 obtain⟨p,nwf,S,o,rfl,⟨dx,ch,wl,ul,ct,ws,us,b⟩,hl,q⟩:=h
 have nd:=Sc0.nd
 refine⟨_,(aG (aM (aP ZaW.1 (hr.mono (by decide)) rfl ZaW.2.2.2 ZaW.2.2.1 ZaW.2.1 .nil aN (aA (aO Za Zj (dv 0)) aD)))),?_⟩
 exact⟨dx,_,.ref wl,b.e,rfl,wl,ws,S.wt,_,rfl,b.ew,b.fw,hl,q⟩
variable (Zda:MB P w K mg base (CX0) 2 Zfl ZjB ["self"] (spGot CA))
include Za ZH ZaW in
theorem Zlr (F0:Fun K "got" "Post.got" ZjS Zfl ZjB):type_of% Zda:=by
 refine mbM ["self"] F0 fun Sc0=>F0.ok Sc0 (fun vs H Q E h=>?_) fun cdv A outer s H vs Q E hr h=>?_
 ·obtain⟨p,nwf,S,o,rfl,_⟩:=h
  rfl
 obtain⟨p,nwf,S,o,rfl,⟨dx,ch,wl,ul,ct,ws,us,b⟩,hl,q⟩:=h
 have nd:=Sc0.nd
 refine⟨_,(aG (aM (aP ZaW.1 (hr.mono (by decide)) rfl ZaW.2.2.2 ZaW.2.2.1 ZaW.2.1 .nil aN (aA (aO Za ZH (dv 0)) aD)))),?_⟩
 exact⟨dx,_,.ref ul,b.e,rfl,ul,us,S.up,_,rfl,b.eu,b.fu,hl,q⟩
variable (Z4:FB P w K mg base (CX0) 3 "unless_off" ZfP Zim ["post","word","stance"] (spUnless CA))
include ZkR Za Zby Zeh Zb8 in
theorem ZkM (F0:GFm K mg "unless_off" ZiE ZfP Zim):type_of% Z4:=by
 refine fbM ["post","word","stance"] F0 fun Sc0=>F0.F.ok Sc0 (fun vs H Q E h=>?_) fun cdv A outer s H vs Q E hr h=>?_
 ·obtain⟨p,nwf,S,o,w,nx,rfl,_⟩:=h
  rfl
 obtain⟨p,nwf,S,o,w,nx,rfl,bd,q1,q2⟩:=h
 have nd:=Sc0.nd
 refine⟨_,(aG (aM (bR (cL (bY (bD Za Zby Zb8.1 (hr.mono (by decide)) Zb8.2 .nil aN (dv 0))) (bQ (aA aY (aA (xN Zeh rfl ZkR) aD))) (bQ (aA (dv 1) (aA (dv 2) aD))))))),?_⟩
 refine⟨fun x H'=>Q x H',?_,fun x H' z=>z⟩
 obtain⟨dx,ch,wl,ul,ct,ws,us,b⟩:=id bd
 refine⟨⟨dx,_,b.e,rfl⟩,p,nwf,S,o,rfl,bd,?_⟩
 conv=>whnf
 refine bK (fun c=>?_) (fun c=>?_)
 ·have c1:18<=S.tot:=dec_true c
  refine fun x dx' hx hdx hne=>⟨aK rfl,fun t ht=>?_⟩
  have g1:Same H (upd (upd H dx' (.own x)) x (.ins CA.off dx' [])):=fun b u q=>by rw[aL (aQ q hx),aL (aQ q hdx)];exact q
  have g2:=aH ht (.tup [.str "off",.ref x])
  exact q2 c1 t x dx' _ (g1.trans g2) hx (g2 _ _ aB) aB
 ·have c1:¬ 18<=S.tot:=dec_false c
  refine⟨aK rfl,fun t ht=>?_⟩
  exact q1 c1 t _ (aH ht _) aB
variable (Zs:FB P w K mg base (CX0) 4 "fault_of" Zhb ZjG ["post","spoke"] (spFault CA))
include Zfo ZeN Zd Za ZcI Zaa Zk Zaq Zbq Z4 in
theorem Zlw (F0:GFm K mg "fault_of" ZjX Zhb ZjG):type_of% Zs:=by
 refine fbM ["post","spoke"] F0 fun Sc0=>F0.F.ok Sc0 (fun vs H Q E h=>?_) fun cdv A outer s H vs Q E hr h=>?_
 ·obtain⟨p,nwf,S,o,sp,rfl,_⟩:=h
  rfl
 obtain⟨p,nwf,S,o,sp,rfl,bd,q⟩:=h
 have nd:=Sc0.nd
 refine⟨_,(aF (aZ (bH Zd Zaa Zaq.1 (hr.mono (by decide)) Zaq.2 .nil aN (aO Za Zk (dv 0)) (aA (dv 1) aD))) (aG (aM (aP Z4.1 (hr.mono (by decide)) rfl Z4.2.2.2 Z4.2.2.1 Z4.2.1 .nil aN (aA (dv 0) (aA aY (aA (cA ZcI Zbq.1 (hr.mono (by decide)) rfl Zfo Zbq.2 .nil aN (aA (bA (v:= .int 6) rfl ZeN ⟨_,rfl⟩) (aA (a4T (dv 1)) aD))) aD))))))),?_⟩
 obtain⟨dx,ch,wl,ul,ct,ws,us,b⟩:=id bd
 obtain⟨dc,ec⟩:=id b.et
 refine⟨dx,_,.ref ct,b.e,rfl,⟨dc,_,ec,rfl⟩,ct,S.tot,sp,rfl,b.et,fun H1 c1 k1=>?_⟩
 obtain⟨b1,kk1⟩:=Bd.count b c1 k1
 generalize ht:mvd S.tot (if sp=true then 8 else 1)=n at b1 c1
 refine fun x dx' hx hdx hne=>⟨x,dx',_,_,rfl,aB,fun H2 eH=>⟨rfl,?_⟩⟩
 have g12:Same H1 H2:=by rw[eH];exact bL hx hdx
 have e2:H2 x=some (.ins CA.flag dx' [("left",.int ((6:Nat):Int)),("may_blame",.bl (!sp))]):=by rw[eH];exact aB
 clear eH
 refine⟨p,nwf,{ S with tot:=n },o,"fault",x,rfl,b1.move fun y v e _=>g12 y v e,fun c t H3 g3 e3=>?_,fun c t nw dy H3 g3 hn e4 e3=>?_⟩
 ·have c1:¬ 18<=n:=c
  refine q t H3 ⟨x,fun y=>y=x,?_,?_,?_,?_,?_⟩
  ·unfold faultP goneP;rw[ht,if_neg c1];exact e3
  ·unfold faultP goneP;rw[ht,if_neg c1];exact(b1.move fun y v e _=>g3 y v (g12 y v e)).now rfl rfl rfl rfl rfl rfl
  ·unfold faultP goneP;rw[ht,if_neg c1];exact dW (g3 _ _ e2) ⟨dx',g3 _ _ e2⟩
  ·intro y hy
   have hy':y=x:=hy
   rw[hy']
   exact mY b1 kk1 hx
  ·exact fun y v e z=>g3 y v (g12 y v (kk1 y v e z))
 ·have c1:18<=n:=c
  refine q t H3 ⟨nw,fun y=>y=nw,?_,?_,?_,?_,?_⟩
  ·unfold faultP goneP;rw[ht,if_pos c1];exact e3
  ·unfold faultP goneP;rw[ht,if_pos c1];exact(b1.move fun y v e _=>g3 y v (g12 y v e)).now rfl rfl rfl rfl rfl rfl
  ·unfold faultP goneP;rw[ht,if_pos c1];exact dW e4 ⟨dy,e4⟩
  ·intro y hy
   have hy':y=nw:=hy
   rw[hy']
   exact mY b1 kk1 (g12.none hn)
  ·exact fun y v e z=>g3 y v (g12 y v (kk1 y v e z))
variable (Zbl:FB P w K mg base (CX0) 4 "refusal_of" ZfO Zil ["post","spoke"] (spRefusal CA))
include Zf6 Zd Za Zc4 Zaa Zk Zaq ZbX Z4 in
theorem ZkL (F0:GFm K mg "refusal_of" ZiD ZfO Zil):type_of% Zbl:=by
 refine fbM ["post","spoke"] F0 fun Sc0=>F0.F.ok Sc0 (fun vs H Q E h=>?_) fun cdv A outer s H vs Q E hr h=>?_
 ·obtain⟨p,nwf,S,o,sp,rfl,_⟩:=h
  rfl
 obtain⟨p,nwf,S,o,sp,rfl,bd,q⟩:=h
 have nd:=Sc0.nd
 refine⟨_,(aF (aZ (bH Zd Zaa Zaq.1 (hr.mono (by decide)) Zaq.2 .nil aN (aO Za Zk (dv 0)) (aA (dv 1) aD))) (aG (aM (aP Z4.1 (hr.mono (by decide)) rfl Z4.2.2.2 Z4.2.2.1 Z4.2.1 .nil aN (aA (dv 0) (aA aY (aA (cA Zc4 ZbX.1 (hr.mono (by decide)) rfl Zf6 ZbX.2 .nil aN (aA dX aD)) aD))))))),?_⟩
 obtain⟨dx,ch,wl,ul,ct,ws,us,b⟩:=id bd
 obtain⟨dc,ec⟩:=id b.et
 refine⟨dx,_,.ref ct,b.e,rfl,⟨dc,_,ec,rfl⟩,ct,S.tot,sp,rfl,b.et,fun H1 c1 k1=>?_⟩
 obtain⟨b1,kk1⟩:=Bd.count b c1 k1
 generalize ht:mvd S.tot (if sp=true then 8 else 1)=n at b1 c1
 refine fun x dx' hx hdx hne=>⟨x,dx',_,rfl,aB,fun H2 eH=>⟨rfl,?_⟩⟩
 have g12:Same H1 H2:=by rw[eH];exact bL hx hdx
 have e2:H2 x=some (.ins CA.settles dx' [("may_blame",.bl false)]):=by rw[eH];exact aB
 clear eH
 refine⟨p,nwf,{ S with tot:=n },o,"refuses",x,rfl,b1.move fun y v e _=>g12 y v e,fun c t H3 g3 e3=>?_,fun c t nw dy H3 g3 hn e4 e3=>?_⟩
 ·have c1:¬ 18<=n:=c
  refine q t H3 ⟨x,fun y=>y=x,?_,?_,?_,?_,?_⟩
  ·unfold refuseP goneP;rw[ht,if_neg c1];exact e3
  ·unfold refuseP goneP;rw[ht,if_neg c1];exact(b1.move fun y v e _=>g3 y v (g12 y v e)).now rfl rfl rfl rfl rfl rfl
  ·unfold refuseP goneP;rw[ht,if_neg c1];exact dW (g3 _ _ e2) ⟨dx',g3 _ _ e2⟩
  ·intro y hy
   have hy':y=x:=hy
   rw[hy']
   exact mY b1 kk1 hx
  ·exact fun y v e z=>g3 y v (g12 y v (kk1 y v e z))
 ·have c1:18<=n:=c
  refine q t H3 ⟨nw,fun y=>y=nw,?_,?_,?_,?_,?_⟩
  ·unfold refuseP goneP;rw[ht,if_pos c1];exact e3
  ·unfold refuseP goneP;rw[ht,if_pos c1];exact(b1.move fun y v e _=>g3 y v (g12 y v e)).now rfl rfl rfl rfl rfl rfl
  ·unfold refuseP goneP;rw[ht,if_pos c1];exact dW e4 ⟨dy,e4⟩
  ·intro y hy
   have hy':y=nw:=hy
   rw[hy']
   exact mY b1 kk1 (g12.none hn)
  ·exact fun y v e z=>g3 y v (g12 y v (kk1 y v e z))
variable (Za2:FB P w K mg base (CXR P w) 1 "check_votes" Zfh Zhx ["votes"] (spVotes ZbH))
include ZcX ZK Zdm ZT in
theorem Zki (F0:GFm K mg "check_votes" ZhS Zfh Zhx):type_of% Za2:=by
 refine fbM ["votes"] F0 fun Sc0=>F0.F.okR Sc0 (fun vs H Q E h=>?_) fun cdv A outer s H vs Q E hr h=>?_
 ·obtain⟨v,rfl,_⟩:=h
  rfl
 obtain⟨v,rfl,q1,q2⟩:=h
 have nd:=Sc0.nd
 refine⟨_,(aG (bF (aX wA (dv 0) (bA (v:= .ref ZjY) rfl ZcX rfl) rfl) (aG (cF YM ZK ZT (aA aY aD))) aV)),?_⟩
 refine⟨[1,3,5],.inr (Zdm.sq H),?_⟩
 conv=>whnf
 refine bK (fun c=>?_) (fun c=>?_)
 ·refine⟨aK rfl,q2 fun z=>?_⟩
  have c1:(!decide (v∈ [(1:Int),3,5]))=true:=c
  rw[(lN v).mpr z]at c1
  cases c1
 ·refine q1 ((lN v).mp ?_)
  cases e:decide (v∈ [(1:Int),3,5]) with
  |true=>rfl
  |false=>exact absurd (show (!decide (v∈ [(1:Int),3,5]))=true by rw[e];rfl) c
variable (ZaN:FB P w K mg base (CXR P w) 2 "check_choice" ZeA ZgO ["choice"] (spChoice K ZbH))
include ZK ZT Zac in
theorem ZjR (F0:GFm K mg "check_choice" Zg2 ZeA ZgO):type_of% ZaN:=by
 refine fbM ["choice"] F0 fun Sc0=>F0.F.okR Sc0 (fun vs H Q E h=>?_) fun cdv A outer s H vs Q E hr h=>?_
 ·obtain⟨a,ns,rfl,_⟩:=h
  rfl
 obtain⟨a,ns,rfl,hS,hl,q1,q2⟩:=h
 have nd:=Sc0.nd
 refine⟨_,(aG (bF (dN (bY (aP Zac.1 (hr.mono (by decide)) rfl Zac.2.2.2 Zac.2.2.1 Zac.2.1 .nil aN (aA (dv 0) aD)))) (aG (cF YM ZK ZT (aA aY aD))) aV)),?_⟩
 refine⟨a,ns,rfl,.inr hS,hl,fun H1 g1=>?_⟩
 conv=>whnf
 refine bK (fun c=>?_) (fun c=>?_)
 ·have c1:¬ ns.all byt=true:=fun z=>by
   have:(!ns.all byt)=true:=c
   rw[z]at this;cases this
  exact⟨aK rfl,q2 c1 _ g1⟩
 ·have c1:ns.all byt=true:=by
   cases e:ns.all byt with
   |true=>rfl
   |false=>exact absurd (show (!ns.all byt)=true by rw[e];rfl) c
  exact q1 c1 _ g1
variable (ZcQ:MB P w K mg base (CXR P w) 4 ZeG ZiQ ["self","choice","votes"] (spPostInit K CA ZbH))
include ZcX ZK ZiF ZfV Za ZdL ZbY Zk Zj Zal ZH ZX ZJ Zcr ZaS Za2 ZaN in
theorem Zk3 (F0:Fun K "__init__" "Post.__init__" Zjb ZeG ZiQ):type_of% ZcQ:=by
 refine mbM ["self","choice","votes"] F0 fun Sc0=>F0.okR Sc0 (fun vs H Q E h=>?_) fun cdv A outer s H vs Q E hr h=>?_
 ·obtain⟨a,dx,ch,m1,m2,v,rfl,_⟩:=h
  rfl
 obtain⟨a,dx,ch,m1,m2,v,rfl,e,ec,q1,q2⟩:=h
 have nd:=Sc0.nd
 refine⟨_,(aF (aZ (aP ZaN.1 (hr.mono (by decide)) rfl ZaN.2.2.2 ZaN.2.2.1 ZaN.2.1 .nil (dO fun _ _ _ z=>z) (aA (dv 1) aD))) (aF (aZ (aP Za2.1 (hr.mono (by decide)) rfl Za2.2.2.2 Za2.2.2.1 Za2.2.1 .nil (dO fun _ _ _ z=>z) (aA (dv 2) aD))) (aF (bJ Za Zal (dv 0) (dv 1)) (aF (bJ Za ZX (dv 0) (dv 2)) (aF (bJ Za Zj (dv 0) (bN aD)) (aF (bJ Za ZH (dv 0) (bN aD)) (aF (bJ Za Zk (dv 0) (gO ZdL Zcr.1 (hr.mono (by decide)) rfl ZiF Zcr.2 .nil aN)) (aG (bJ Za ZJ (dv 0) (cA ZbY ZaS.1 (hr.mono (by decide)) rfl ZfV ZaS.2 .nil aN (aA aJ aD))))))))))),?_⟩
 refine⟨ch, [m1,m2],rfl,SqT.of ec,(show 2<=500 by decide),fun hm H1 g1=>?_,fun no H1 g1=>?_⟩
 rotate_left
 ·refine q2 (fun ok=>no ?_) H1 fun x u _ h=>g1 x u h
  rw[XR,XR,List.all_nil,ok.1,ok.2.1];rfl
 rw[XR,XR,List.all_nil,Bool.and_true,Xv]at hm
 refine⟨v,rfl,fun hv=>?_,fun no=>q2 (fun ok=>no ok.2.2) H1 fun x u _ h=>g1 x u h⟩
 have ea:=g1 _ _ e
 refine⟨dx, [],ea,by decide,?_⟩
 refine⟨dx,_,aB,(show 1<1000 by decide),?_⟩
 rw[eO]
 have m1_:Mid H a (.ins CA.post dx [("choice",.ref ch),("votes",.int v)]) [] (upd H1 a (.ins CA.post dx (putF "votes" (.int v) (putF "choice" (.ref ch) [])))):=⟨aB,fun x u hx h=>by rw[aL hx];exact g1 x u h,(fun _ z=>nomatch z),XX⟩
 generalize upd H1 a _=Ha at m1_
 refine⟨aK rfl,fun wl hwl=>?_⟩
 have m2_:=m1_.add hwl (aH hwl (.lst [])) aB
 generalize upd Ha wl (.lst [])=Hb at m2_
 refine⟨dx,_,m2_.ea,(show 2<1000 by decide),?_⟩
 have m3_:Mid H a (.ins CA.post dx [("choice",.ref ch),("votes",.int v),("waiting",.ref wl)]) _ (upd Hb a (.ins CA.post dx (putF "waiting" (.ref wl) [("choice",.ref ch),("votes",.int v)]))):=m2_.set _
 generalize upd Hb a _=Hb2 at m3_
 refine⟨aK rfl,fun ul hul=>?_⟩
 have m4_:=m3_.add hul (aH hul (.lst [])) aB
 generalize upd Hb2 ul (.lst [])=Hc at m4_
 refine⟨dx,_,m4_.ea,(show 3<1000 by decide),?_⟩
 have m5_:Mid H a (.ins CA.post dx [("choice",.ref ch),("votes",.int v),("waiting",.ref wl),("handed_up",.ref ul)]) _ (upd Hc a (.ins CA.post dx (putF "handed_up" (.ref ul) [("choice",.ref ch),("votes",.int v),("waiting",.ref wl)]))):=m4_.set _
 generalize upd Hc a _=Hc2 at m5_
 refine fun ct dc hct hdc hne=>⟨ct,dc,rfl,aB,rfl,?_⟩
 have m6_:=m5_.add hct (bL (C:=CA.count) (fs:=ctF 0) hct hdc) aB
 generalize upd (upd (upd Hc2 dc (.own ct)) ct (.ins CA.count dc [])) ct (.ins CA.count dc (ctF 0))=Hd at m6_
 refine⟨dx,_,m6_.ea,(show 4<1000 by decide),?_⟩
 have m7_:Mid H a (.ins CA.post dx [("choice",.ref ch),("votes",.int v),("waiting",.ref wl),("handed_up",.ref ul),("tally",.ref ct)]) _ (upd Hd a (.ins CA.post dx (putF "tally" (.ref ct) [("choice",.ref ch),("votes",.int v),("waiting",.ref wl),("handed_up",.ref ul)]))):=m6_.set _
 generalize upd Hd a _=Hd2 at m7_
 refine fun nw dn hnw hdn hne2=>⟨nw,dn,_,rfl,aB,fun H2 eH=>⟨rfl,?_⟩⟩
 have m8_:=m7_.add (Hy:=H2) hnw (by rw[eH];exact bL hnw hdn) (by rw[eH];exact aB)
 clear eH
 refine⟨dx,_,m8_.ea,(show 5<1000 by decide),?_⟩
 have m9_:=m8_.set (.ins CA.post dx (pF ch v.toNat wl ul ct nw))
 have ev:v=((v.toNat:Nat):Int):=by omega
 have eF:(HO.ins CA.post dx (putF "now" (.ref nw) [("choice",.ref ch),("votes",.int v),("waiting",.ref wl),("handed_up",.ref ul),("tally",.ref ct)]))= .ins CA.post dx (pF ch v.toNat wl ul ct nw):=by
  show HO.ins CA.post dx [("choice",.ref ch),("votes",.int v),("waiting",.ref wl),("handed_up",.ref ul),("tally",.ref ct),("now",.ref nw)]=_
  rw[ev,YD]
 rw[eF]
 generalize upd H2 a _=Hz at m9_
 have hnw':=m9_.nw (nw,_) (.head _)
 have hct':=m9_.nw (ct,_) (.tail _ (.head _))
 have hul':=m9_.nw (ul,_) (.tail _ (.tail _ (.head _)))
 have hwl':=m9_.nw (wl,_) (.tail _ (.tail _ (.tail _ (.head _))))
 have nd9:=m9_.nd
 have nwu:wl≠ul:=fun z=>by
  rw[z]at nd9
  exact absurd nd9 (by simp)
 have nch:ch≠a:=fun z=>by rw[z,e]at ec;cases ec
 have hb1:=dJ.mp hm.1
 have hb2:=dJ.mp hm.2
 have ec1:((m1.toNat:Nat):Int)=m1:=by omega
 have ec2:((m2.toNat:Nat):Int)=m2:=by omega
 refine q1 ⟨hm.1,hm.2,hv⟩ Hz (fun x=>(x=a\/x=wl\/x=ul\/x=ct)\/x=nw) ⟨nw,fun x=>x=a\/x=wl\/x=ul\/x=ct,fun x=>x=nw,⟨dx,ch,wl,ul,ct, [], [],m9_.ea,?_,hwl'.2.2,.nil,hul'.2.2,.nil,⟨dc,hct'.2.2⟩,.inl rfl,.inr (.inl rfl),.inr (.inr (.inl rfl)),.inr (.inr (.inr rfl)),nwu,?_⟩,dW hnw'.2.2 ⟨dn,hnw'.2.2⟩,?_,⟨?_,(fun _ z=>nomatch z),trivial⟩,fun x hx=>hx,?_⟩ ?_ ?_
 ·show Hz ch=some (.tup [.int ((m1.toNat:Nat):Int),.int ((m2.toNat:Nat):Int)])
  rw[ec1,ec2]
  exact m9_.kp ch _ nch ec
 ·rintro x (rfl | rfl | rfl | rfl)
  ·rw[m9_.ea];simp
  ·rw[hwl'.2.2];simp
  ·rw[hul'.2.2];simp
  ·rw[hct'.2.2];simp
 ·rintro x hx hy
  have hy':x=nw:=hy
  rcases hx with rfl | rfl | rfl | rfl
  ·exact hnw'.2.1 hy'.symm
  ·rw[hy']at nd9;exact absurd nd9 (by simp)
  ·rw[hy']at nd9;exact absurd nd9 (by simp)
  ·rw[hy']at nd9;exact absurd nd9 (by simp)
 ·show v.toNat<=5
  omega
 ·rintro x ((rfl | rfl | rfl | rfl) | rfl)
  ·rw[m9_.ea];simp
  ·rw[hwl'.2.2];simp
  ·rw[hul'.2.2];simp
  ·rw[hct'.2.2];simp
  ·rw[hnw'.2.2];simp
 ·rintro x ((rfl | rfl | rfl | rfl) | rfl)
  ·exact .inl rfl
  ·exact .inr hwl'.1
  ·exact .inr hul'.1
  ·exact .inr hct'.1
  ·exact .inr hnw'.1
 ·exact m9_.kp
variable (Zce:MB P w K mg base (CX0) 1 ZdF Zhq ["self"] (spShown CA 6))
include Zai Zap in
theorem Zkb (F0:Fun K "shown" "Rests.shown" ZhL ZdF Zhq):type_of% Zce:=by
 refine mbM ["self"] F0 fun Sc0=>F0.ok Sc0 (fun vs H Q E h=>?_) fun cdv A outer s H vs Q E hr h=>?_
 ·obtain⟨nw,S,o,rfl,_⟩:=h
  rfl
 obtain⟨nw,S,o,rfl,tg,st,q⟩:=h
 have nd:=Sc0.nd
 refine⟨_,(aG (aM (bQ (aA aY (aA (aO Zai Zap (dv 0)) aD))))),?_⟩
 obtain⟨sa,on,al⟩:=id st
 cases en:S.now with
 |free k=>rw[en]at tg;cases tg
 |speaks n ds k=>rw[en]at tg;cases tg
 |reads h=>rw[en]at tg;cases tg
 |tlS v c=>rw[en]at tg;cases tg
 |tlR n ds v c=>rw[en]at tg;cases tg
 |flag l m=>rw[en]at tg;cases tg
 |settles m=>rw[en]at tg;cases tg
 | rests l=>
  rw[en]at sa
  obtain⟨dx,e⟩:=sa
  refine⟨dx,_,_,e,rfl,aK rfl,fun t ht=>q t _ ht (aH ht _) ?_⟩
  rw[aB,en]
  rfl
 |off  =>rw[en]at tg;cases tg
variable (ZaT:MB P w K mg base (CX0) 3 ZeC ZiM ["self","post"] (spStSays CA 0))
include ZdN ZL Za ZaZ Za3 ZW Zbr Za6 in
theorem ZkZ (F0:Fun K "says" "Free.says" Zi7 ZeC ZiM):type_of% ZaT:=by
 refine mbM ["self","post"] F0 fun Sc0=>F0.ok Sc0 (fun vs H Q E h=>?_) fun cdv A outer s H vs Q E hr h=>?_
 ·obtain⟨nw,p,nwf,S,ob,os,rfl,_⟩:=h
  rfl
 obtain⟨nw,p,nwf,S,ob,os,rfl,tg,bd,st,wf,q⟩:=h
 have nd:=Sc0.nd
 refine⟨_,(aF (bF (dN (bY (bD Za ZaZ Za6.1 (hr.mono (by decide)) Za6.2 .nil aN (dv 1)))) (aG (aM aJ)) aV) (aG (aM (bR (cL (PW.pt (fO (bY (bD Za Za3 Zbr.1 (hr.mono (by decide)) Zbr.2 .nil aN (dv 1))) (eU (aX wC (aO ZL ZW (dv 0)) (bA (v:= .int 8) rfl ZdN ⟨_,rfl⟩) (aR _))))) aJ aJ))))),?_⟩
 obtain⟨sa,on,al⟩:=id st
 cases en:S.now with
 | free k =>
  rw[en]at sa
  obtain⟨dx,e⟩:=sa
  obtain⟨dp,ch,wl,ul,ct,ws,us,b⟩:=id bd
  have hs:=jN en
  refine⟨⟨dp,_,b.e,rfl⟩,p,nwf,S,ob,rfl,bd,?_⟩
  conv=>whnf
  refine bK (fun c=>?_) (fun c=>?_)
  ·have c1:S.wt= []:=by
    have:(!decide (0<(S.wt.length:Int)))=true:=c
    cases ew:S.wt with
    |nil=>rfl
    | cons f r=>
     rw[ew,Yl (by rw[YW];omega)]at this
     cases this
   rw[if_pos c1]at hs
   rw[hs]at q
   exact q
  have c1:¬ S.wt= []:=fun z=>c (by
   show (!decide (0<(S.wt.length:Int)))=true
   rw[z];rfl)
  rw[if_neg c1]at hs
  refine⟨fun x H'=>x= .int (saysP S)/\H'=H,?_,fun x H' z=>by rw[z.1,z.2];exact q⟩
  refine⟨⟨dp,_,b.e,rfl⟩,p,nwf,S,ob,rfl,bd,?_⟩
  conv=>whnf
  refine bK (fun y=>?_) (fun y=>?_)
  ·have y1:12<=S.tot:=dec_true y
   refine⟨dx,_,_,e,rfl,?_⟩
   conv=>whnf
   refine bK (fun z=>?_) (fun z=>?_)
   ·have z1:((k:Nat):Int)<8:=dec_true z
    rw[hs,if_pos ⟨y1,by omega⟩]
    exact⟨rfl,rfl⟩
   ·have z1:¬ ((k:Nat):Int)<8:=dec_false z
    rw[hs,if_neg fun w=>z1 (by omega)]
    exact⟨rfl,rfl⟩
  ·have y1:¬ 12<=S.tot:=dec_false y
   refine vD ⟨?_,rfl⟩
   rw[hs,if_neg fun w=>y1 w.1]
 |speaks n ds k=>rw[en]at tg;cases tg
 |reads h=>rw[en]at tg;cases tg
 |tlS v c=>rw[en]at tg;cases tg
 |tlR n ds v c=>rw[en]at tg;cases tg
 |flag l m=>rw[en]at tg;cases tg
 |settles m=>rw[en]at tg;cases tg
 |rests l=>rw[en]at tg;cases tg
 |off  =>rw[en]at tg;cases tg
variable (Zcf:MB P w K mg base (CX0) 1 ZdH Zhs ["self","post"] (spStSays CA 1))
include Zi ZF Zz in
theorem Zkd (F0:Fun K "says" "Speaks.says" ZhN ZdH Zhs):type_of% Zcf:=by
 refine mbM ["self","post"] F0 fun Sc0=>F0.ok Sc0 (fun vs H Q E h=>?_) fun cdv A outer s H vs Q E hr h=>?_
 ·obtain⟨nw,p,nwf,S,ob,os,rfl,_⟩:=h
  rfl
 obtain⟨nw,p,nwf,S,ob,os,rfl,tg,bd,st,wf,q⟩:=h
 have nd:=Sc0.nd
 refine⟨_,(aG (aM (bG bW (aO Zi ZF (dv 0)) (aO Zi Zz (dv 0)) (fun _ _=>rfl)))),?_⟩
 obtain⟨sa,on,al⟩:=id st
 cases en:S.now with
 |free k=>rw[en]at tg;cases tg
 | speaks n ds k=>
  rw[en]at sa
  obtain⟨dx,wa,r,st,ks,t0,e,ew,_⟩:=sa
  have hn:=wf.now
  rw[en]at hn
  obtain⟨_,_,hk,_⟩:=hn
  refine⟨dx,_,_,e,rfl,dx,_,_,e,rfl,_,_,SqL.of ew,nQ hk,?_⟩
  have:saysP S=(wr n ds)[k]:=by
   unfold saysP
   rw[en]
   show (wr n ds).getD k 0=_
   rw[Ye,Yb hk]
   rfl
  rw[this]at q
  exact q
 |reads h=>rw[en]at tg;cases tg
 |tlS v c=>rw[en]at tg;cases tg
 |tlR n ds v c=>rw[en]at tg;cases tg
 |flag l m=>rw[en]at tg;cases tg
 |settles m=>rw[en]at tg;cases tg
 |rests l=>rw[en]at tg;cases tg
 |off  =>rw[en]at tg;cases tg
variable (Zct:MB P w K mg base (CX0) 1 Zd8 Zic ["self","post"] (spStSays CA 2))
theorem ZkC (F0:Fun K "says" "Reads.says" Ziu Zd8 Zic):type_of% Zct:=by
 refine mbM ["self","post"] F0 fun Sc0=>F0.ok Sc0 (fun vs H Q E h=>?_) fun cdv A outer s H vs Q E hr h=>?_
 ·obtain⟨nw,p,nwf,S,ob,os,rfl,_⟩:=h
  rfl
 obtain⟨nw,p,nwf,S,ob,os,rfl,tg,bd,st,wf,q⟩:=h
 have nd:=Sc0.nd
 refine⟨_,(aG (aM aJ)),?_⟩
 obtain⟨sa,on,al⟩:=id st
 cases en:S.now with
 |free k=>rw[en]at tg;cases tg
 |speaks n ds k=>rw[en]at tg;cases tg
 | reads h=>
  rw[en]at sa
  have:saysP S=1:=by unfold saysP;rw[en]
  rw[this]at q
  exact q
 |tlS v c=>rw[en]at tg;cases tg
 |tlR n ds v c=>rw[en]at tg;cases tg
 |flag l m=>rw[en]at tg;cases tg
 |settles m=>rw[en]at tg;cases tg
 |rests l=>rw[en]at tg;cases tg
 |off  =>rw[en]at tg;cases tg
variable (Zb5:MB P w K mg base (CX0) 2 Zdv Zhg ["self","post"] (spStSays CA 3))
include Zg Zf Zq ZaP ZaH Zy ZcV in
theorem Zj1 (F0:Fun K "says" "InTail.says" ZhB Zdv Zhg):type_of% Zb5:=by
 refine mbM ["self","post"] F0 fun Sc0=>F0.ok Sc0 (fun vs H Q E h=>?_) fun cdv A outer s H vs Q E hr h=>?_
 ·obtain⟨nw,p,nwf,S,ob,os,rfl,_⟩:=h
  rfl
 obtain⟨nw,p,nwf,S,ob,os,rfl,tg,bd,st,wf,q⟩:=h
 have nd:=Sc0.nd
 refine⟨_,(aG (aM (uQ ZcV.1 (hr.mono (by decide)) ZcV.2 .nil aN (aO Zq Zy (dv 0))))),?_⟩
 obtain⟨sa,on,al⟩:=id st
 cases en:S.now with
 |free k=>rw[en]at tg;cases tg
 |speaks n ds k=>rw[en]at tg;cases tg
 |reads h=>rw[en]at tg;cases tg
 | tlS v c=>
  rw[en]at sa
  obtain⟨dx,tl,e,ht,_⟩:=sa
  obtain⟨C,d,hC,e1⟩:=id ht
  have hc:=fH Zg Zf hC
  have hm:=lG ZaP ZaH hC
  refine⟨dx,_,.ref tl,e,rfl,⟨C,d,_,e1,hc.cls,hm,rfl⟩,tl,S.vt,true,v,c,rfl,ht,?_⟩
  have:saysP S=tlSays true v:=by unfold saysP;rw[en]
  rw[this]at q
  exact q
 | tlR n ds v c=>
  rw[en]at sa
  obtain⟨dx,tl,t0,d0,e,ht,_⟩:=sa
  obtain⟨C,d,hC,e1⟩:=id ht
  have hc:=fH Zg Zf hC
  have hm:=lG ZaP ZaH hC
  refine⟨dx,_,.ref tl,e,rfl,⟨C,d,_,e1,hc.cls,hm,rfl⟩,tl,S.vt,false,v,c,rfl,ht,?_⟩
  have:saysP S=tlSays false v:=by unfold saysP;rw[en]
  rw[this]at q
  exact q
 |flag l m=>rw[en]at tg;cases tg
 |settles m=>rw[en]at tg;cases tg
 |rests l=>rw[en]at tg;cases tg
 |off  =>rw[en]at tg;cases tg
variable (ZcN:MB P w K mg base (CX0) 8 ZeD ZiN ["self","bit","post"] (spStStep CA 0))
include Zam ZG Zn ZfV ZdV ZcW ZL Za ZbY Zba Zau Zaj Zaz ZW Z2 ZaS Zas Z3 Zaw Zs ZaT in
theorem Zk0 (F0:Fun K "step" "Free.step" Zi8 ZeD ZiN):type_of% ZcN:=by
 refine mbM ["self","bit","post","begins"] F0 fun Sc0=>F0.ok Sc0 (fun vs H Q E h=>?_) fun cdv A outer s H vs Q E hr h=>?_
 ·obtain⟨nw,p,nwf,S,ob,os,bt,rfl,_⟩:=h
  rfl
 obtain⟨nw,p,nwf,S,ob,os,bt,rfl,tg,bd,st,dj,wf,hb,hu,q⟩:=h
 have nd:=Sc0.nd
 refine⟨_,(aF (aW (i:=3) nd rfl (Or.inl rfl) (cD cV (bH ZL Zaj ZaT.1 (hr.mono (by decide)) ZaT.2 .nil aN (dv 0) (aA (dv 2) aD)) aJ (aR _))) (aF (bF (PW.pt (fO (bY (dv 3)) (eU (aX cV (dv 1) aJ (aR _))))) (aG (aM (bQ (aA aY (aA (cA Zba Zas.1 (hr.mono (by decide)) rfl ZdV Zas.2 .nil aN (aA (bD Za Zaz Zaw.1 (hr.mono (by decide)) Zaw.2 .nil aN (dv 2)) (aA (oU Z2.1 (hr.mono (by decide)) rfl Z2.2.2.2 Z2.2.2.1 Z2.2.1 .nil aN) (aA aJ aD)))) aD))))) aV) (aF (bF (bY (dv 3)) (aG (aM (aP Zs.1 (hr.mono (by decide)) rfl Zs.2.2.2 Zs.2.2.1 Zs.2.1 .nil aN (aA (dv 2) (aA dX aD))))) aV) (aF (bF (aX cV (dv 1) aJ (aR _)) (aG (aM (bQ (aA aY (aA (cA Zau Z3.1 (hr.mono (by decide)) rfl ZcW Z3.2 .nil aN (aA (oU Z2.1 (hr.mono (by decide)) rfl Z2.2.2.2 Z2.2.2.1 Z2.2.1 .nil aN) (aA aJ aD))) aD))))) aV) (aG (aM (bQ (aA aY (aA (cA ZbY ZaS.1 (hr.mono (by decide)) rfl ZfV ZaS.2 .nil aN (aA (aU bZ (aO ZL ZW (dv 0)) aJ) aD)) aD))))))))),?_⟩
 obtain⟨sa,on,al⟩:=id st
 cases en:S.now with
 | free k =>
  rw[en]at sa
  obtain⟨dx,e⟩:=sa
  obtain⟨dp,ch,wl,ul,ct,ws,us,b⟩:=id bd
  rw[lU en]at q
  refine⟨⟨dx,_,e,rfl⟩,nw,p,nwf,S,ob,os,rfl,tg,bd,st,wf,?_⟩
  conv=>whnf
  refine bK (fun c=>?_) (fun c=>?_)
  ·have c1:saysP S=0:=dec_true c
   rw[if_pos c1]at q
   conv=>whnf
   refine bK (fun z=>?_) (fun z=>?_)
   ·have z1:bt=0:=dec_true z
    rw[if_pos z1]at q
    cases ewt:S.wt with
    | nil=>
     rw[jN en,if_pos ewt]at c1
     cases c1
    | cons f rr=>
     rw[ewt]at q
     have hf:=wf.wt f (by rw[ewt];exact YN)
     refine⟨⟨dp,_,b.e,rfl⟩,p,nwf,S,ob,f,rr,rfl,bd,ewt,hf,fun pw H1 hpw g1 e1=>?_⟩
     refine⟨rfl,fun r st' ks H2 t0 hR g2 n1 n2 n3=>?_⟩
     refine fun x dx' hx hdx hne=>⟨x,dx',_,_,_,rfl,aB,fun H3 eH=>⟨rfl,aK rfl,fun t ht=>?_⟩⟩
     have g3:Same H2 H3:=by rw[eH];exact bL hx hdx
     have e3:H3 x=some (.ins CA.speaks dx' [("wire",.ref pw),("reader",.ref r),("many",.int ((1:Nat):Int))]):=by rw[eH];exact aB
     have g4:=aH ht (.tup [.str "begins",.ref x])
     have npk:pw≠ks:=fun y=>by rw[y,n3]at e1;cases e1
     have g24:=g3.trans g4
     have gs:=g1.trans (g2.trans g24)
     refine q t _ (Stp.go (os':=fun y=>y=x\/y=pw\/y=r\/y=st'\/y=ks) bd dj Keep.refl gs aB ⟨rfl,rfl,rfl,ewt.symm,rfl,rfl⟩ ⟨⟨dx',pw,r,st',ks,t0,g4 _ _ e3,g24 _ _ (g2 _ _ e1),?_,npk,.inr (.inl rfl),.inr (.inr (.inl rfl)),.inr (.inr (.inr (.inl rfl))),.inr (.inr (.inr (.inr rfl)))⟩,.inl rfl,?_⟩ ?_)
     ·show RdAt _ _ _ r st' ks ((wr f.1 f.2).take 1) t0
      rw[qC]
      exact hR.same g24
     ·rintro y (rfl | rfl | rfl | rfl | rfl)
      ·rw[g4 _ _ e3];simp
      ·rw[g24 _ _ (g2 _ _ e1)];simp
      ·obtain⟨d,w⟩:=hR.rd;rw[g24 _ _ w];simp
      ·obtain⟨d,w⟩:=hR.sk;rw[g24 _ _ w];simp
      ·rw[g24 _ _ hR.kp];simp
     ·rintro y (rfl | rfl | rfl | rfl | rfl)
      ·exact .inr (g1.none (g2.none hx))
      ·exact .inr hpw
      ·exact .inr (g1.none n1)
      ·exact .inr (g1.none n2)
      ·exact .inr (g1.none n3)
   ·have z1:¬ bt=0:=dec_false z
    rw[if_neg z1]at q
    conv=>whnf
    refine bK (fun _=>?_) (fun c'=>absurd c c')
    exact⟨p,nwf,S,ob,true,rfl,bd,fun t H' h=>q t H' (h.stp Keep.refl bd)⟩
  have c1:¬ saysP S=0:=dec_false c
  rw[if_neg c1]at q
  refine vD ?_
  conv=>whnf
  refine bK (fun c'=>absurd c' c) (fun _=>?_)
  conv=>whnf
  refine bK (fun z=>?_) (fun z=>?_)
  ·have z1:bt=0:=dec_true z
   rw[if_pos z1]at q
   refine⟨rfl,fun r st' ks H2 t0 hR g2 n1 n2 n3=>?_⟩
   refine fun x dx' hx hdx hne=>⟨x,dx',_,_,rfl,aB,fun H3 eH=>⟨rfl,aK rfl,fun t ht=>?_⟩⟩
   have g3:Same H2 H3:=by rw[eH];exact bL hx hdx
   have e3:H3 x=some (.ins CA.reads dx' [("reader",.ref r),("many",.int ((1:Nat):Int))]):=by rw[eH];exact aB
   have g4:=aH ht (.tup [.str "",.ref x])
   have g24:=g3.trans g4
   refine q t _ (Stp.go (os':=fun y=>y=x\/y=r\/y=st'\/y=ks) bd dj Keep.refl (g2.trans g24) aB ⟨rfl,rfl,rfl,rfl,rfl,rfl⟩ ⟨⟨dx',r,st',ks,t0,g4 _ _ e3,hR.same g24,.inr (.inl rfl),.inr (.inr (.inl rfl)),.inr (.inr (.inr rfl))⟩,.inl rfl,?_⟩ ?_)
   ·rintro y (rfl | rfl | rfl | rfl)
    ·rw[g4 _ _ e3];simp
    ·obtain⟨d,w⟩:=hR.rd;rw[g24 _ _ w];simp
    ·obtain⟨d,w⟩:=hR.sk;rw[g24 _ _ w];simp
    ·rw[g24 _ _ hR.kp];simp
   ·rintro y (rfl | rfl | rfl | rfl)
    ·exact .inr (g2.none hx)
    ·exact .inr n1
    ·exact .inr n2
    ·exact .inr n3
  ·have z1:¬ bt=0:=dec_false z
   rw[if_neg z1]at q
   refine⟨dx,_,_,e,rfl,?_⟩
   refine fun x dx' hx hdx hne=>⟨x,dx',_,rfl,aB,fun H2 eH=>⟨rfl,aK rfl,fun t ht=>?_⟩⟩
   have g2:Same H H2:=by rw[eH];exact bL hx hdx
   have e2:H2 x=some (.ins CA.free dx' [("since",.int ((k+1:Nat):Int))]):=by rw[eH];exact aB
   have g3:=aH ht (.tup [.str "",.ref x])
   exact q t _ (a0Q bd dj Keep.refl (g2.trans g3) aB ⟨rfl,rfl,rfl,rfl,rfl,rfl⟩ hx (g3 _ _ e2) ⟨dx',g3 _ _ e2⟩)
 |speaks n ds k=>rw[en]at tg;cases tg
 |reads h=>rw[en]at tg;cases tg
 |tlS v c=>rw[en]at tg;cases tg
 |tlR n ds v c=>rw[en]at tg;cases tg
 |flag l m=>rw[en]at tg;cases tg
 |settles m=>rw[en]at tg;cases tg
 |rests l=>rw[en]at tg;cases tg
 |off  =>rw[en]at tg;cases tg
variable (Zcu:MB P w K mg base (CX0) 7 Zd9 Zid ["self","bit","post"] (spStStep CA 2))
include ZG Zn Zc9 ZcW ZdU Zfq Ze ZC Za Zau Za9 ZcJ ZO Zbe ZV Zao ZX ZY ZbV Zbs Z3 Zar Zs in
theorem ZkD (F0:Fun K "step" "Reads.step" Ziv Zd9 Zid):type_of% Zcu:=by
 refine mbM ["self","bit","post","answer"] F0 fun Sc0=>F0.ok Sc0 (fun vs H Q E h=>?_) fun cdv A outer s H vs Q E hr h=>?_
 ·obtain⟨nw,p,nwf,S,ob,os,bt,rfl,_⟩:=h
  rfl
 obtain⟨nw,p,nwf,S,ob,os,bt,rfl,tg,bd,st,dj,wf,hb,hu,q⟩:=h
 have nd:=Sc0.nd
 refine⟨_,(aF (aW (i:=3) nd rfl (Or.inl rfl) (bH Ze ZO ZY.1 (hr.mono (by decide)) ZY.2 .nil aN (aO ZC ZV (dv 0)) (aA (dv 1) aD))) (aF (bF (aX cV (dv 3) aY (aR _)) (aG (aM (bQ (aA aY (aA (cA Zau Z3.1 (hr.mono (by decide)) rfl ZcW Z3.2 .nil aN (aA (aO ZC ZV (dv 0)) (aA (aU bZ (aO ZC Zao (dv 0)) aJ) aD))) aD))))) aV) (aF (bF (aX cV (dv 3) aY (aR _)) (aG (aM (bQ (aA aY (aA (cA Za9 Zar.1 (hr.mono (by decide)) rfl ZdU Zar.2 .nil aN (aA (cA ZcJ Zbs.1 (hr.mono (by decide)) rfl Zfq Zbs.2 .nil aN (aA (aO Za ZX (dv 2)) aD)) (aA (bD Ze Zbe ZbV.1 (hr.mono (by decide)) ZbV.2 .nil aN (aO ZC ZV (dv 0))) aD))) aD))))) aV) (aG (aM (aP Zs.1 (hr.mono (by decide)) rfl Zs.2.2.2 Zs.2.2.1 Zs.2.1 .nil aN (aA (dv 2) (aA dX aD)))))))),?_⟩
 obtain⟨sa,on,al⟩:=id st
 cases en:S.now with
 |free k=>rw[en]at tg;cases tg
 |speaks n ds k=>rw[en]at tg;cases tg
 | reads h=>
  rw[en]at sa
  obtain⟨dx,r,st',ks,t0,e,hR,o1,o2,o3⟩:=sa
  have hn:=wf.now
  rw[en]at hn
  obtain⟨f1,f2,f3⟩:=hn
  have hlen:=a4P f1 f2
  rw[kI en]at q
  obtain⟨dr,er⟩:=hR.rd
  obtain⟨dk,ek⟩:=hR.sk
  have hbits:Bits (h++[bt]):=fW f1 (fun z hz=>by rw[Yp.mp hz];exact hb)
  refine⟨dx,_,.ref r,e,rfl,⟨dr,_,er,rfl⟩,r,st',ks,h,t0,bt,rfl,hR,hbits,by omega,fun H1 hR1 b1=>?_⟩
  have n1:nw≠r:=jU "many" e er rfl rfl
  have n2:nw≠st':=jU "many" e ek rfl rfl
  have n3:nw≠ks:=sJ e hR.kp
  have e1:=b1 _ _ n1 n2 n3 e
  have k1:=sX hR b1 o1 o2 o3
  have bd1:=jB bd dj k1
  have k1':Keep (Or2 ob os) H H1:=k1.le fun x hx=> .inr hx
  obtain⟨dr1,er1⟩:=hR1.rd
  generalize hans:ans (h++[bt])=an at hR1 q er1 ⊢
  conv=>whnf
  refine bK (fun c=>?_) (fun c=>?_)
  ·have c1:an="more":=YT c
   rw[if_pos c1]at q
   refine⟨dx,_,.ref r,e1,rfl,dx,_,_,e1,rfl,?_⟩
   refine fun x dx' hx hdx hne=>⟨x,dx',_,_,rfl,aB,fun H2 eH=>⟨rfl,aK rfl,fun t ht=>?_⟩⟩
   have g2:Same H1 H2:=by rw[eH];exact bL hx hdx
   have el:((h.length:Nat):Int)+1=(((h++[bt]).length:Nat):Int):=by rw[Yc,Yu];rfl
   have e2:H2 x=some (.ins CA.reads dx' [("reader",.ref r),("many",.int (((h++[bt]).length:Nat):Int))]):=by rw[eH,<-el];exact aB
   have g3:=aH ht (.tup [.str "",.ref x])
   have g13:=g2.trans g3
   refine q t _ (Stp.go (os':=fun y=>y=x\/y=r\/y=st'\/y=ks) bd dj k1 g13 aB ⟨rfl,rfl,rfl,rfl,rfl,rfl⟩ ⟨⟨dx',r,st',ks,an,g3 _ _ e2,hR1.same g13,.inr (.inl rfl),.inr (.inr (.inl rfl)),.inr (.inr (.inr rfl))⟩,.inl rfl,?_⟩ ?_)
   ·rintro y (rfl | rfl | rfl | rfl)
    ·rw[g3 _ _ e2];simp
    ·rw[g13 _ _ er1];simp
    ·obtain⟨d,w⟩:=hR1.sk;rw[g13 _ _ w];simp
    ·rw[g13 _ _ hR1.kp];simp
   ·rintro y (rfl | rfl | rfl | rfl)
    ·exact .inr hx
    ·exact .inl o1
    ·exact .inl o2
    ·exact .inl o3
  have c1:¬ an="more":=fun z=>c (Yl z)
  rw[if_neg c1]at q
  conv=>whnf
  refine bK (fun z=>?_) (fun z=>?_)
  ·have z1:an="whole":=YT z
   rw[if_pos z1]at q
   obtain⟨dp,ch,wl,ul,ct,ws,us,b⟩:=id bd1
   refine⟨dp,_,_,b.e,rfl,?_⟩
   refine fun tl dt htl hdt hne=>⟨tl,dt,S.vt,rfl,aB,fun H2 eH=>⟨rfl,?_⟩⟩
   have g2:Same H1 H2:=by rw[eH];exact bL htl hdt
   have e2:H2 tl=some (.ins CA.rtail dt (tlF S.vt false 0 0)):=by rw[eH];exact aB
   clear eH
   have hR2:=hR1.same g2
   obtain⟨dr2,er2⟩:=hR2.rd
   refine⟨dx,_,.ref r,g2 _ _ e1,rfl,⟨dr2,_,er2,rfl⟩,r,st',ks,h++[bt],rfl,(by rw[hans];exact hR2),hbits,(by rw[Yc,Yu];omega),(fun _=>vK (by rw[a2B,Y7,f3];rfl)),fun _ ok t d H3 hd g3 ed et=>?_,fun no=>absurd (hans.trans z1) no⟩
   refine fun x dx' hx hdx hne=>⟨x,dx',_,_,rfl,aB,fun H4 eH=>⟨rfl,aK rfl,fun t' ht'=>?_⟩⟩
   have g4:Same H3 H4:=by rw[eH];exact bL hx hdx
   have e4:H4 x=some (.ins CA.intail dx' [("tail",.ref tl),("found",.ref t)]):=by rw[eH];exact aB
   clear eH
   have g5:=aH ht' (.tup [.str "",.ref x])
   have g35:=g4.trans g5
   refine q t' _ (Stp.go (os':=fun y=>y=x\/y=tl\/y=d) bd dj k1 (g2.trans (g3.trans g35)) aB ⟨rfl,rfl,rfl,rfl,rfl,rfl⟩ ⟨⟨dx',tl,t,d,g5 _ _ e4,⟨CA.rtail,dt,.inl rfl,g35 _ _ (g3 _ _ e2)⟩,g35 _ _ et,g35 _ _ ed,.inr (.inl rfl),.inr (.inr rfl)⟩,.inl rfl,?_⟩ ?_)
   ·rintro y (rfl | rfl | rfl)
    ·rw[g5 _ _ e4];simp
    ·rw[g35 _ _ (g3 _ _ e2)];simp
    ·rw[g35 _ _ ed];simp
   ·rintro y (rfl | rfl | rfl)
    ·exact .inr (g2.none (g3.none hx))
    ·exact .inr htl
    ·exact .inr (g2.none hd)
  ·have z1:¬ an="whole":=fun y=>z (Yl y)
   rw[if_neg z1]at q
   exact⟨p,nwf,S,ob,false,rfl,bd1,fun t H' h=>q t H' (h.stp k1' bd1)⟩
 |tlS v c=>rw[en]at tg;cases tg
 |tlR n ds v c=>rw[en]at tg;cases tg
 |flag l m=>rw[en]at tg;cases tg
 |settles m=>rw[en]at tg;cases tg
 |rests l=>rw[en]at tg;cases tg
 |off  =>rw[en]at tg;cases tg
variable (Zcg:MB P w K mg base (CX0) 7 ZdI Zht ["self","bit","post"] (spStStep CA 1))
include ZG Zn Zc9 ZdV ZcW ZdU ZeM ZeQ Zx Ze Zi Za Zba Zau Za9 Zcp ZO Zbf ZF ZQ Zz ZX ZY ZbW Za8 Zas Z3 Zar Zs in
theorem Zke (F0:Fun K "step" "Speaks.step" ZhO ZdI Zht):type_of% Zcg:=by
 refine mbM ["self","bit","post","own","is_duel"] F0 fun Sc0=>F0.ok Sc0 (fun vs H Q E h=>?_) fun cdv A outer s H vs Q E hr h=>?_
 ·obtain⟨nw,p,nwf,S,ob,os,bt,rfl,_⟩:=h
  rfl
 obtain⟨nw,p,nwf,S,ob,os,bt,rfl,tg,bd,st,dj,wf,hb,hu,q⟩:=h
 have nd:=Sc0.nd
 refine⟨_,(aF (aW (i:=3) nd rfl (Or.inl rfl) (bG bW (aO Zi ZF (dv 0)) (aO Zi Zz (dv 0)) (fun _ _=>rfl))) (aF (aW (i:=4) nd rfl (Or.inl rfl) (cD wC (bB cH rfl Zx bU (aA (bD Ze Zbf ZbW.1 (hr.mono (by decide)) ZbW.2 .nil aN (aO Zi ZQ (dv 0))) aD)) (bA (v:= .int 9) rfl ZeM ⟨_,rfl⟩) (aR _))) (aF (bF (aX cV (bH Ze ZO ZY.1 (hr.mono (by decide)) ZY.2 .nil aN (aO Zi ZQ (dv 0)) (aA (dv 1) aD)) aY (aR _)) (aG (aM (aP Zs.1 (hr.mono (by decide)) rfl Zs.2.2.2 Zs.2.2.1 Zs.2.1 .nil aN (aA (dv 2) (aA dX aD))))) aV) (aF (gC (bF (PW.pt (fO (aX cV (dv 3) aJ (aR _)) (fO (aX cV (dv 1) aJ (aR _)) (eU (bY (dv 4)))))) (aG (aM (bQ (aA aY (aA (cA Zau Z3.1 (hr.mono (by decide)) rfl ZcW Z3.2 .nil aN (aA (aO Zi ZQ (dv 0)) (aA (aU bZ (aO Zi Zz (dv 0)) aJ) aD))) aD))))) aV)) (aF (bF (aX iU (dv 1) (dv 3) (aR _)) (aG (aM (aP Zs.1 (hr.mono (by decide)) rfl Zs.2.2.2 Zs.2.2.1 Zs.2.1 .nil aN (aA (dv 2) (aA dX aD))))) aV) (aF (bF (aX cV (aU bZ (aO Zi Zz (dv 0)) aJ) (bB cH rfl Zx bU (aA (aO Zi ZF (dv 0)) aD)) (aR _)) (aG (aM (bQ (aA aY (aA (cA Za9 Zar.1 (hr.mono (by decide)) rfl ZdU Zar.2 .nil aN (aA (cA Zcp Za8.1 (hr.mono (by decide)) rfl ZeQ Za8.2 .nil aN (aA (aO Za ZX (dv 2)) aD)) (aA jT aD))) aD))))) aV) (aG (aM (bQ (aA aY (aA (cA Zba Zas.1 (hr.mono (by decide)) rfl ZdV Zas.2 .nil aN (aA (aO Zi ZF (dv 0)) (aA (aO Zi ZQ (dv 0)) (aA (aU bZ (aO Zi Zz (dv 0)) aJ) aD)))) aD))))))))))),?_⟩
 obtain⟨sa,on,al⟩:=id st
 cases en:S.now with
 |free k=>rw[en]at tg;cases tg
 | speaks n ds k=>
  rw[en]at sa
  obtain⟨dx,wa,r,st',ks,t0,e,ew,hR,nwk,o0,o1,o2,o3⟩:=sa
  have hn:=wf.now
  rw[en]at hn
  obtain⟨f1,f2,hk,f4⟩:=hn
  have wl_:=iC f1
  have wbits:=(gK f1).wbits
  rw[fU en]at q
  have eg:=getD_get hk
  rw[eg]at q
  obtain⟨dr,er⟩:=hR.rd
  obtain⟨dk,ek⟩:=hR.sk
  have hbits:Bits ((wr n ds).take k++[bt]):=fW (mJ wbits) (fun z hz=>by rw[Yp.mp hz];exact hb)
  refine⟨dx,_,.ref wa,e,rfl,dx,_,_,e,rfl,_,_,SqL.of ew,nQ hk,?_⟩
  refine⟨dx,_,.ref r,e,rfl,⟨dr,_,er,rfl⟩,r,st',ks,_,t0,rfl,hR,fun pp H0 hpp g0 e0=>?_⟩
  refine⟨_,.inl (SqL.of e0),?_⟩
  rw[Ya]
  have hR0:=hR.same g0
  obtain⟨dr0,er0⟩:=hR0.rd
  have ee0:=g0 _ _ e
  refine⟨dx,_,.ref r,ee0,rfl,⟨dr0,_,er0,rfl⟩,r,st',ks,(wr n ds).take k,t0,bt,rfl,hR0,hbits,(by rw[Yo];omega),fun H1 hR1 b1=>?_⟩
  have n1:nw≠r:=jU "wire" e er rfl rfl
  have n2:nw≠st':=jU "wire" e ek rfl rfl
  have n3:nw≠ks:=sJ e hR.kp
  have e1:=b1 _ _ n1 n2 n3 ee0
  have ew1:=b1 _ _ (Ne.symm (sJ er ew)) (Ne.symm (sJ ek ew)) nwk (g0 _ _ ew)
  have k01:=sX hR0 b1 o1 o2 o3
  have k1:Keep os H H1:=fun x v ex z=>k01 x v (g0 x v ex) z
  have bd1:=jB bd dj k1
  have k1':Keep (Or2 ob os) H H1:=k1.le fun x hx=> .inr hx
  obtain⟨dr1,er1⟩:=hR1.rd
  conv=>whnf
  refine bK (fun c=>?_) (fun c=>?_)
  ·have c1:ans ((wr n ds).take k++[bt])="six":=YT c
   rw[if_pos c1]at q
   exact⟨p,nwf,S,ob,true,rfl,bd1,fun t H' h=>q t H' (h.stp k1' bd1)⟩
  have c1:¬ ans ((wr n ds).take k++[bt])="six":=fun z=>c (Yl z)
  rw[if_neg c1]at q
  refine⟨fun σ' H'=>σ'= [some (.ref nw),some (.int bt),some (.ref p),some (.int (wr n ds)[k]),some (.bl (decide (((kp ((wr n ds).take k)).length:Int)<9)))]/\H'=H1/\¬ ((wr n ds)[k]=1/\bt=0/\(kp ((wr n ds).take k)).length<9),?_,?_⟩
  ·conv=>whnf
   refine bK (fun y1=>?_) (fun y1=>vD ⟨rfl,rfl,fun z=>dec_false y1 z.1⟩)
   conv=>whnf
   refine bK (fun y2=>?_) (fun y2=>vD ⟨rfl,rfl,fun z=>dec_false y2 z.2.1⟩)
   conv=>whnf
   refine bK (fun y3=>?_) (fun y3=>⟨rfl,rfl,fun z=>dec_false y3 (by have:=z.2.2;omega)⟩)
   have hl:(wr n ds)[k]=1/\bt=0/\(kp ((wr n ds).take k)).length<9:=⟨dec_true y1,dec_true y2,by have:=dec_true y3;omega⟩
   rw[if_pos hl]at q
   refine⟨dx,_,.ref r,e1,rfl,dx,_,_,e1,rfl,?_⟩
   refine fun x dx' hx hdx hne=>⟨x,dx',_,_,rfl,aB,fun H2 eH=>⟨rfl,aK rfl,fun t ht=>?_⟩⟩
   have g2:Same H1 H2:=by rw[eH];exact bL hx hdx
   have el:((k:Nat):Int)+1=((((wr n ds).take k++[bt]).length:Nat):Int):=by rw[Yc,Yu,Yo];omega
   have e2:H2 x=some (.ins CA.reads dx' [("reader",.ref r),("many",.int ((((wr n ds).take k++[bt]).length:Nat):Int))]):=by rw[eH,<-el];exact aB
   have g3:=aH ht (.tup [.str "loses",.ref x])
   have g13:=g2.trans g3
   refine q t _ (Stp.go (os':=fun y=>y=x\/y=r\/y=st'\/y=ks) bd dj k1 g13 aB ⟨rfl,rfl,rfl,rfl,rfl,rfl⟩ ⟨⟨dx',r,st',ks,_,g3 _ _ e2,hR1.same g13,.inr (.inl rfl),.inr (.inr (.inl rfl)),.inr (.inr (.inr rfl))⟩,.inl rfl,?_⟩ ?_)
   ·rintro y (rfl | rfl | rfl | rfl)
    ·rw[g3 _ _ e2];simp
    ·rw[g13 _ _ er1];simp
    ·obtain⟨d,w⟩:=hR1.sk;rw[g13 _ _ w];simp
    ·rw[g13 _ _ hR1.kp];simp
   ·rintro y (rfl | rfl | rfl | rfl)
    ·exact .inr hx
    ·exact .inl o1
    ·exact .inl o2
    ·exact .inl o3
  rintro σ' H' ⟨rfl,rfl,nl⟩
  rw[if_neg nl]at q
  conv=>whnf
  refine bK (fun y=>?_) (fun y=>?_)
  ·have y1:¬ bt=(wr n ds)[k]:=fun z=>by
    have:(!decide (bt=(wr n ds)[k]))=true:=y
    rw[Yl z]at this;cases this
   rw[if_neg y1]at q
   exact⟨p,nwf,S,ob,true,rfl,bd1,fun t H' h=>q t H' (h.stp k1' bd1)⟩
  have y1:bt=(wr n ds)[k]:=YB fun z=>y (by
   show (!decide (bt=(wr n ds)[k]))=true
   rw[Ym z];rfl)
  rw[if_pos y1]at q
  have et:(wr n ds).take k++[bt]=(wr n ds).take (k+1):=by rw[Yf hk,y1]
  refine⟨dx,_,_,e1,rfl,dx,_,.ref wa,e1,rfl,_,.inl (SqL.of ew1),?_⟩
  rw[Ya]
  conv=>whnf
  refine bK (fun z=>?_) (fun z=>?_)
  ·have z1:((k:Nat):Int)+1=(((wr n ds).length:Nat):Int):=dec_true z
   rw[if_pos (by omega)]at q
   obtain⟨dp,ch,wl,ul,ct,ws,us,b⟩:=id bd1
   refine⟨dp,_,_,b.e,rfl,?_⟩
   refine fun tl dt htl hdt hne=>⟨tl,dt,S.vt,rfl,aB,fun H2 eH=>⟨rfl,?_⟩⟩
   have g2:Same H' H2:=by rw[eH];exact bL htl hdt
   have e2:H2 tl=some (.ins CA.stail dt (tlF S.vt true 0 0)):=by rw[eH];exact aB
   clear eH
   refine fun x dx' hx hdx hne=>⟨x,dx',_,_,rfl,aB,fun H4 eH=>⟨rfl,aK rfl,fun t' ht'=>?_⟩⟩
   have g4:Same H2 H4:=by rw[eH];exact bL hx hdx
   have e4:H4 x=some (.ins CA.intail dx' [("tail",.ref tl),("found",.non)]):=by rw[eH];exact aB
   clear eH
   have g5:=aH ht' (.tup [.str "",.ref x])
   have g35:=g4.trans g5
   refine q t' _ (Stp.go (os':=fun y=>y=x\/y=tl) bd dj k1 (g2.trans g35) aB ⟨rfl,rfl,rfl,rfl,rfl,rfl⟩ ⟨⟨dx',tl,g5 _ _ e4,⟨CA.stail,dt,.inr rfl,g35 _ _ e2⟩,.inr rfl⟩,.inl rfl,?_⟩ ?_)
   ·rintro y (rfl | rfl)
    ·rw[g5 _ _ e4];simp
    ·rw[g35 _ _ e2];simp
   ·rintro y (rfl | rfl)
    ·exact .inr (g2.none hx)
    ·exact .inr htl
  ·have z1:¬ ((k:Nat):Int)+1=(((wr n ds).length:Nat):Int):=dec_false z
   rw[if_neg (by omega)]at q
   refine⟨dx,_,.ref wa,e1,rfl,dx,_,.ref r,e1,rfl,dx,_,_,e1,rfl,?_⟩
   refine fun x dx' hx hdx hne=>⟨x,dx',_,_,_,rfl,aB,fun H2 eH=>⟨rfl,aK rfl,fun t ht=>?_⟩⟩
   have g2:Same H' H2:=by rw[eH];exact bL hx hdx
   have e2:H2 x=some (.ins CA.speaks dx' [("wire",.ref wa),("reader",.ref r),("many",.int ((k+1:Nat):Int))]):=by rw[eH];exact aB
   clear eH
   have g3:=aH ht (.tup [.str "",.ref x])
   have g13:=g2.trans g3
   rw[et]at hR1 er1
   refine q t _ (Stp.go (os':=fun y=>y=x\/y=wa\/y=r\/y=st'\/y=ks) bd dj k1 g13 aB ⟨rfl,rfl,rfl,rfl,rfl,rfl⟩ ⟨⟨dx',wa,r,st',ks,_,g3 _ _ e2,g13 _ _ ew1,hR1.same g13,nwk,.inr (.inl rfl),.inr (.inr (.inl rfl)),.inr (.inr (.inr (.inl rfl))),.inr (.inr (.inr (.inr rfl)))⟩,.inl rfl,?_⟩ ?_)
   ·rintro y (rfl | rfl | rfl | rfl | rfl)
    ·rw[g3 _ _ e2];simp
    ·rw[g13 _ _ ew1];simp
    ·rw[g13 _ _ er1];simp
    ·obtain⟨d,w⟩:=hR1.sk;rw[g13 _ _ w];simp
    ·rw[g13 _ _ hR1.kp];simp
   ·rintro y (rfl | rfl | rfl | rfl | rfl)
    ·exact .inr hx
    ·exact .inl o0
    ·exact .inl o1
    ·exact .inl o2
    ·exact .inl o3
 |reads h=>rw[en]at tg;cases tg
 |tlS v c=>rw[en]at tg;cases tg
 |tlR n ds v c=>rw[en]at tg;cases tg
 |flag l m=>rw[en]at tg;cases tg
 |settles m=>rw[en]at tg;cases tg
 |rests l=>rw[en]at tg;cases tg
 |off  =>rw[en]at tg;cases tg
variable (Zb6:MB P w K mg base (CX0) 6 Zdw Zhh ["self","bit","post"] (spStStep CA 3))
include ZgP Zc7 Zg Zf Zd Zq Za ZcM ZbM Zay Zbd ZaO ZaG Zy Zaf Zk ZcU Zcq Zbg Zav ZbU Zs Zbl in
theorem Zj2 (F0:Fun K "step" "InTail.step" ZhC Zdw Zhh):type_of% Zb6:=by
 refine mbM ["self","bit","post","answer"] F0 fun Sc0=>F0.ok Sc0 (fun vs H Q E h=>?_) fun cdv A outer s H vs Q E hr h=>?_
 ·obtain⟨nw,p,nwf,S,ob,os,bt,rfl,_⟩:=h
  rfl
 obtain⟨nw,p,nwf,S,ob,os,bt,rfl,tg,bd,st,dj,wf,hb,hu,q⟩:=h
 have nd:=Sc0.nd
 refine⟨_,(aF (aW (i:=3) nd rfl (Or.inl rfl) (jW ZcU.1 (hr.mono (by decide)) ZcU.2 .nil aN (aO Zq Zy (dv 0)) (aA (dv 1) aD))) (aF (bF (aX cV (dv 3) aY (aR _)) (aG (aM (bQ (aA aY (aA (dv 0) aD))))) aV) (aF (bF (aX cV (dv 3) aY (aR _)) (aG (aM (aP Zs.1 (hr.mono (by decide)) rfl Zs.2.2.2 Zs.2.2.1 Zs.2.1 .nil aN (aA (dv 2) (aA (cN (aO Zq Zy (dv 0))) aD))))) aV) (aF (bF (aX cV (dv 3) aY (aR _)) (aG (aM (aP Zbl.1 (hr.mono (by decide)) rfl Zbl.2.2.2 Zbl.2.2.1 Zbl.2.1 .nil aN (aA (dv 2) (aA (cN (aO Zq Zy (dv 0))) aD))))) aV) (aF (aZ (bD Zd ZbM Zcq.1 (hr.mono (by decide)) Zcq.2 .nil aN (aO Za Zk (dv 2)))) (aF (bF (bY (cN (aO Zq Zy (dv 0)))) (aF (aZ (bD Za Zay Zav.1 (hr.mono (by decide)) Zav.2 .nil aN (dv 2))) (aG (aM (bQ (aA aY (aA (cA ZcM Zbg.1 (hr.mono (by decide)) rfl ZgP Zbg.2 .nil aN (aA (bA (v:= .int 3) rfl Zc7 ⟨_,rfl⟩) aD)) aD)))))) aV) (aF (aZ (bH Za Zbd ZbU.1 (hr.mono (by decide)) ZbU.2 .nil aN (dv 2) (aA (aO Zq Zaf (dv 0)) aD))) (aG (aM (bQ (aA aY (aA (cA ZcM Zbg.1 (hr.mono (by decide)) rfl ZgP Zbg.2 .nil aN (aA (bA (v:= .int 3) rfl Zc7 ⟨_,rfl⟩) aD)) aD)))))))))))),?_⟩
 obtain⟨sa,on,al⟩:=id st
 cases en:S.now with
 |free k=>rw[en]at tg;cases tg
 |speaks n ds k=>rw[en]at tg;cases tg
 |reads h=>rw[en]at tg;cases tg
 | tlS v c=>
  rw[en]at sa
  obtain⟨dx,tl,  e,ht,o1⟩:=sa
  obtain⟨C,dt,hC,e0⟩:=id ht
  have hc:=fH Zg Zf hC
  have hm:=lG ZaO ZaG hC
  rw[jZ en]at q
  refine⟨dx,_,.ref tl,e,rfl,⟨C,dt,_,e0,hc.cls,hm,rfl⟩,tl,S.vt,true,v,c,bt,rfl,ht,fun H1 ht1 b1=>?_⟩
  have ntl:nw≠tl:=jU "found" e e0 rfl rfl
  have e1:=b1 _ _ ntl e
  have k1:=sW ht b1 o1
  have bd1:=jB bd dj k1
  have k1':Keep (Or2 ob os) H H1:=k1.le fun x hx=> .inr hx
  obtain⟨C1,dt1,hC1,et1⟩:=id ht1
  have hc1:=fH Zg Zf hC1
  have al1:∀x,os x->H1 x≠none:=fun x hx=>by
   by_cases z:x=tl
   ·rw[z,et1];simp
   ·cases ex:H x with
    |none=>exact absurd ex (al x hx)
    |some u=>rw[b1 x u z ex];simp
  have hw:=wf.now
  rw[en]at hw
  have hw1:S.wt≠ []:=hw
  generalize tlWord S.vt true v c bt=an at q ⊢
  conv=>whnf
  refine bK (fun y=>?_) (fun y=>?_)
  ·have y1:an="more":=YT y
   rw[if_pos y1]at q
   refine⟨aK rfl,fun t ht'=>?_⟩
   have g2:=aH ht' (.tup [.str "",.ref nw])
   refine q t _ (Stp.go (os':=os) bd dj k1 g2 aB ⟨rfl,rfl,rfl,rfl,rfl,rfl⟩ ⟨⟨dx,tl,g2 _ _ e1,ht1.same g2,o1⟩,on,fun x hx=>?_⟩ fun x hx=> .inl hx)
   cases ex:H1 x with
   |none=>exact absurd ex (al1 x hx)
   |some u=>rw[g2 x u ex];simp
  have y1:¬ an="more":=fun z=>y (Yl z)
  rw[if_neg y1]at q
  conv=>whnf
  refine bK (fun y=>?_) (fun y=>?_)
  ·have y2:an="fault":=YT y
   rw[if_pos y2]at q
   exact⟨dx,_,.ref tl,e1,rfl,C1,dt1,_,_,et1,hc1.cls,hc1.n2,rfl,p,nwf,S,ob,true,rfl,bd1,fun t H' h=>q t H' (h.stp k1' bd1)⟩
  have y2:¬ an="fault":=fun z=>y (Yl z)
  rw[if_neg y2]at q
  conv=>whnf
  refine bK (fun y=>?_) (fun y=>?_)
  ·have y3:an="refused":=YT y
   rw[if_pos y3]at q
   exact⟨dx,_,.ref tl,e1,rfl,C1,dt1,_,_,et1,hc1.cls,hc1.n2,rfl,p,nwf,S,ob,true,rfl,bd1,fun t H' h=>q t H' (h.stp k1' bd1)⟩
  have y3:¬ an="refused":=fun z=>y (Yl z)
  rw[if_neg y3]at q
  obtain⟨dp,ch,wl,ul,ct,ws,us,b⟩:=id bd1
  obtain⟨dc,ec⟩:=id b.et
  refine⟨dp,_,.ref ct,b.e,rfl,⟨dc,_,ec,rfl⟩,ct,S.tot,rfl,b.et,fun H2 c2 k2=>?_⟩
  obtain⟨b2,kk2⟩:=Bd.count b c2 k2
  have nct:∀x,os x->x≠ct:=fun x hx z=>dj ct b.ot (z▸hx)
  have e2:H2 nw=some (.ins CA.intail dx [("tail",.ref tl),("found",.non)]):=(k2 _ (nct _ on)).trans e1
  have et2:=(k2 _ (nct _ o1)).trans et1
  generalize hn2:mvd S.tot (-1)=n2 at b2 q
  refine⟨dx,_,.ref tl,e2,rfl,C1,dt1,_,_,et2,hc1.cls,hc1.n2,rfl,?_⟩
  obtain⟨dp2,ch2,wl2,ul2,ct2,ws2,us2,b22⟩:=id b2
  refine⟨⟨dp2,_,b22.e,rfl⟩,p,nwf,{ S with tot:=n2 },ob,rfl,b2,hw1,fun H3 b3 k3=>?_⟩
  have k13:Keep (Or2 ob os) H H3:=fun x u ex z=>k3 x u (kk2 x u (k1' x u ex z) (z.imp_left fun y w=>y (.inl w))) (z.imp_left fun y w=>y (.inl w))
  refine fun x dx' hx hdx hne=>⟨x,dx',_,rfl,aB,fun H4 eH=>⟨rfl,aK rfl,fun t' ht'=>?_⟩⟩
  have g4:Same H3 H4:=by rw[eH];exact bL hx hdx
  have e4:H4 x=some (.ins CA.rests dx' [("left",.int ((3:Nat):Int))]):=by rw[eH];exact aB
  clear eH
  have g5:=aH ht' (.tup [.str "done",.ref x])
  refine q t' _ (Stp.go2 (b3.now rfl rfl rfl rfl rfl rfl) k13 (g4.trans g5) aB (dW (g5 _ _ e4) ⟨dx',g5 _ _ e4⟩) (fun y hy=>?_) ?_)
  ·have hy':y=x:=hy
   rw[hy'];exact hx
  ·exact fun y hy=> .inl (.inl hy)
 | tlR n ds v c=>
  rw[en]at sa
  obtain⟨dx,tl,tf,df,e,ht,etf,edf,o1,o2⟩:=sa
  obtain⟨C,dt,hC,e0⟩:=id ht
  have hc:=fH Zg Zf hC
  have hm:=lG ZaO ZaG hC
  rw[kE en]at q
  refine⟨dx,_,.ref tl,e,rfl,⟨C,dt,_,e0,hc.cls,hm,rfl⟩,tl,S.vt,false,v,c,bt,rfl,ht,fun H1 ht1 b1=>?_⟩
  have ntl:nw≠tl:=jU "found" e e0 rfl rfl
  have e1:=b1 _ _ ntl e
  have k1:=sW ht b1 o1
  have bd1:=jB bd dj k1
  have k1':Keep (Or2 ob os) H H1:=k1.le fun x hx=> .inr hx
  obtain⟨C1,dt1,hC1,et1⟩:=id ht1
  have hc1:=fH Zg Zf hC1
  have etf1:=k1.tup etf
  have ndf:df≠tl:=fun z=>by rw[z,e0]at edf;cases edf
  have edf1:=b1 _ _ ndf edf
  have al1:∀x,os x->H1 x≠none:=fun x hx=>by
   by_cases z:x=tl
   ·rw[z,et1];simp
   ·cases ex:H x with
    |none=>exact absurd ex (al x hx)
    |some u=>rw[b1 x u z ex];simp
  generalize tlWord S.vt false v c bt=an at q ⊢
  conv=>whnf
  refine bK (fun y=>?_) (fun y=>?_)
  ·have y1:an="more":=YT y
   rw[if_pos y1]at q
   refine⟨aK rfl,fun t ht'=>?_⟩
   have g2:=aH ht' (.tup [.str "",.ref nw])
   refine q t _ (Stp.go (os':=os) bd dj k1 g2 aB ⟨rfl,rfl,rfl,rfl,rfl,rfl⟩ ⟨⟨dx,tl,tf,df,g2 _ _ e1,ht1.same g2,g2 _ _ etf1,g2 _ _ edf1,o1,o2⟩,on,fun x hx=>?_⟩ fun x hx=> .inl hx)
   cases ex:H1 x with
   |none=>exact absurd ex (al1 x hx)
   |some u=>rw[g2 x u ex];simp
  have y1:¬ an="more":=fun z=>y (Yl z)
  rw[if_neg y1]at q
  conv=>whnf
  refine bK (fun y=>?_) (fun y=>?_)
  ·have y2:an="fault":=YT y
   rw[if_pos y2]at q
   exact⟨dx,_,.ref tl,e1,rfl,C1,dt1,_,_,et1,hc1.cls,hc1.n2,rfl,p,nwf,S,ob,false,rfl,bd1,fun t H' h=>q t H' (h.stp k1' bd1)⟩
  have y2:¬ an="fault":=fun z=>y (Yl z)
  rw[if_neg y2]at q
  conv=>whnf
  refine bK (fun y=>?_) (fun y=>?_)
  ·have y3:an="refused":=YT y
   rw[if_pos y3]at q
   exact⟨dx,_,.ref tl,e1,rfl,C1,dt1,_,_,et1,hc1.cls,hc1.n2,rfl,p,nwf,S,ob,false,rfl,bd1,fun t H' h=>q t H' (h.stp k1' bd1)⟩
  have y3:¬ an="refused":=fun z=>y (Yl z)
  rw[if_neg y3]at q
  obtain⟨dp,ch,wl,ul,ct,ws,us,b⟩:=id bd1
  obtain⟨dc,ec⟩:=id b.et
  refine⟨dp,_,.ref ct,b.e,rfl,⟨dc,_,ec,rfl⟩,ct,S.tot,rfl,b.et,fun H2 c2 k2=>?_⟩
  obtain⟨b2,kk2⟩:=Bd.count b c2 k2
  have nct:∀x,os x->x≠ct:=fun x hx z=>dj ct b.ot (z▸hx)
  have e2:H2 nw=some (.ins CA.intail dx [("tail",.ref tl),("found",.ref tf)]):=(k2 _ (nct _ on)).trans e1
  have et2:=(k2 _ (nct _ o1)).trans et1
  generalize hn2:mvd S.tot (-1)=n2 at b2 q
  refine⟨dx,_,.ref tl,e2,rfl,C1,dt1,_,_,et2,hc1.cls,hc1.n2,rfl,?_⟩
  obtain⟨dp2,ch2,wl2,ul2,ct2,ws2,us2,b22⟩:=id b2
  refine⟨⟨dp2,_,b22.e,rfl⟩,dx,_,.ref tf,e2,rfl,p,nwf,{ S with tot:=n2 },ob,tf,df,n,ds,rfl,b2,kk2.tup etf1,(k2 _ (nct _ o2)).trans edf1,fun z=>dj df z o2,hu,fun H3 b3 k3=>?_⟩
  have k13:Keep (Or2 ob os) H H3:=fun x u ex z=>k3 x u (kk2 x u (k1' x u ex z) (z.imp_left fun y w=>y (.inl w))) (z.imp_left fun y w=>y (.inl w))
  refine fun x dx' hx hdx hne=>⟨x,dx',_,rfl,aB,fun H4 eH=>⟨rfl,aK rfl,fun t' ht'=>?_⟩⟩
  have g4:Same H3 H4:=by rw[eH];exact bL hx hdx
  have e4:H4 x=some (.ins CA.rests dx' [("left",.int ((3:Nat):Int))]):=by rw[eH];exact aB
  clear eH
  have g5:=aH ht' (.tup [.str "takes",.ref x])
  refine q t' _ (Stp.go2 (b3.now rfl rfl rfl rfl rfl rfl) k13 (g4.trans g5) aB (dW (g5 _ _ e4) ⟨dx',g5 _ _ e4⟩) (fun y hy=>?_) ?_)
  ·have hy':y=x:=hy
   rw[hy'];exact hx
  ·rintro y (hy | hy)
   ·exact .inl (.inl hy)
   ·have hy':y=df:=hy
    rw[hy'];exact .inl (.inr o2)
 |flag l m=>rw[en]at tg;cases tg
 |settles m=>rw[en]at tg;cases tg
 |rests l=>rw[en]at tg;cases tg
 |off  =>rw[en]at tg;cases tg
variable (Zb9:MB P w K mg base (CX0) 3 Zdz Zhk ["self"] (spPoShown6 CA))
include Zai Za ZbD ZJ Zce in
theorem Zj5 (F0:Fun K "stance" "Post.stance" ZhF Zdz Zhk):type_of% Zb9:=by
 refine mbM ["self"] F0 fun Sc0=>F0.ok Sc0 (fun vs H Q E h=>?_) fun cdv A outer s H vs Q E hr h=>?_
 ·obtain⟨p,S,o,l,rfl,_⟩:=h
  rfl
 obtain⟨p,S,o,l,rfl,en,⟨nw,ob,os,bd,st,dj,wf,inc,al⟩,q⟩:=h
 have nd:=Sc0.nd
 refine⟨_,(aG (aM (bD Zai ZbD Zce.1 (hr.mono (by decide)) Zce.2 .nil aN (aO Za ZJ (dv 0))))),?_⟩
 obtain⟨dp,ch,wl,ul,ct,ws,us,b⟩:=id bd
 have sa:=st.at_
 rw[en]at sa
 obtain⟨dd,hS⟩:=sa
 exact⟨dp,_,.ref nw,b.e,rfl,⟨dd,_,hS,rfl⟩,nw,S,os,rfl,(by rw[en];rfl),st,q⟩
variable (ZcR:MB P w K mg base (CX0) 4 ZeH ZiR ["self"] (spPoSays3 CA))
include ZL Zi ZC Zq Za Zaj ZbE ZbO Zbv ZJ ZaT Zcf Zct Zb5 in
theorem Zk4 (F0:Fun K "says" "Post.says" Zjc ZeH ZiR):type_of% ZcR:=by
 refine mbM ["self"] F0 fun Sc0=>F0.ok Sc0 (fun vs H Q E h=>?_) fun cdv A outer s H vs Q E hr h=>?_
 ·obtain⟨p,S,o,rfl,_⟩:=h
  rfl
 obtain⟨p,S,o,rfl,tg,⟨nw,ob,os,bd,st,dj,wf,inc,al⟩,q⟩:=h
 have nd:=Sc0.nd
 refine⟨_,(aG (aM (pD (R:=fun C sp=>(C=CA.free/\sp=spStSays CA 0)\/(C=CA.speaks/\sp=spStSays CA 1)\/(C=CA.reads/\sp=spStSays CA 2)\/(C=CA.intail/\sp=spStSays CA 3)) (k:=3) (by
  rintro C sp (⟨rfl,rfl⟩ | ⟨rfl,rfl⟩ | ⟨rfl,rfl⟩ | ⟨rfl,rfl⟩)
  ·exact⟨_,_,_,ZL,Zaj,ZaT.1.mono (by decide),ZaT.2⟩
  ·exact⟨_,_,_,Zi,ZbE,Zcf.1.mono (by decide),Zcf.2⟩
  ·exact⟨_,_,_,ZC,ZbO,Zct.1.mono (by decide),Zct.2⟩
  ·exact⟨_,_,_,Zq,Zbv,Zb5.1.mono (by decide),Zb5.2⟩) (hr.mono (by decide)) aN (aO Za ZJ (dv 0)) (aA (dv 0) aD)))),?_⟩
 obtain⟨dp,ch,wl,ul,ct,ws,us,b⟩:=id bd
 have sa:=st.at_
 cases en:S.now
 case free k=>
  rw[en]at sa
  obtain⟨dd,hS⟩:=sa
  exact⟨dp,_,.ref nw,b.e,rfl,CA.free,dd,_,_,hS,rfl,.inl ⟨rfl,rfl⟩,nw,p,nw,S,ob,os,rfl,(by rw[en];rfl),bd,st,wf,q⟩
 case speaks n ds k=>
  rw[en]at sa
  obtain⟨dd,wa,r,st2,ks,t0,hS,_⟩:=sa
  exact⟨dp,_,.ref nw,b.e,rfl,CA.speaks,dd,_,_,hS,rfl,.inr (.inl ⟨rfl,rfl⟩),nw,p,nw,S,ob,os,rfl,(by rw[en];rfl),bd,st,wf,q⟩
 case reads h=>
  rw[en]at sa
  obtain⟨dd,r,st2,ks,t0,hS,_⟩:=sa
  exact⟨dp,_,.ref nw,b.e,rfl,CA.reads,dd,_,_,hS,rfl,.inr (.inr (.inl ⟨rfl,rfl⟩)),nw,p,nw,S,ob,os,rfl,(by rw[en];rfl),bd,st,wf,q⟩
 case tlS v c=>
  rw[en]at sa
  obtain⟨dd,tl,hS,_⟩:=sa
  exact⟨dp,_,.ref nw,b.e,rfl,CA.intail,dd,_,_,hS,rfl,.inr (.inr (.inr ⟨rfl,rfl⟩)),nw,p,nw,S,ob,os,rfl,(by rw[en];rfl),bd,st,wf,q⟩
 case tlR n ds v c=>
  rw[en]at sa
  obtain⟨dd,tl,tf,df,hS,_⟩:=sa
  exact⟨dp,_,.ref nw,b.e,rfl,CA.intail,dd,_,_,hS,rfl,.inr (.inr (.inr ⟨rfl,rfl⟩)),nw,p,nw,S,ob,os,rfl,(by rw[en];rfl),bd,st,wf,q⟩
 case flag l m=>rw[en]at tg;exact absurd (show 4<=3 from tg) (by decide)
 case settles m=>rw[en]at tg;exact absurd (show 5<=3 from tg) (by decide)
 case rests l=>rw[en]at tg;exact absurd (show 6<=3 from tg) (by decide)
 case off=>rw[en]at tg;exact absurd (show 7<=3 from tg) (by decide)
variable (ZcP:MB P w K mg base (CX0) 9 ZeF ZiP ["self","bit"] (spPoHear3 CA))
include Zam ZG Zn ZL Zi ZC Zq Za Zb0 ZbF ZbP Zbw ZJ ZcN Zcu Zcg Zb6 in
theorem Zk2 (F0:Fun K "hear" "Post.hear" Zja ZeF ZiP):type_of% ZcP:=by
 refine mbM ["self","bit","told"] F0 fun Sc0=>F0.ok Sc0 (fun vs H Q E h=>?_) fun cdv A outer s H vs Q E hr h=>?_
 ·obtain⟨p,S,o,bt,rfl,_⟩:=h
  rfl
 obtain⟨p,S,o,bt,rfl,tg,⟨nw,ob,os,bd,st,dj,wf,inc,al⟩,hb,hu,q⟩:=h
 have nd:=Sc0.nd
 refine⟨_,(aF (aW (i:=2) nd rfl (Or.inl rfl) (pD (R:=fun C sp=>(C=CA.free/\sp=spStStep CA 0)\/(C=CA.speaks/\sp=spStStep CA 1)\/(C=CA.reads/\sp=spStStep CA 2)\/(C=CA.intail/\sp=spStStep CA 3)) (k:=8) (by
  rintro C sp (⟨rfl,rfl⟩ | ⟨rfl,rfl⟩ | ⟨rfl,rfl⟩ | ⟨rfl,rfl⟩)
  ·exact⟨_,_,_,ZL,Zb0,ZcN.1.mono (by decide),ZcN.2⟩
  ·exact⟨_,_,_,Zi,ZbF,Zcg.1.mono (by decide),Zcg.2⟩
  ·exact⟨_,_,_,ZC,ZbP,Zcu.1.mono (by decide),Zcu.2⟩
  ·exact⟨_,_,_,Zq,Zbw,Zb6.1.mono (by decide),Zb6.2⟩) (hr.mono (by decide)) aN (aO Za ZJ (dv 0)) (aA (dv 1) (aA (dv 0) aD)))) (aF (bJ Za ZJ (dv 0) (bG dG (dv 2) aJ (fun _ _=>rfl))) (aG (aM (bG dG (dv 2) aJ (fun _ _=>rfl)))))),?_⟩
 obtain⟨dp,ch,wl,ul,ct,ws,us,b⟩:=id bd
 have sa:=st.at_
 cases en:S.now
 case flag l m=>rw[en]at tg;exact absurd (show 4<=3 from tg) (by decide)
 case settles m=>rw[en]at tg;exact absurd (show 5<=3 from tg) (by decide)
 case rests l=>rw[en]at tg;exact absurd (show 6<=3 from tg) (by decide)
 case off=>rw[en]at tg;exact absurd (show 7<=3 from tg) (by decide)
 case' free k=>
  rw[en]at sa
  obtain⟨dd,hS⟩:=sa
  refine⟨dp,_,.ref nw,b.e,rfl,CA.free,dd,_,_,hS,rfl,.inl ⟨rfl,rfl⟩,nw,p,nw,S,ob,os,bt,rfl,(by rw[en];rfl),bd,st,dj,wf,hb,hu,fun t H' hs=>?_⟩
 case' speaks n ds k=>
  rw[en]at sa
  obtain⟨dd,wa,r,st2,ks,t0,hS,_⟩:=sa
  refine⟨dp,_,.ref nw,b.e,rfl,CA.speaks,dd,_,_,hS,rfl,.inr (.inl ⟨rfl,rfl⟩),nw,p,nw,S,ob,os,bt,rfl,(by rw[en];rfl),bd,st,dj,wf,hb,hu,fun t H' hs=>?_⟩
 case' reads h=>
  rw[en]at sa
  obtain⟨dd,r,st2,ks,t0,hS,_⟩:=sa
  refine⟨dp,_,.ref nw,b.e,rfl,CA.reads,dd,_,_,hS,rfl,.inr (.inr (.inl ⟨rfl,rfl⟩)),nw,p,nw,S,ob,os,bt,rfl,(by rw[en];rfl),bd,st,dj,wf,hb,hu,fun t H' hs=>?_⟩
 case' tlS v c=>
  rw[en]at sa
  obtain⟨dd,tl,hS,_⟩:=sa
  refine⟨dp,_,.ref nw,b.e,rfl,CA.intail,dd,_,_,hS,rfl,.inr (.inr (.inr ⟨rfl,rfl⟩)),nw,p,nw,S,ob,os,bt,rfl,(by rw[en];rfl),bd,st,dj,wf,hb,hu,fun t H' hs=>?_⟩
 case' tlR n ds v c=>
  rw[en]at sa
  obtain⟨dd,tl,tf,df,hS,_⟩:=sa
  refine⟨dp,_,.ref nw,b.e,rfl,CA.intail,dd,_,_,hS,rfl,.inr (.inr (.inr ⟨rfl,rfl⟩)),nw,p,nw,S,ob,os,bt,rfl,(by rw[en];rfl),bd,st,dj,wf,hb,hu,fun t H' hs=>?_⟩
 all_goals
  obtain⟨nw',ob',os',et,b',s',dj',mv⟩:=hs
  obtain⟨dp',ch',wl',ul',ct',ws',us',bb⟩:=id b'
  refine⟨_,_,SqT.of et,rfl,dp',_,bb.e,(show 6<1000 by decide),?_⟩
  obtain⟨hp1,hp2⟩:=vJ (A:=CA) wf hb b' s' dj' bb
  have et':upd H' p (.ins CA.post dp' (pF ch' (hearP S bt).2.vt wl' ul' ct' nw')) t=some (.tup [.str (hearP S bt).1,.ref nw']):=by rw[aL (fun z=>by rw[z,bb.e]at et;cases et)];exact et
  exact⟨_,_,SqT.of et',rfl,q _ (Or2 ob' os') hp1 ⟨fun x v ex z=>hp2 x v (mv.1 x v ex (z.imp_left fun y w=>y (inc x w))) (z.imp_left fun y w=>y (by have w':x=p:=w;rw[w'];exact inc p (.inl bd.op))),fun x hx=>(mv.2 x hx).imp_left (inc x)⟩⟩
variable (Zr:MB P w K mg base (CXR P w) 1 Zdg ZgI ["self","post"] (spRlPost Zm CA ZbH))
include ZK Z6 Zx Zb ZD ZT in
theorem ZjL (F0:Fun K "post_at" "Rail.post_at" ZgW Zdg ZgI):type_of% Zr:=by
 refine mbM ["self","post"] F0 fun Sc0=>F0.okR Sc0 (fun vs H Q E h=>?_) fun cdv A outer s H vs Q E hr h=>?_
 ·obtain⟨r,R,o,w,k,rfl,_⟩:=h
  rfl
 obtain⟨r,R,o,w,k,rfl,hR,q1,q2⟩:=h
 have nd:=Sc0.nd
 refine⟨_,(aF (bF (dN (pA pZ wC aJ (dv 1) (bB cH rfl Zx bU (aA (aO Zb ZD (dv 0)) aD)))) (aG (cF YM ZK ZT (aA aY aD))) aV) (aG (aM (bG bW (aO Zb ZD (dv 0)) (dv 1) (fun _ _=>rfl))))),?_⟩
 conv=>whnf
 refine bK (fun c=>?_) (fun c=>?_)
 ·have c1:0<=k:=dec_true c
  refine⟨w.dx,_,.ref w.PL,hR.er,rfl,_,.inl (SqL.of hR.ePL),?_⟩
  rw[Ya,hR.pl]
  conv=>whnf
  refine bK (fun d=>?_) (fun d=>?_)
  ·have d1:¬ k<((R.ps.length:Nat):Int):=fun z=>by
    have d2:(!decide (k<((R.ps.length:Nat):Int)))=true:=d
    rw[Yl z]at d2
    cases d2
   exact⟨aK rfl,q2 (fun z=>d1 z.2) _ (Same.refl _)⟩
  ·have d1:k<((R.ps.length:Nat):Int):=YB fun z=>d (by
    show (!decide (k<((R.ps.length:Nat):Int)))=true
    rw[Ym z];rfl)
   obtain⟨i,rfl⟩:=Y2 c1
   have hl:i<w.ps.length:=by rw[hR.pl];omega
   have hp:w.ps[i]? =some w.ps[i]:=Yb hl
   exact⟨w.dx,_,.ref w.PL,hR.er,rfl,_,_,SqL.of hR.ePL,bV (j:=i) (by rw[Yj,hp];rfl),q1 i _ rfl hp⟩
 ·have c1:¬ 0<=k:=dec_false c
  exact⟨aK rfl,q2 (fun z=>c1 z.1) _ (Same.refl _)⟩
variable (ZcT:MB P w K mg base (CXR P w) 9 ZeK ZiU ["self","choices","votes"] (spRlInit Zm CA ZbH))
include ZcX ZK Z6 Zej ZjH Zx Zb Zef ZD Z7 ZM Zag Zab ZP ZT ZcQ in
theorem Zk7 (F0:Fun K "__init__" "Rail.__init__" Zjf ZeK ZiU):type_of% ZcT:=by
 refine mbM ["self","choices","votes"] F0 fun Sc0=>F0.okR Sc0 (fun vs H Q E h=>?_) fun cdv A outer s H vs Q E hr h=>?_
 ·obtain⟨a,dx,cl,v,ms,rfl,_⟩:=h
  rfl
 obtain⟨a,dx,cl,v,ms,rfl,ea,hC,hl,q1,q2⟩:=h
 have nd:=Sc0.nd
 refine⟨_,(aF (bF (dN (pA pZ pZ aJ (bB cH rfl Zx bU (aA (dv 1) aD)) (bA (v:= .int 5) rfl Zej ⟨_,rfl⟩))) (aG (cF YM ZK ZT (aA aY aD))) aV) (aF (bJ Zb ZD (dv 0) (dH rfl (ix:=[2]) (cM (dv 1)) (fun C fp s0 H0 at0=>cG) (fun C fp s0 H0 at0=>(cA Zef ZcQ.1 (hr.mono (by decide)) rfl ZjH ZcQ.2 .nil (a6D (fun _ _ _ z=>z) at0) (aA (dv 0) (aA (dv 1) aD)))) rfl rfl (by rfl) (show ([".0","choice","votes"]:List Str).Nodup by decide +kernel))) (aF (bJ Zb Z7 (dv 0) xP) (aF (bJ Zb ZM (dv 0) (bN aD)) (aF (bJ Zb Zag (dv 0) (dH rfl (ix:=[]) (cM (dv 1)) (fun C fp s0 H0 at0=>cG) (fun C fp s0 H0 at0=>(bN aD)) rfl rfl (by rfl) (show ([".0","choice"]:List Str).Nodup by decide +kernel))) (aF (bJ Zb Zab (dv 0) (dH rfl (ix:=[]) (cM (dv 1)) (fun C fp s0 H0 at0=>cG) (fun C fp s0 H0 at0=>(bN aD)) rfl rfl (by rfl) (show ([".0","choice"]:List Str).Nodup by decide +kernel))) (aG (bJ Zb ZP (dv 0) (bN aD))))))))),?_⟩
 obtain⟨ts,ecl,tl,tt⟩:=hC
 have hcla:cl≠a:=fun z=>by rw[z,ea]at ecl;cases ecl
 have hta:∀(i:Nat)(t:Addr)(m:Int×Int),ts[i]? =some t->ms[i]? =some m->t≠a:=fun i t m h1 h2 z=>by have:=tt i t m h1 h2;rw[z,ea]at this;cases this
 refine⟨_,.inl (SqL.of ecl),?_⟩
 rw[Ya,tl]
 conv=>whnf
 refine bK (fun c=>?_) (fun c=>?_)
 rotate_left
 ·have c1:¬ (1:Int)<=((ms.length:Nat):Int):=dec_false c
  exact⟨aK rfl,q2 (fun z=>c1 (by have:=z.1.1;omega)) _ fun x u _ h=>h⟩
 have c1:(1:Int)<=((ms.length:Nat):Int):=dec_true c
 conv=>whnf
 refine bK (fun d=>?_) (fun d=>?_)
 ·have d1:¬ ((ms.length:Nat):Int)<=5:=fun z=>by
   have d2:(!decide (((ms.length:Nat):Int)<=5))=true:=d
   rw[Yl z]at d2
   cases d2
  exact⟨aK rfl,q2 (fun z=>d1 (by have:=z.1.2;omega)) _ fun x u _ h=>h⟩
 have d1:((ms.length:Nat):Int)<=5:=YB fun z=>d (by
  show (!decide (((ms.length:Nat):Int)<=5))=true
  rw[Ym z];rfl)
 have l5:ms.length<=5:=by omega
 refine⟨⟨_,SqL.of ecl⟩,cU (xs:=ts.map V.ref) (fun i ys H'=>∃(ps:List Addr)(op:Own),ys=ps.map V.ref/\ps.length=i/\Mk0 CA H a H' [(a,.ins Zm dx [])] ps ((ms.take i).map fun m=>S0 m.1.toNat m.2.toNat v.toNat) op/\∀m∈ms.take i,PoOk m.1 m.2 v) ?_ ?_ ?_ ?_ ?_⟩
 ·rintro i ys H' hi ⟨ps,op,rfl,hp,_⟩
  rw[Ya]at hi ⊢
  exact bI (by omega)
 ·exact⟨[],_,rfl,rfl,Mk0.base ea,fun m hm=>by simp at hm⟩
 ·rintro i ys H' hi ⟨ps,op,rfl,hp,mk,_⟩
  exact SqL.of (mk.kp _ _ hcla ecl)
 ·rintro i x ys H' hx ⟨ps,op,rfl,hp_,mk,hok⟩
  rw[Yj]at hx
  obtain⟨t,ht,rfl⟩:=YZ.mp hx
  have hil:i<ms.length:=by rw[<-tl];exact(Yg.mp ht).1
  have hm:ms[i]? =some ms[i]:=Yb hil
  have et:=mk.kp _ _ (hta i t _ ht hm) (tt i t _ ht hm)
  have tk:ms.take (i+1)=ms.take i++[ms[i]]:=Yf hil
  conv=>whnf
  refine fun p dp hp hdp hne=>⟨p,dp,t,_,_,v,rfl,aB,(by rw[aL (aQ et hp),aL (aQ et hdp)];exact et),fun ok H5 o hP hin hk=>⟨rfl,ps++[p],Or2 op o,by rw[Yk];rfl,by rw[Yc,hp_];rfl,?_,?_⟩,fun no H5 hk=>?_⟩
  ·rw[tk,Yk]
   exact mk.post hp hdp hP hin hk
  ·rw [tk]
   intro m hm'
   rcases YI.mp hm' with z | z
   ·exact hok m z
   ·rw[Yp]at z
    rw[z];exact ok
  ·refine q2 (fun z=>no (z.2 _ (YG hil))) H5 fun x u hx h=>?_
   have h':=mk.kp x u hx h
   exact hk x u (aQ h' hp) (by rw[aL (aQ h' hp),aL (aQ h' hdp)];exact h')
 rintro ys H1 ⟨ps,op,rfl,hp_,mk,hok⟩ PL hPL
 rw[Ya,tl,Yi (Yd _)]at mk hok
 have mk1:=Mk0.ins (L1:=[(a,.ins Zm dx [])]) (L2:=[]) (v:= .lst (ps.map V.ref)) (by simpa using mk) hPL
 refine⟨dx,_,mk1.cs.at_ 0 _ rfl,by decide,?_⟩
 have nI:∀{C d:Addr}{fs:List (Str×V)},¬ isT (.ins C d fs):=fun ⟨_,z⟩=>by cases z
 have mk2:=mk1.put (v':= .ins Zm dx (putF "posts" (.ref PL) [])) nI
 generalize upd (upd H1 PL _) a _=H2 at mk2
 intro OW hOW
 have mk3:=Mk0.ins (L1:=(a,.ins Zm dx [("posts",.ref PL)])::(PL,.lst (ps.map V.ref))::[]) (L2:=[]) (v:= .dK []) mk2 hOW
 refine⟨dx,_,mk3.cs.at_ 0 _ rfl,(show 1<1000 by decide),?_⟩
 have mk4:=mk3.put (v':= .ins Zm dx (putF "owners" (.ref OW) [("posts",.ref PL)])) nI
 generalize upd (upd H2 OW _) a _=H3 at mk4
 refine⟨aK rfl,fun BO hBO=>?_⟩
 have mk5:=Mk0.ins (L1:=(a,.ins Zm dx [("posts",.ref PL),("owners",.ref OW)])::(PL,.lst (ps.map V.ref))::(OW,.dK [])::[]) (L2:=[]) (v:= .lst []) mk4 hBO
 refine⟨dx,_,mk5.cs.at_ 0 _ rfl,(show 2<1000 by decide),?_⟩
 have mk6:=mk5.put (v':= .ins Zm dx (putF "borne" (.ref BO) [("posts",.ref PL),("owners",.ref OW)])) nI
 generalize upd (upd H3 BO _) a _=H4 at mk6
 obtain⟨o3,ho3⟩:∃o3:HO,o3= .ins Zm dx [("posts",.ref PL),("owners",.ref OW),("borne",.ref BO)]:=⟨_,rfl⟩
 have mk6':Mk0 CA H a H4 ((a,o3)::(PL,.lst (ps.map V.ref))::(OW,.dK [])::(BO,.lst [])::[]) ps (ms.map fun m=>S0 m.1.toNat m.2.toNat v.toNat) op:=by rw[ho3];exact mk6
 clear mk mk1 mk2 mk3 mk4 mk5 mk6
 refine⟨⟨_,SqL.of (mk6'.kp _ _ hcla ecl)⟩,cU (xs:=ts.map V.ref) (fun i ys H'=>∃sas:List Addr,ys=sas.map V.ref/\sas.length=i/\Mk0 CA H a H' ((a,o3)::(PL,.lst (ps.map V.ref))::(OW,.dK [])::(BO,.lst [])::lsC sas (List.replicate i [])) ps (ms.map fun m=>S0 m.1.toNat m.2.toNat v.toNat) op) ?_ ?_ ?_ ?_ ?_⟩
 ·rintro i ys H' hi ⟨sas,rfl,hp,_⟩
  rw[Ya]at hi ⊢
  exact bI (by omega)
 ·exact⟨[],rfl,rfl,mk6'⟩
 ·rintro i ys H' hi ⟨sas,rfl,hp,mk⟩
  exact SqL.of (mk.kp _ _ hcla ecl)
 ·rintro i x ys H' hx ⟨sas,rfl,hp,mk⟩
  conv=>whnf
  refine⟨aK rfl,fun s1 hs1=>⟨sas++[s1],by rw[Yk];rfl,by rw[Yc,hp];rfl,?_⟩⟩
  rw[pI i hp]
  exact Mk0.ins (L1:=(a,o3)::(PL,.lst (ps.map V.ref))::(OW,.dK [])::(BO,.lst [])::lsC sas (List.replicate i [])) (L2:=[]) (by rw[YJ];exact mk) hs1
 rintro ys H5 ⟨sas,rfl,hsl,mk7⟩ SA hSA
 rw[Ya,tl]at hsl mk7
 have mk8:=Mk0.ins (L1:=(a,o3)::(PL,.lst (ps.map V.ref))::(OW,.dK [])::(BO,.lst [])::[]) (L2:=lsC sas (List.replicate ms.length [])) (v:= .lst (sas.map V.ref)) mk7 hSA
 subst ho3
 refine⟨dx,_,mk8.cs.at_ 0 _ rfl,(show 3<1000 by decide),?_⟩
 have mk9:=mk8.put (v':= .ins Zm dx (putF "sayings" (.ref SA) [("posts",.ref PL),("owners",.ref OW),("borne",.ref BO)])) nI
 generalize upd (upd H5 SA _) a _=H6 at mk9
 obtain⟨o4,ho4⟩:∃o4:HO,o4= .ins Zm dx [("posts",.ref PL),("owners",.ref OW),("borne",.ref BO),("sayings",.ref SA)]:=⟨_,rfl⟩
 have mk9':Mk0 CA H a H6 ((a,o4)::(PL,.lst (ps.map V.ref))::(OW,.dK [])::(BO,.lst [])::(SA,.lst (sas.map V.ref))::lsC sas (List.replicate ms.length [])) ps (ms.map fun m=>S0 m.1.toNat m.2.toNat v.toNat) op:=by rw[ho4];exact mk9
 clear mk6' mk7 mk8 mk9
 refine⟨⟨_,SqL.of (mk9'.kp _ _ hcla ecl)⟩,cU (xs:=ts.map V.ref) (fun i ys H'=>∃hes:List Addr,ys=hes.map V.ref/\hes.length=i/\Mk0 CA H a H' ((a,o4)::(PL,.lst (ps.map V.ref))::(OW,.dK [])::(BO,.lst [])::(SA,.lst (sas.map V.ref))::(lsC sas (List.replicate ms.length [])++lsC hes (List.replicate i []))) ps (ms.map fun m=>S0 m.1.toNat m.2.toNat v.toNat) op) ?_ ?_ ?_ ?_ ?_⟩
 ·rintro i ys H' hi ⟨hes,rfl,hp,_⟩
  rw[Ya]at hi ⊢
  exact bI (by omega)
 ·exact⟨[],rfl,rfl,by rw[show lsC [] (List.replicate 0 [])= [] from rfl,YJ];exact mk9'⟩
 ·rintro i ys H' hi ⟨hes,rfl,hp,mk⟩
  exact SqL.of (mk.kp _ _ hcla ecl)
 ·rintro i x ys H' hx ⟨hes,rfl,hp,mk⟩
  conv=>whnf
  refine⟨aK rfl,fun s1 hs1=>⟨hes++[s1],by rw[Yk];rfl,by rw[Yc,hp];rfl,?_⟩⟩
  rw[pI i hp,<-Yy]
  exact Mk0.ins (L1:=(a,o4)::(PL,.lst (ps.map V.ref))::(OW,.dK [])::(BO,.lst [])::(SA,.lst (sas.map V.ref))::(lsC sas (List.replicate ms.length [])++lsC hes (List.replicate i []))) (L2:=[]) (by rw[YJ];exact mk) hs1
 rintro ys H7 ⟨hes,rfl,hhl,mk10⟩ HE hHE
 rw[Ya,tl]at hhl mk10
 have mk11:=Mk0.ins (L1:=(a,o4)::(PL,.lst (ps.map V.ref))::(OW,.dK [])::(BO,.lst [])::(SA,.lst (sas.map V.ref))::[]) (L2:=lsC sas (List.replicate ms.length [])++lsC hes (List.replicate ms.length [])) (v:= .lst (hes.map V.ref)) mk10 hHE
 subst ho4
 refine⟨dx,_,mk11.cs.at_ 0 _ rfl,(show 4<1000 by decide),?_⟩
 have mk12:=mk11.put (v':= .ins Zm dx (putF "hearings" (.ref HE) [("posts",.ref PL),("owners",.ref OW),("borne",.ref BO),("sayings",.ref SA)])) nI
 generalize upd (upd H7 HE _) a _=H8 at mk12
 refine⟨aK rfl,fun EV hEV=>?_⟩
 have mk13:=Mk0.ins (L1:=(a,.ins Zm dx [("posts",.ref PL),("owners",.ref OW),("borne",.ref BO),("sayings",.ref SA),("hearings",.ref HE)])::(PL,.lst (ps.map V.ref))::(OW,.dK [])::(BO,.lst [])::(SA,.lst (sas.map V.ref))::(HE,.lst (hes.map V.ref))::[]) (L2:=lsC sas (List.replicate ms.length [])++lsC hes (List.replicate ms.length [])) (v:= .lst []) mk12 hEV
 refine⟨dx,_,mk13.cs.at_ 0 _ rfl,(show 5<1000 by decide),?_⟩
 have mk14:=mk13.put (v':= .ins Zm dx (putF "happened" (.ref EV) [("posts",.ref PL),("owners",.ref OW),("borne",.ref BO),("sayings",.ref SA),("hearings",.ref HE)])) nI
 generalize upd (upd H8 EV _) a _=H9 at mk14
 have mk15:Mk0 CA H a H9 (railL Zm a ⟨dx,PL,OW,BO,SA,HE,EV,ps,sas,hes, [],op⟩ (R0 ms v)) ps (R0 ms v).ps op:=mk14
 obtain⟨o,hR,hn⟩:=mk15.fin hsl hhl l5
 exact q1 ⟨⟨by omega,l5⟩,hok⟩ H9 o hR hn mk15.kp
variable (ZaU:MB P w K mg base (CXR P w) 9 ZeJ ZiT ["self","post","name","data"] (spRlHand K Zm CA ZbH Zcy ZfI))
include Zn ZK Z6 ZcK Za Zb Zl Zb1 Z7 Zc3 Zv ZcO Zr in
theorem Zk6 (F0:Fun K "hand" "Rail.hand" Zje ZeJ ZiT):type_of% ZaU:=by
 refine mbM ["self","post","name","data","taker"] F0 fun Sc0=>F0.okR Sc0 (fun vs H Q E h=>?_) fun cdv A outer s H vs Q E hr h=>?_
 ·obtain⟨r,R,o,w,k,n,a,ds,rfl,_⟩:=h
  rfl
 obtain⟨r,R,o,w,k,n,a,ds,rfl,hR,hS,hl,how,hwt,q1,q2,q3⟩:=h
 have nd:=Sc0.nd
 refine⟨_,(aF (aW (i:=4) nd rfl (Or.inl rfl) (bH Zb Zl Zr.1 (hr.mono (by decide)) Zr.2 .nil (dO fun _ _ _ z=>z) (dv 0) (aA (dv 1) aD))) (aF (aZ (aP Zv.1 (hr.mono (by decide)) rfl Zv.2.2.2 Zv.2.2.1 Zv.2.1 .nil (dO fun _ _ _ z=>z) (aA (dv 2) (aA (dv 3) aD)))) (aF (bF (aX iU (xQ (a3F hr) (aO Zb Z7 (dv 0)) (dv 2) (dv 1) ⟨rfl,rfl,rfl,rfl⟩) (dv 1) (aR _)) (aG (cF YM ZcK Zc3 (aA aY aD))) aV) (aF (a1H (a3F hr) (aO Zb Z7 (dv 0)) (dv 2) (dv 1) rfl) (aG (aZ (bH Za Zb1 ZcO.1 (hr.mono (by decide)) ZcO.2 .nil (dO fun _ _ _ z=>z) (dv 4) (aA (dv 2) (aA (dv 3) aD))))))))),?_⟩
 refine⟨⟨w.dx,_,hR.er,rfl⟩,r,R,o,w,k,rfl,hR,fun i p e hp=>?_,fun no H1 g1=>q1 no H1 g1⟩
 subst e
 obtain⟨S,oi,eS,hP,le,back⟩:=hR.step hp
 have hil:i<R.ps.length:=(Yg.mp eS).1
 refine⟨n,a,ds,rfl,hS,hl,fun ok H1 g1=>?_,fun no H1 g1=>q2 ⟨by omega,by omega⟩ no H1 g1⟩
 obtain⟨j,ej,q4,q5⟩:=q3 i S rfl eS ok
 have hR1:=hR.same g1
 refine⟨w.dx,_,.ref w.OW,hR1.er,rfl,w.OW,rfl,.inl ⟨_,.inl hR1.eOW⟩,_,.inl ⟨_,.inl n,.inl hR1.eOW,rfl,rfl⟩,?_⟩
 rw[ej]
 conv=>whnf
 refine bK (fun c=>?_) (fun c=>?_)
 ·have c1:¬ j=((i:Nat):Int):=fun z=>by
   have c2:(!decide (j=((i:Nat):Int)))=true:=c
   rw[Yl z]at c2
   cases c2
  exact⟨aK rfl,q4 c1 _ g1⟩
 have c1:j=((i:Nat):Int):=YB fun z=>c (by
  show (!decide (j=((i:Nat):Int)))=true
  rw[Ym z];rfl)
 refine⟨w.dx,_,.ref w.OW,hR1.er,rfl,w.OW,_,rfl,.inl ⟨_,.inl n,hR1.eOW,rfl,bI (by omega),rfl⟩,?_⟩
 obtain⟨hR2,m2⟩:=hR1.put (k:=2) (R':={ R with ow:=putK R.ow (.inl n) (.int ((i:Nat):Int)) }) (w':=w) rfl a6L rfl rfl rfl rfl rfl rfl rfl rfl hR1.ev
 have hS2:=a0V (v:= .dK (putK R.ow (.inl n) (.int ((i:Nat):Int)))) (g1.seq hS) hR1.eOW
 generalize upd H1 w.OW _=H2 at hR2 m2 hS2
 obtain⟨S2,oi2,eS2,hP2,le2,back2⟩:=hR2.step hp
 have ee:S2=S:=Yt (eS2.symm.trans eS)
 subst ee
 obtain⟨dq,ch,vt',wl_,ul,cc,nw,ep⟩:=hP2.cell
 obtain⟨nw5,ob5,bd5,fin5⟩:=hP2.hand
 refine⟨⟨dq,_,ep,rfl⟩,p,nw5,S2,ob5,n,a,ds,rfl,bd5,hS2,hl,hwt _ (Yw eS),fun _ H3 d hd b k=>?_,fun no=>absurd ok no⟩
 obtain⟨o3,hP3,mv3⟩:=fin5 ok H3 d hd b k
 obtain⟨o',op',hR3,m3⟩:=back2 H3 o3 _ mv3 hP3
 exact q5 c1 H3 o' ⟨_,hR3⟩ ((Mv.of g1).trans (m2.trans m3))
variable (Za7:MB P w K mg base (CX0) 12 ZcE ZfS ["self","hearing"] (spRlMake K Zm CA (spcW Zbn)))
include Zam ZG Zn Z6 ZB Zx Zhd ZeR Za Zb Zb3 Zb2 ZD ZM Zag Zab ZP ZaX ZcR ZcP in
theorem ZiI (F0:Fun K "make_turn" "Rail.make_turn" ZfY ZcE ZfS):type_of% Za7:=by
 refine mbM ["self","hearing","said","bit","heard","post","own","word"] F0 fun Sc0=>F0.ok Sc0 (fun vs H Q E h=>?_) fun cdv A outer s H vs Q E hr h=>?_
 ·obtain⟨r,R,o,w,f,hs,rfl,_⟩:=h
  rfl
 obtain⟨r,R,o,w,f,hs,rfl,hR,ne,sz,hfr,q⟩:=h
 have nd:=Sc0.nd
 refine⟨_,(aF (cZ (j:=2) nd rfl rfl rfl (ix:=[]) (cM (aO Zb ZD (dv 0))) (fun C fp s0 H0 at0=>cG) (fun C fp s0 H0 at0=>(bD Za Zb3 ZcR.1 (hr.mono (by decide)) ZcR.2 .nil aN (dv 0))) rfl rfl (by rfl) (show ([".0","post"]:List Str).Nodup by decide +kernel)) (aF (aW (i:=3) nd rfl (Or.inr rfl) (bB (wB rfl) rfl Zhd a0G (aA (dv 2) aD))) (aF (cZ (j:=4) nd rfl rfl rfl (ix:=[1,0,3]) (bT rfl ZB (aA (bB cH rfl Zx bU (aA (aO Zb ZD (dv 0)) aD)) aD)) (fun C fp s0 H0 at0=>cG) (fun C fp s0 H0 at0=>(xT (K:=K) (uC ZaX.1 ZaX.2.1) (hr.mono (by decide)) (pv 1) (aA (dv 0) (aA (bB (a3K (K:=K)) rfl Zx bU (aA (aO Zb ZM (dv 2)) aD)) (aA (dv 3) aD))))) rfl rfl (by rfl) (show ([".0","post","hearing","self","bit"]:List Str).Nodup by decide +kernel)) (aF (cO YR rfl (a1Z rfl ZeR (aA (aO Zb ZD (dv 0)) aD)) (mg2 (a3Z rfl (oR (cC (i:=5) nd rfl (Or.inl rfl)) (oR (cC (i:=6) nd rfl (Or.inl rfl)) a1M)))) (aF (aZ (bO (bG bW (aO Zb Zag (dv 0)) (dv 5) (fun _ _=>rfl)) (aA (bG bW (dv 2) (dv 5) (fun _ _=>rfl)) aD))) (aF (aZ (bO (bG bW (aO Zb Zab (dv 0)) (dv 5) (fun _ _=>rfl)) (aA (bG bW (dv 4) (dv 5) (fun _ _=>rfl)) aD))) (aF (aW (i:=7) nd rfl (Or.inl rfl) (bH Za Zb2 ZcP.1 (hr.mono (by decide)) ZcP.2 .nil aN (dv 6) (aA (bG bW (dv 4) (dv 5) (fun _ _=>rfl)) aD))) (aG (bF (aX iU (dv 7) aY (aR _)) (aG (aZ (bO (aO Zb ZP (dv 0)) (aA (bQ (aA (bB cH rfl Zx bU (aA (aO Zb ZM (dv 0)) aD)) (aA (dv 5) (aA (dv 7) aD)))) aD)))) aV)))))) (aF (aZ (bO (aO Zb ZM (dv 0)) (aA (dv 3) aD))) (aG (aM (dv 3)))))))),?_⟩
 refine⟨w.dx,_,.ref w.PL,hR.er,rfl,⟨_,SqL.of hR.ePL⟩,cU (xs:=w.ps.map V.ref) (fun i ys H'=>Same H H'/\ys=((R.ps.take i).map saysP).map V.int) ?_ ?_ ?_ ?_ ?_⟩
 ·rintro i ys H' hi ⟨g,rfl⟩
  rw[Ya,Ya,Yo]
  have:=hR.lp
  exact bI (by omega)
 ·exact⟨Same.refl _,rfl⟩
 ·rintro i ys H' hi ⟨g,rfl⟩
  exact SqL.of (g _ _ hR.ePL)
 ·rintro i x ys H' hx ⟨g,rfl⟩
  rw[Yj]at hx
  obtain⟨p,hp,rfl⟩:=YZ.mp hx
  obtain⟨S,oi,eS,hP,_⟩:=(hR.same g).step hp
  obtain⟨dq,ch,vt',wl_,ul,cc,nw,ep⟩:=hP.cell
  obtain⟨hil,eS'⟩:=Yg.mp eS
  have tk:R.ps.take (i+1)=R.ps.take i++[S]:=by rw[Yf hil,eS']
  conv=>whnf
  refine⟨⟨dq,_,ep,rfl⟩,p,S,oi,rfl,hfr S (Yw eS),hP,g,?_⟩
  rw[tk,Yk,Yk]
  rfl
 rintro ys H1 ⟨g1,rfl⟩ sd hsd
 rw[Ya,hR.pl,Yi (Yd _)]
 have g2:=aH hsd (.lst ((R.ps.map saysP).map V.int))
 have esd:=aB (H:=H1) (a:=sd) (o:= .lst ((R.ps.map saysP).map V.int))
 generalize upd H1 sd _=H2 at g2 esd
 refine⟨_,SqL.of esd,fun z=>ne (by simpa using z),fun b bm bl=>?_⟩
 obtain⟨hh,h01,q⟩:=q b ⟨bm,bl⟩
 have hR2:=hR.same (g1.trans g2)
 have lp:=hR.lp
 refine⟨w.dx,_,.ref w.PL,hR2.er,rfl,_,.inl (SqL.of hR2.ePL),?_⟩
 rw[Ya,hR2.pl]
 refine⟨⟨by omega,by omega⟩,?_⟩
 rw[YD]
 refine cQ (lo:=0) (n:=R.ps.length) (fun i ys H'=>Same H2 H'/\ys=((List.range i).map (hs b)).map V.int) ?_ ?_ ?_ ?_
 ·rintro i ys H' hi ⟨g,rfl⟩
  rw[Ya,Ya,YU]
  exact bI (by omega)
 ·exact⟨Same.refl _,rfl⟩
 ·rintro i ys H' hi ⟨g,rfl⟩
  have hR3:=hR2.same g
  obtain⟨f1,f2⟩:=hh i hi H' ((g1.trans g2).trans g)
  conv=>whnf
  rw[Xo]
  refine⟨f,rfl,f1,w.dx,_,.ref w.BO,hR3.er,rfl,_,.inl (SqL.of hR3.eBO),f1,?_⟩
  rw[Ya]
  refine f2 _ fun H4 g4=>⟨g.trans g4,?_⟩
  rw[X8,Yk,Yk]
  rfl
 rintro ys H3 ⟨g3,rfl⟩ hd hhd
 have esd3:=g3 _ _ esd
 have hR3:=(hR2.same g3).same (aH hhd (.lst (((List.range R.ps.length).map (hs b)).map V.int)))
 have esd4:=aH hhd (.lst (((List.range R.ps.length).map (hs b)).map V.int)) _ _ esd3
 have ehd:=aB (H:=H3) (a:=hd) (o:= .lst (((List.range R.ps.length).map (hs b)).map V.int))
 have gs:Same H (upd H3 hd (.lst (((List.range R.ps.length).map (hs b)).map V.int))):=((g1.trans g2).trans g3).trans (aH hhd _)
 have nsd:¬ o sd:=fun z=>by
  have:=hR.al sd z
  cases e:H sd with
  |none=>exact this e
  |some u=>rw[g1 _ _ e]at hsd;cases hsd
 have nhd:¬ o hd:=fun z=>by
  have:=hR.al hd z
  cases e:H hd with
  |none=>exact this e
  |some u=>rw[g3 _ _ ((g1.trans g2) _ _ e)]at hhd;cases hhd
 generalize upd H3 hd _=H4 at hR3 esd4 ehd gs
 obtain⟨HS,eHS⟩:∃HS,HS=(List.range R.ps.length).map (hs b):=⟨_,rfl⟩
 rw[<-eHS]at ehd q
 have hsi:∀i,i<R.ps.length->HS[i]? =some (hs b i):=fun i hi=>by rw[eHS,Yj,List.getElem?_range hi];rfl
 refine⟨w.dx,_,.ref w.PL,hR3.er,rfl,⟨_,SqL.of hR3.ePL⟩,zN (xs:=w.ps.map V.ref) (a:=w.PL) (fun i σ H'=>∃(o' op:Own)(evs:List V)(x5 x6 x7:Option V),σ= [some (.ref r),some (.ref f),some (.ref sd),some (.int b),some (.ref hd),x5,x6,x7]/\RlAt Zm CA H' r (halfP R HS i) o' { w with op:=op,evs:=evs }/\Mv o H4 o' H') ⟨o,w.op,w.evs,_,_,_,rfl,hR3,Mv.refl⟩ ?_ ?_ ?_⟩
 ·rintro i σ H' hi ⟨o',op,evs,x5,x6,x7,rfl,hRi,m⟩
  exact SqL.of hRi.ePL
 ·rintro i x σ H' pr hx ⟨o',op,evs,x5,x6,x7,rfl,hRi,m⟩ hpr
  rw[Yj]at hx
  obtain⟨p,hp,rfl⟩:=YZ.mp hx
  have hil:i<R.ps.length:=by rw[<-hR.pl];exact(Yg.mp hp).1
  obtain⟨h1,h2,h3,h4,h5,h6,h7⟩:=eG R HS i
  obtain⟨h6a,h6b,h6c⟩:=h6 i (Yd _)
  have hsl:=hR.l2
  have hhl:=hR.l4
  have eS:R.ps[i]? =some R.ps[i]:=Yb hil
  have eX:R.sa[i]? =some (R.sa[i]'(by omega)):=Yb (by omega)
  have eY:R.he[i]? =some (R.he[i]'(by omega)):=Yb (by omega)
  have zX:=sz.sa _ (YG (show i<R.sa.length by omega))
  have zY:=sz.he _ (YG (show i<R.he.length by omega))
  have zU:=sz.up _ (YG hil)
  have zE:=sz.ev
  have zB:=sz.bo
  have hsuc:=gG eS (hsi i hil) eX eY
  generalize R.ps[i]=S at eS hsuc zU
  generalize R.sa[i]'(by omega)=X at eX hsuc zX
  generalize R.he[i]'(by omega)=Y at eY hsuc zY
  have hRp:=hRi.same (aH hpr (.tup [.int ((i:Nat):Int),.ref p]))
  have mp:=m.trans (Mv.of (aH hpr (.tup [.int ((i:Nat):Int),.ref p])))
  refine⟨_,_,SqT.of aB,?_⟩
  generalize upd H' pr _=H5 at hRp mp
  obtain⟨a1,ha1,ka1⟩:=hRp.sa_at (h6b.trans eX)
  have ea1:=hRp.cs.at_ _ _ ka1
  have ks:∀{o1:Own}{H1:Hp},Mv o H4 o1 H1->¬ o1 sd/\¬ o1 hd/\H1 sd=some (.lst ((R.ps.map saysP).map V.int))/\H1 hd=some (.lst (HS.map V.int)):=fun mm=>⟨fun z=>(mm.2 _ z).elim nsd fun y=>(by rw[esd4]at y;cases y),fun z=>(mm.2 _ z).elim nhd fun y=>(by rw[ehd]at y;cases y),mm.1 _ _ esd4 (.inl nsd),mm.1 _ _ ehd (.inl nhd)⟩
  have sdi:atI ((R.ps.map saysP).map V.int) ((i:Nat):Int)=some (.int (saysP S)):=bV (by rw[Yj,Yj,eS];rfl)
  have hdi:atI (HS.map V.int) ((i:Nat):Int)=some (.int (hs b i)):=bV (by rw[Yj,hsi i hil];rfl)
  refine⟨w.dx,_,.ref w.SA,hRp.er,rfl,_,.ref a1,SqL.of hRp.eSA,bV (by rw[Yj,ha1];rfl),⟨_,SqL.of ea1⟩,_,_,SqL.of (ks mp).2.2.1,sdi,_,ea1,bI (by rw[Ya];omega),?_⟩
  obtain⟨hR6,m6⟩:=hRp.say (b:=saysP S) (h6b.trans eX) ha1
  have mq:=mp.trans m6
  generalize upd H5 a1 _=H6 at hR6 m6 mq
  obtain⟨b1,hb1,kb1⟩:=hR6.he_at (i:=i) (xs:=Y) (h6c.trans eY)
  have eb1:=hR6.cs.at_ _ _ kb1
  refine⟨w.dx,_,.ref w.HE,hR6.er,rfl,_,.ref b1,SqL.of hR6.eHE,bV (by rw[Yj,hb1];rfl),⟨_,SqL.of eb1⟩,_,_,SqL.of (ks mq).2.2.2,hdi,_,eb1,bI (by rw[Ya];omega),?_⟩
  obtain⟨hR7,m7⟩:=hR6.hrd (i:=i) (xs:=Y) (b:=hs b i) (h6c.trans eY) hb1
  have mr:=mq.trans m7
  generalize upd H6 b1 _=H7 at hR7 m7 mr
  obtain⟨S',oi,eS',hP,_,back⟩:=hR7.step hp
  have es:S'=S:=Yt (eS'.symm.trans (h6a.trans eS))
  subst es
  obtain⟨dq,ch,vt',wl_,ul,cc,nw,ep⟩:=hP.cell
  refine⟨⟨dq,_,ep,rfl⟩,_,_,SqL.of (ks mr).2.2.2,hdi,p,S',oi,_,rfl,hfr S' (Yw eS),hP,h01 i,zU,fun H8 oi' hP8 m8=>?_⟩
  obtain⟨o8,op8,hR8,m8'⟩:=back H8 oi' _ m8 hP8
  have ms:=mr.trans m8'
  have eR:halfP R HS (i+1)={ ({ halfP R HS i with ps:=(halfP R HS i).ps.set i (hearP S' (hs b i)).2,sa:=(halfP R HS i).sa.set i (X++[saysP S']),he:=(halfP R HS i).he.set i (Y++[hs b i]) }:RS) with ev:=(halfP R HS i).ev++evt R.bo.length i (hearP S' (hs b i)).1 }:=hsuc
  obtain⟨wd,ewd⟩:∃wd,wd=(hearP S' (hs b i)).1:=⟨_,rfl⟩
  rw[<-ewd]at eR ⊢
  conv=>whnf
  refine bK (fun c=>?_) (fun c=>?_)
  ·have c1:wd≠"":=fun z=>by
    have c2:(!decide (wd=""))=true:=c
    rw[Yl z]at c2
    cases c2
   refine⟨w.dx,_,.ref w.EV,hR8.er,rfl,⟨_,SqL.of hR8.eEV⟩,w.dx,_,.ref w.BO,hR8.er,rfl,_,.inl (SqL.of hR8.eBO),?_⟩
   refine⟨aK rfl,fun t ht=>?_⟩
   have hR9:=hR8.same (aH ht (.tup [.int ((((halfP R HS i).bo.map V.int).length:Nat):Int),.int ((i:Nat):Int),.str wd]))
   have mt:=ms.trans (Mv.of (aH ht (.tup [.int ((((halfP R HS i).bo.map V.int).length:Nat):Int),.int ((i:Nat):Int),.str wd])))
   have et:=aB (H:=H8) (a:=t) (o:= .tup [.int ((((halfP R HS i).bo.map V.int).length:Nat):Int),.int ((i:Nat):Int),.str wd])
   refine⟨_,hR9.eEV,bI (by have:=hR9.ev.len;have h7':evs.length=(halfP R HS i).ev.length:=this;show evs.length<=1000;omega),?_⟩
   rw[Ya,h1]at et
   obtain⟨hR10,m10⟩:=hR9.happen (e:=(R.bo.length,i,wd)) (by rw[Ya,h1];exact et)
   refine⟨o8,op8,evs++[.ref t],_,_,_,rfl,?_,mt.trans m10⟩
   rw[eR,show evt R.bo.length i wd= [(R.bo.length,i,wd)] from if_neg c1]
   exact hR10
  ·have c1:wd="":=YB fun z=>c (by
    show (!decide (wd=""))=true
    rw[Ym z];rfl)
   refine⟨o8,op8,evs,_,_,_,rfl,?_,ms⟩
   rw[eR,show evt R.bo.length i wd= [] from if_pos c1,YJ]
   exact hR8
 rintro σ H5 ⟨o5,op,evs,x5,x6,x7,rfl,hR5,m5⟩
 rw[Ya,hR.pl]at hR5
 have zB:=sz.bo
 obtain⟨h1,_⟩:=eG R HS R.ps.length
 refine⟨w.dx,_,.ref w.BO,hR5.er,rfl,⟨_,SqL.of hR5.eBO⟩,_,hR5.eBO,bI (by rw[Ya,h1];omega),?_⟩
 obtain⟨hR6,m6⟩:=hR5.bear (b:=b)
 refine q _ o5 ⟨{ w with op:=op,evs:=evs },?_⟩ ((Mv.of gs).trans (m5.trans m6))
 have eT:turnP R HS b={ halfP R HS R.ps.length with bo:=(halfP R HS R.ps.length).bo++[b] }:=by unfold turnP;rw[h1]
 rw[eT]
 exact hR6
variable (Zca:MB P w K mg base (CX0) 1 ZdA Zhl ["self"] (spRlEvents Zm CA))
include Z6 ZaD Zb ZP in
theorem Zj6 (F0:Fun K "events" "Rail.events" ZhG ZdA Zhl):type_of% Zca:=by
 refine mbM ["self"] F0 fun Sc0=>F0.ok Sc0 (fun vs H Q E h=>?_) fun cdv A outer s H vs Q E hr h=>?_
 ·obtain⟨r,R,o,w,rfl,_⟩:=h
  rfl
 obtain⟨r,R,o,w,rfl,hR,q⟩:=h
 have nd:=Sc0.nd
 refine⟨_,(aG (aM (cR dM rfl ZaD fC (aA (aO Zb ZP (dv 0)) aD)))),?_⟩
 exact⟨w.dx,_,.ref w.EV,hR.er,rfl,_,.inl (SqL.of hR.eEV),q⟩
variable (Zcc:MB P w K mg base (CXR P w) 9 ZdC Zhn ["self","post"] (spAskE Zm CA ZbH gStance))
include ZK Z6 Za Zb Zl Zbz Zb9 Zr in
theorem Zj8 (F0:Fun K "stance" "Rail.stance" ZhI ZdC Zhn):type_of% Zcc:=by
 refine mbM ["self","post"] F0 fun Sc0=>F0.okR Sc0 (fun vs H Q E h=>?_) fun cdv A outer s H vs Q E hr h=>?_
 ·obtain⟨r,R,o,w,k,rfl,_⟩:=h
  rfl
 obtain⟨r,R,o,w,k,rfl,hR,q1,q2⟩:=h
 have nd:=Sc0.nd
 refine⟨_,(aG (aM (bD Za Zbz Zb9.1 (hr.mono (by decide)) Zb9.2 .nil aN (bH Zb Zl Zr.1 (hr.mono (by decide)) Zr.2 .nil (dO fun _ _ _ z=>z) (dv 0) (aA (dv 1) aD))))),?_⟩
 refine⟨⟨w.dx,_,hR.er,rfl⟩,r,R,o,w,k,rfl,hR,fun i p e hp=>?_,fun no H1 g1=>q2 no H1 g1⟩
 obtain⟨S,oi,eS,hP,_⟩:=hR.step hp
 have q:=q1 i S e eS
 obtain⟨dq,ch,vt',wl_,ul,cc,nw,ep⟩:=hP.cell
 obtain⟨nwb,ob,bd⟩:=hP.bd
 obtain⟨l0,en0⟩:=q.1
 exact⟨⟨dq,_,ep,rfl⟩,p,S,oi,l0,rfl,en0,hP,q.2⟩
variable (ZaF:MB P w K mg base (CXR P w) 9 Zd6 Zia ["self","post"] (spAskE Zm CA ZbH gWaits))
include ZK Z6 Za Zb Zl ZbN Zcs Zr in
theorem ZkA (F0:Fun K "waits" "Rail.waits" Zis Zd6 Zia):type_of% ZaF:=by
 refine mbM ["self","post"] F0 fun Sc0=>F0.okR Sc0 (fun vs H Q E h=>?_) fun cdv A outer s H vs Q E hr h=>?_
 ·obtain⟨r,R,o,w,k,rfl,_⟩:=h
  rfl
 obtain⟨r,R,o,w,k,rfl,hR,q1,q2⟩:=h
 have nd:=Sc0.nd
 refine⟨_,(aG (aM (bD Za ZbN Zcs.1 (hr.mono (by decide)) Zcs.2 .nil aN (bH Zb Zl Zr.1 (hr.mono (by decide)) Zr.2 .nil (dO fun _ _ _ z=>z) (dv 0) (aA (dv 1) aD))))),?_⟩
 refine⟨⟨w.dx,_,hR.er,rfl⟩,r,R,o,w,k,rfl,hR,fun i p e hp=>?_,fun no H1 g1=>q2 no H1 g1⟩
 obtain⟨S,oi,eS,hP,_⟩:=hR.step hp
 have q:=q1 i S e eS
 obtain⟨dq,ch,vt',wl_,ul,cc,nw,ep⟩:=hP.cell
 obtain⟨nwb,ob,bd⟩:=hP.bd
 exact⟨⟨dq,_,ep,rfl⟩,p,nwb,S,ob,rfl,bd,q⟩
variable (Zdb:MB P w K mg base (CXR P w) 9 Zfm ZjC ["self","post"] (spAskE Zm CA ZbH gGot))
include ZK Z6 Za Zb Zl Zck Zda Zr in
theorem Zls (F0:Fun K "got" "Rail.got" ZjT Zfm ZjC):type_of% Zdb:=by
 refine mbM ["self","post"] F0 fun Sc0=>F0.okR Sc0 (fun vs H Q E h=>?_) fun cdv A outer s H vs Q E hr h=>?_
 ·obtain⟨r,R,o,w,k,rfl,_⟩:=h
  rfl
 obtain⟨r,R,o,w,k,rfl,hR,q1,q2⟩:=h
 have nd:=Sc0.nd
 refine⟨_,(aG (aM (bD Za Zck Zda.1 (hr.mono (by decide)) Zda.2 .nil aN (bH Zb Zl Zr.1 (hr.mono (by decide)) Zr.2 .nil (dO fun _ _ _ z=>z) (dv 0) (aA (dv 1) aD))))),?_⟩
 refine⟨⟨w.dx,_,hR.er,rfl⟩,r,R,o,w,k,rfl,hR,fun i p e hp=>?_,fun no H1 g1=>q2 no H1 g1⟩
 obtain⟨S,oi,eS,hP,_⟩:=hR.step hp
 have q:=q1 i S e eS
 obtain⟨dq,ch,vt',wl_,ul,cc,nw,ep⟩:=hP.cell
 obtain⟨nwb,ob,bd⟩:=hP.bd
 exact⟨⟨dq,_,ep,rfl⟩,p,nwb,S,ob,rfl,bd,q⟩
variable (Zcb:MB P w K mg base (CXR P w) 9 ZdB Zhm ["self","post"] (spAskE Zm CA ZbH gN))
include ZK Z6 Za Zb Zl Zbx Zb7 Zr in
theorem Zj7 (F0:Fun K "faults" "Rail.faults" ZhH ZdB Zhm):type_of% Zcb:=by
 refine mbM ["self","post"] F0 fun Sc0=>F0.okR Sc0 (fun vs H Q E h=>?_) fun cdv A outer s H vs Q E hr h=>?_
 ·obtain⟨r,R,o,w,k,rfl,_⟩:=h
  rfl
 obtain⟨r,R,o,w,k,rfl,hR,q1,q2⟩:=h
 have nd:=Sc0.nd
 refine⟨_,(aG (aM (bD Za Zbx Zb7.1 (hr.mono (by decide)) Zb7.2 .nil aN (bH Zb Zl Zr.1 (hr.mono (by decide)) Zr.2 .nil (dO fun _ _ _ z=>z) (dv 0) (aA (dv 1) aD))))),?_⟩
 refine⟨⟨w.dx,_,hR.er,rfl⟩,r,R,o,w,k,rfl,hR,fun i p e hp=>?_,fun no H1 g1=>q2 no H1 g1⟩
 obtain⟨S,oi,eS,hP,_⟩:=hR.step hp
 have q:=q1 i S e eS
 obtain⟨dq,ch,vt',wl_,ul,cc,nw,ep⟩:=hP.cell
 obtain⟨nwb,ob,bd⟩:=hP.bd
 exact⟨⟨dq,_,ep,rfl⟩,p,nwb,S,ob,rfl,bd,q⟩
variable (ZcS:MB P w K mg base (CX0) 1 ZeI ZiS ["self"] (spRlBits Zm CA))
include Z6 ZaD Zb ZM in
theorem Zk5 (F0:Fun K "bits" "Rail.bits" Zjd ZeI ZiS):type_of% ZcS:=by
 refine mbM ["self"] F0 fun Sc0=>F0.ok Sc0 (fun vs H Q E h=>?_) fun cdv A outer s H vs Q E hr h=>?_
 ·obtain⟨r,R,o,w,rfl,_⟩:=h
  rfl
 obtain⟨r,R,o,w,rfl,hR,q⟩:=h
 have nd:=Sc0.nd
 refine⟨_,(aG (aM (cR dM rfl ZaD fC (aA (aO Zb ZM (dv 0)) aD)))),?_⟩
 exact⟨w.dx,_,.ref w.BO,hR.er,rfl,_,.inl (SqL.of hR.eBO),q⟩
variable (Zdc:MB P w K mg base (CX0) 13 Zfn ZjD ["self","turns","hearing"] (spRlRun Zm CA))
include Z6 ZB Zee Zb Za0 ZaX Za7 in
theorem Zlt (F0:Fun K "run" "Rail.run" ZjU Zfn ZjD):type_of% Zdc:=by
 refine mbM ["self","turns","hearing","asked"] F0 fun Sc0=>F0.ok Sc0 (fun vs H Q E h=>?_) fun cdv A outer s H vs Q E hr h=>?_
 ·obtain⟨r,R,o,w,n,rfl,_⟩:=h
  rfl
 obtain⟨r,R,o,w,n,rfl,hR,ne,n5,sz,tg,q⟩:=h
 have nd:=Sc0.nd
 refine⟨_,(aF (aW (i:=3) nd rfl (Or.inr rfl) (bR (cL (aX a5U (dv 2) jT (aR _)) (bA (v:= .ref Zbn) rfl ZaX.2.2.2 rfl) (dv 2)))) (aG (aM (dH rfl (ix:=[0,3]) (bT rfl ZB (aA (dv 1) aD)) (fun C fp s0 H0 at0=>cG) (fun C fp s0 H0 at0=>(bH Zb Za0 Za7.1 (hr.mono (by decide)) Za7.2 .nil aN (dv 1) (aA (dv 2) aD))) rfl rfl (by rfl) (show ([".0","turn","self","asked"]:List Str).Nodup by decide +kernel))))),?_⟩
 refine⟨fun v H'=>v= .ref Zbn/\H=H',?_,?_⟩
 ·conv=>whnf
  exact⟨rfl,rfl⟩
 rintro v H1 ⟨rfl,rfl⟩
 refine⟨⟨by omega,by omega⟩,?_⟩
 rw[YD]
 refine cQ (lo:=0) (n:=n) (fun i ys H'=>∃o',RailAt Zm CA H' r (runR R i) o'/\Mv o H o' H'/\ys=((List.range i).map fun k=>bitP (runR R k)).map V.int) ?_ ?_ ?_ ?_
 ·rintro i ys H' hi ⟨o',_,_,rfl⟩
  rw[Ya,Ya,YU]
  exact bI (by omega)
 ·exact⟨o,⟨w,hR⟩,Mv.refl,rfl⟩
 ·rintro i ys H' hi ⟨o',⟨w',hR'⟩,mv,rfl⟩
  conv=>whnf
  refine⟨⟨w'.dx,_,hR'.er,rfl⟩,r,runR R i,o',w',Zbn,fun b _=>b,rfl,hR',fun z=>ne (List.length_eq_zero_iff.mp (by rw[<-oM R i,z];rfl)),sz i (by omega),tg i hi,fun b hb=>⟨fun j hj H2 g2=>⟨.inl Zee,fun Q1 k=>⟨rfl,_,_,_,rfl,k _ (Same.refl _)⟩⟩,fun _=>hR'.says54 hb.1,fun H3 o3 hR3 m3=>?_⟩⟩
  have eb:b=bitP (runR R i):=uY (fun z hz=>hR'.says54 hz) hb
  subst eb
  refine⟨o3,hR3,mv.trans m3,?_⟩
  rw[X8,Yk,Yk]
  rfl
 rintro ys H' ⟨o',hR',mv,rfl⟩ l hl
 exact q l H' o' hR' mv hl
structure Row where
 (st:Str) (k:Nat) (said bit:Int) (w:Str) (c:Int)
abbrev rowT (r:Row)(s:Addr):HO:= .tup [.ref s,.int r.said,.int r.bit,.str r.w,.int r.c]
abbrev stT (r:Row):HO:= .tup [.str r.st,.int ((r.k:Nat):Int)]
def RowAt (H:Hp)(v:V)(r:Row):Prop:=∃t s,v= .ref t/\H t=some (rowT r s)/\H s=some (stT r)
inductive RowsAt (H:Hp):List V->List Row->Prop
 |nil:RowsAt H [] []
 |cons {v:V} {r:Row} {vs:List V} {rs:List Row}:RowAt H v r->RowsAt H vs rs->RowsAt H (v::vs) (r::rs)
structure RL (H0 H:Hp)(L:Addr)(rs:List Row):Prop where
 fr:H0 L=none
 same:Same H0 H
 ex:∃ys,H L=some (.lst ys)/\RowsAt H ys rs
structure Tn (S:PS)(r:Row)(S':PS):Prop where
 sh:S.now.shown=(r.st,r.k)
 sa:saysP S=r.said
 bt:r.bit=0\/r.bit=1
 hr:hearP S r.bit=(r.w,S')
 ct:S'.tot=r.c
inductive Go:PS->List Row->PS->Prop
 |nil {S:PS}:Go S [] S
 |cons {S S1 S2:PS} {r:Row} {rs:List Row}:Tn S r S1->Go S1 rs S2->Go S (r::rs) S2
theorem Go.app {b:List Row}{S1 S2:PS}(h:Go S1 b S2):∀{a:List Row}{S:PS},Go S a S1->Go S (a++b) S2
 |_,_,.nil=>h
 |_,_,.cons t r=> .cons t (Go.app h r)
theorem Go.to {a b:List Row}{S S1 S2:PS}(h:Go S a S1)(k:Go S1 b S2):Go S (a++b) S2:=k.app h
theorem Go.one {S S1:PS}{r:Row}(t:Tn S r S1):Go S [r] S1:= .cons t .nil
theorem Go.range {f:Nat->Row}{s:Nat->PS}:∀m,(∀i,i<m->Tn (s i) (f i) (s (i+1)))->Go (s 0) ((List.range m).map f) (s m)
 |0,_=> .nil
 | m+1,h=>by
  rw[X8,Yk]
  exact(Go.range m fun i hi=>h i (by omega)).to (.one (h m (by omega)))
theorem oH {S:PS}{k:Nat}{f:Fr}{r:List Fr}(e:S.now= .free k)(h:S.wt=f::r)(hs:12<=S.tot->8<=k):Tn S ⟨"free",k,0,0,"begins",S.tot⟩ { S with now:= .speaks f.1 f.2 1 }:=by
 have sa:saysP S=0:=by rw[jN e,if_neg (by rw[h];intro z;cases z),if_neg (by intro z;have:=hs z.1;omega)]
 refine⟨by rw[e];rfl,sa,.inl rfl,?_,rfl⟩
 show hearP S 0=_
 rw[lU e,if_pos sa,if_pos rfl,h]
 rfl
theorem oG {S:PS}{n:Nat}{ds:List Int}{k:Nat}(e:S.now= .speaks n ds k)(hf:FrN (n,ds))(hk:k<(wr n ds).length):Tn S ⟨"speaks",k,(wr n ds).getD k 0,(wr n ds).getD k 0,"",S.tot⟩ { S with now:=if k+1=(wr n ds).length then .tlS 0 0 else .speaks n ds (k+1) }:=by
 have W:=gK hf
 have hg:(wr n ds).getD k 0=(wr n ds)[k]:=getD_get hk
 have et:(wr n ds).take k++[(wr n ds).getD k 0]=(wr n ds).take (k+1):=by rw[hg,Yf hk]
 refine⟨by rw[e];rfl,by unfold saysP;rw[e],?_,?_,rfl⟩
 ·show (wr n ds).getD k 0=0\/(wr n ds).getD k 0=1
  rw[hg]
  exact W.wbits _ (YG hk)
 show hearP S ((wr n ds).getD k 0)=_
 rw[fU e,et]
 have h6:¬ ans ((wr n ds).take (k+1))="six":=by
  by_cases c:k+1=(wr n ds).length
  ·rw[c,Yi (Yd _),W.whole];decide +kernel
  ·rw[W.more (by omega)];decide +kernel
 rw[if_neg h6,if_neg (by rintro ⟨z1,z2,_⟩;rw[z1]at z2;exact absurd z2 (by decide)),if_pos rfl]
 by_cases c:k+1=(wr n ds).length
 ·rw[if_pos c,if_pos c]
 ·rw[if_neg c,if_neg c]
def spWireT (K:W.Frag):Sp:=fun vs H Q _=>∃(f d:Addr)(n:Nat)(ds:List Int),vs= [.ref f]/\H f=some (.tup [.int ((n:Nat):Int),.ref d])/\H d=some (.lst (ds.map V.int))/\n<256/\ds.length<=7/\ds.all byt=true/\∀p H',H p=none->Same H H'->H' p=some (.lst ((put (fb (n:Int) ds)).map V.int))->Q (.ref p) H'
abbrev hd9 (l:List Int):List Int:=[1,0]++List.replicate 7 1++l
def nz (h:List Int):Nat->Nat
 |0=>0
 |i+1=>tlN i (h.getD i 0) (nz h i)
structure TL (s:Bool)(h:List Int)(vt:Nat):Prop where
 len:h.length=9+vt
 bits:Bits h
 one:∀i,i<9->i≠1->h.getD i 0=1
 ans:s=true->h.getD 1 0=0
theorem TL.more {s:Bool}{h:List Int}{vt i:Nat}(t:TL s h vt)(hi:i<8+vt):tlWord vt s i (nz h i) (h.getD i 0)="more":=by
 unfold tlWord
 by_cases c:9<=i
 ·rw[if_pos c]
  unfold tlVote
  exact if_pos (by omega)
 ·rw [if_neg c]
  refine if_neg ?_
  unfold tlFault
  by_cases d:i=1
  ·rw[if_pos d]
   cases s with
   |false=>rw[Bool.false_and];decide
   |true=>rw[d,t.ans rfl];decide
  ·rw[if_neg d,t.one i (by omega) d]
   decide
theorem TL.last {s:Bool}{h:List Int}{vt:Nat}(t:TL s h vt)(hv:1<=vt):tlWord vt s (8+vt) (nz h (8+vt)) (h.getD (8+vt) 0)=if vt / 2<nz h (9+vt) then ("refused":Str) else ("taken":Str):=by
 unfold tlWord
 rw[if_pos (by omega)]
 unfold tlVote
 rw[if_neg (by omega),show 9+vt=8+vt+1 by omega]
 rfl
theorem pN (l:List Int)(j:Nat):(hd9 l).getD (9+j) 0=l.getD j 0:=by
 rw[Ye,Ye]
 rw[Yz (by show 9<=9+j;omega)]
 show (l[9+j-9]?).getD 0=_
 rw[show 9+j-9=j by omega]
theorem qW (l:List Int):∀i,i<9->(hd9 l).getD i 0=if i=1 then 0 else 1:=by
 intro i hi
 have:(hd9 l).getD i 0=(hd9 []).getD i 0:=by
  rw[Ye,Ye,YH (by exact hi)]
  rfl
 rw[this]
 have h:∀i,i<9->(hd9 []).getD i 0=if i=1 then (0:Int) else 1:=by decide +kernel
 exact h i hi
theorem sY (l:List Int):(hd9 l).length=9+l.length:=by rw[Yc];rfl
theorem TL.of9 {l:List Int}{vt:Nat}(s:Bool)(hl:l.length=vt)(hb:Bits l):TL s (hd9 l) vt:=by
 refine⟨by rw[Yc,hl];rfl,fW ?_ hb,fun i hi h1=>by rw[qW l i hi,if_neg h1],fun _=>by rw[qW l 1 (by decide)];rfl⟩
 have h:∀z∈ [(1:Int),0]++List.replicate 7 1,z=0\/z=1:=by decide +kernel
 exact h
theorem nz9 (l:List Int):nz (hd9 l) 9=0:=by
 have h:∀i,i<=9->nz (hd9 l) i=0:=by
  intro i
  induction i with
  |zero=>intro _;rfl
  | succ i ih=>
   intro hi
   show tlN i _ (nz (hd9 l) i)=0
   rw[ih (by omega)]
   unfold tlN
   rw[if_neg (by rintro ⟨z,_⟩;omega)]
 exact h 9 (Yd _)
theorem oW (l:List Int):∀j,j<=l.length->nz (hd9 l) (9+j)=(l.take j).count 0
 |0,_=>by rw[Jd];exact nz9 l
 | j+1,h=>by
  have ih:=oW l j (by omega)
  show tlN (9+j) ((hd9 l).getD (9+j) 0) (nz (hd9 l) (9+j))=_
  rw[ih,pN,getD_get (by omega),Yf (by omega),List.count_append]
  unfold tlN
  by_cases c:l[j]=0
  ·rw[if_pos ⟨by omega,c⟩,c];rfl
  ·rw[if_neg (by rintro ⟨_,z⟩;exact c z),List.count_singleton,if_neg (by rw[XF];exact c)];rfl
theorem a4Q {l:List Int}{vt:Nat}(hl:l.length=vt):nz (hd9 l) (9+vt)=l.count 0:=by
 rw[<-hl,oW l _ (Yd _),Yi (Yd _)]
theorem a0P {S:PS}{n:Nat}{ds:List Int}{k:Nat}(hf:FrN (n,ds))(h1:1<=k)(hk:k<(wr n ds).length)(e:S.now= .reads ((wr n ds).take k)):Tn S ⟨"reads",k,1,(wr n ds).getD k 0,"",S.tot⟩ { S with now:=if k+1=(wr n ds).length then .tlR (nmB (kp (wr n ds))) (daB (kp (wr n ds))) 0 0 else .reads ((wr n ds).take (k+1)) }:=by
 have W:=gK hf
 have hg:(wr n ds).getD k 0=(wr n ds)[k]:=getD_get hk
 have et:(wr n ds).take k++[(wr n ds).getD k 0]=(wr n ds).take (k+1):=by rw[hg,Yf hk]
 refine⟨?_,by unfold saysP;rw[e],?_,?_,rfl⟩
 ·rw[e]
  show (("reads",((wr n ds).take k).length):Str×Nat)=_
  rw[Yo,Nat.min_eq_left (by omega)]
 ·show (wr n ds).getD k 0=0\/(wr n ds).getD k 0=1
  rw[hg]
  exact W.wbits _ (YG hk)
 show hearP S ((wr n ds).getD k 0)=_
 rw[kI e,et]
 by_cases c:k+1=(wr n ds).length
 ·rw[c,Yi (Yd _),W.whole,if_neg (by decide +kernel),if_pos rfl,if_pos rfl]
 ·rw[W.more (by omega),if_pos rfl,if_neg c]
structure Part (w1 w2:List Int)(k:Nat):Prop where
 tk:w1.take k=w2.take k
 h1:k<w1.length
 one:w1.getD k 0=1
 zero:w2.getD k 0=0
 k1:1<=k
 k16:k<=16
 nine:(kp (w1.take k)).length<9
theorem xU {c r1 r2:List Int}(h0:c≠ [])(h8:c.length<=8):Part (put (c++1::r1)) (put (c++0::r2)) (put c).length:=by
 obtain⟨s1,e1⟩:=Wm.put_pre c 1 r1
 obtain⟨s2,e2⟩:=Wm.put_pre c 0 r2
 have l:=fZ c
 have c1:1<=c.length:=List.length_pos_iff.mpr h0
 have t:∀(b:Int)(s:List Int),(put c++b::s).take (put c).length=put c:=fun b s=>by rw[YY (Yd _),Yi (Yd _)]
 have g:∀(b:Int)(s:List Int),(put c++b::s).getD (put c).length 0=b:=fun b s=>by rw[Ye,Yz (Yd _),XI];rfl
 rw[e1,e2]
 refine⟨by rw[t,t],by rw[Yc];show _<_+(s1.length+1);omega,g _ _,g _ _,by omega,by omega,?_⟩
 rw[t,yU]
 omega
theorem a0K {n1 n2 s:Nat}{ds1 ds2:List Int}(hs:s<8)(h:∀j,s<j->n1.testBit j=n2.testBit j)(h1:n1.testBit s=true)(h2:n2.testBit s=false):∃k,Part (wr n1 ds1) (wr n2 ds2) k:=by
 obtain⟨c,t1,t2,e1,e2,hc⟩:=Wm.bitsI_split hs h h1 h2
 have f:∀(n:Nat)(ds:List Int)(b:Int)(t:List Int),bitsI n 8=c++b::t->∃r,fb (n:Int) ds=(0::c)++b::r:=fun n ds b t e=>by
  refine⟨t++bitsI ds.length 3++(ds.map b8).flatten++ck (hd (n:Int) ds),?_⟩
  have eh:hd (n:Int) ds= [0]++b8 (n:Int)++bitsI ds.length 3++(ds.map b8).flatten:=rfl
  have e8:b8 (n:Int)=c++b::t:=by unfold b8;rw[YD];exact e
  show hd (n:Int) ds++ck (hd (n:Int) ds)=_
  generalize ck (hd (n:Int) ds)=z
  rw[eh,e8]
  simp only[Yy,List.cons_append,List.nil_append]
 obtain⟨r1,q1⟩:=f n1 ds1 1 t1 e1
 obtain⟨r2,q2⟩:=f n2 ds2 0 t2 e2
 refine⟨(put (0::c)).length,?_⟩
 show Part (put (fb (n1:Int) ds1)) (put (fb (n2:Int) ds2)) _
 rw[q1,q2]
 exact xU (by intro z;cases z) (by rw[YW];omega)
theorem sH (s:Bool)(vt:Nat):TL s (hd9 (List.replicate vt 1)) vt:=TL.of9 s YA fun z hz=> .inr (XS hz)
theorem sG (vt:Nat):nz (hd9 (List.replicate vt 1)) (9+vt)=0:=by
 rw[a4Q YA]
 exact List.count_eq_zero.mpr fun h=>by have:=XS h;cases this
theorem a3C:mvd 0 (-1)=0:=by decide
theorem yN {H1 H':Hp}{p dp:Addr}{v:HO}{o:Own}(hp:H1 p=none)(hdp:H1 dp=none)(hin:∀x,o x->x=p\/upd (upd H1 dp (.own p)) p v x=none)(hk:∀x u,x≠p->upd (upd H1 dp (.own p)) p v x=some u->H' x=some u):(∀x,o x->H1 x=none)/\Same H1 H':=by
 refine⟨fun x hx=>?_,fun x u e=>hk x u (aQ e hp) (by rw[aL (aQ e hp),aL (aQ e hdp)];exact e)⟩
 rcases hin x hx with h | h
 ·rw[h];exact hp
 ·by_cases c:x=p
  ·rw[c];exact hp
  ·rw[aL c]at h
   by_cases d:x=dp
   ·rw[d];exact hdp
   ·rw[aL d]at h;exact h
def evD (e:Nat×Nat×Str):PyData:= .tuple [.int ((e.1:Nat):Int),.int ((e.2.1:Nat):Int),.str e.2.2]
theorem EvsAt.dvs {K:W.Frag}{H:Hp}:∀{vs:List V}{es:List (Nat×Nat×Str)},EvsAt H vs es->DVs K H vs (es.map evD)
 |_,_,.nil=> .nil
 |_,_,.cons a r=> .cons (.tup (SqT.of a) (.cons (.int _) (.cons (.int _) (.cons (.str _) .nil)))) r.dvs
theorem qY (es:List (Nat×Nat×Str))(h:∀e∈es,PyData.strOk e.2.2=true):SeqAt.shaped (.list (es.map evD))=true:=rK fun d hd=>by
 obtain⟨e,he,rfl⟩:=Xg.mp hd
 have:=h e he
 unfold evD
 refine⟨?_,?_⟩
 ·simp only[PyData.canLay0,PyData.canLayAll0,this,Bool.true_and,Bool.and_true]
 ·simp only[PyData.depth,PyData.depthAll]
  decide
abbrev hd1 (vt:Nat):List Int:=hd9 (List.replicate vt 1)
def bt54 (w:List Int)(vt t:Nat):Int:=(w++hd1 vt).getD t 0
theorem kW {w:List Int}{vt t:Nat}(h:t<w.length):bt54 w vt t=w.getD t 0:=by
 unfold bt54
 rw[Ye,Ye,YH h]
theorem pY {w:List Int}{vt t:Nat}(h:¬ t<w.length):bt54 w vt t=(hd1 vt).getD (t-w.length) 0:=by
 unfold bt54
 rw[Ye,Ye,Yz (by omega)]
theorem on9 {vt j:Nat}(h:j<9+vt):(hd1 vt).getD j 0=if j=1 then 0 else 1:=by
 by_cases c:j<9
 ·exact qW _ j c
 ·rw[show j=9+(j-9) by omega,pN,getD_get (by rw[YA];omega),List.getElem_replicate,if_neg (by omega)]
theorem a5M {n:Nat}{ds:List Int}{vt t:Nat}(hf:FrN (n,ds))(h:t<(wr n ds).length+(9+vt)):bt54 (wr n ds) vt t=0\/bt54 (wr n ds) vt t=1:=by
 by_cases c:t<(wr n ds).length
 ·rw[kW c,getD_get c]
  exact(gK hf).wbits _ (YG c)
 ·rw[pY c,on9 (by omega)]
  by_cases d:t-(wr n ds).length=1
  ·exact .inl (if_pos d)
  ·exact .inr (if_neg d)
def stQ (S:PS)(n1:Nat)(ds1:List Int)(n:Nat)(ds:List Int)(k t:Nat):PS:=
 if t=0 then S else if t<=k then { S with now:= .speaks n1 ds1 t } else if t<(wr n ds).length then { S with now:= .reads ((wr n ds).take t) } else if t<(wr n ds).length+(9+S.vt) then { S with now:= .tlR n ds (t-(wr n ds).length) (nz (hd1 S.vt) (t-(wr n ds).length)) } else { S with up:=if wantP S n=true then S.up++[(n,ds)] else S.up,now:= .rests 3 }
def wdQ (k e t:Nat):Str:=if t=0 then "begins" else if t=k then "loses" else if t=e then "takes" else ""
theorem a3Q {S:PS}{n1 n:Nat}{ds1 ds:List Int}{k t:Nat}(e:S.now= .free 0)(hw:S.wt= [(n1,ds1)])(h0:S.tot=0)(hf1:FrN (n1,ds1))(hf:FrN (n,ds))(hv:1<=S.vt)(p:Part (wr n1 ds1) (wr n ds) k)(ht:t<(wr n ds).length+(9+S.vt)) :
  bt54 (wr n ds) S.vt t<=saysP (stQ S n1 ds1 n ds k t)/\(t=(wr n ds).length+1->saysP (stQ S n1 ds1 n ds k t)=0)/\hearP (stQ S n1 ds1 n ds k t) (bt54 (wr n ds) S.vt t)=(wdQ k ((wr n ds).length+(8+S.vt)) t,stQ S n1 ds1 n ds k (t+1)):=by
 have l2:=iC hf
 have hk2:k<(wr n ds).length:=by have:=p.k16;omega
 have k1:=p.k1
 have hb:=a5M hf ht
 by_cases c0:t=0
 ·subst c0
  have T:=oH (S:=S) e hw fun c=>by rw[h0]at c;exact absurd c (by decide)
  have b0:bt54 (wr n ds) S.vt 0=0:=by
   rw[kW (by omega)]
   have:=qC (n:=n) (ds:=ds)
   cases q:wr n ds with
   |nil=>rw[q]at l2;exact absurd l2.1 (by decide)
   |cons x xs=>rw[q]at this;cases this;rfl
  rw[b0]
  unfold stQ wdQ
  rw[if_pos rfl,if_pos rfl,if_neg (by omega),if_pos (by omega)]
  exact⟨Int.le_of_eq T.sa.symm,fun z=>by omega,T.hr⟩
 by_cases c1:t<k
 ·have T:=oG (S:={ S with now:= .speaks n1 ds1 t }) rfl hf1 (by have:=p.h1;omega)
  have eb:(wr n1 ds1).getD t 0=(wr n ds).getD t 0:=by
   have a:∀w:List Int,w.getD t 0=(w.take k).getD t 0:=fun w=>by rw[Ye,Ye,List.getElem?_take,if_pos c1]
   rw[a,p.tk,<-a]
  have T2:=T.hr
  have T1:=T.sa
  dsimp only at T1 T2
  rw[if_neg (by have:=p.h1;omega)]at T2
  rw[eb]at T1 T2
  rw[kW (by omega)]
  unfold stQ wdQ
  rw[if_neg c0,if_pos (by omega),if_neg c0,if_neg (by omega),if_neg (by omega),if_neg (by omega),if_pos (by omega)]
  exact⟨Int.le_of_eq T1.symm,fun z=>by omega,T2⟩
 by_cases c2:t=k
 ·subst c2
  have e2:(wr n1 ds1).take t++[0]=(wr n ds).take (t+1):=by
   rw[p.tk,Yf hk2,<-getD_get hk2,p.zero]
  rw[kW (by omega),p.zero]
  unfold stQ wdQ
  rw[if_neg c0,if_pos (Yd _),if_neg c0,if_pos rfl,if_neg (by omega),if_neg (by omega),if_pos (by have:=p.k16;omega)]
  refine⟨?_,fun z=>by omega,?_⟩
  ·show 0<=(wr n1 ds1).getD t 0
   rw[p.one];decide
  ·rw[fU rfl,e2,(gK hf).more (by have:=p.k16;omega),if_neg (by decide +kernel),if_pos ⟨p.one,rfl,p.nine⟩]
 have le1:bt54 (wr n ds) S.vt t<=1:=by rcases hb with z | z <;> rw[z] <;> decide
 by_cases c3:t<(wr n ds).length
 ·have T:=a0P (S:={ S with now:= .reads ((wr n ds).take t) }) hf (by omega) c3 rfl
  have T2:=T.hr
  dsimp only at T2
  rw[kW c3]at le1 ⊢
  unfold stQ wdQ
  rw[if_neg c0,if_neg (by omega),if_pos c3,if_neg c0,if_neg c2,if_neg (by omega),if_neg (by omega),if_neg (by omega)]
  refine⟨le1,fun z=>by omega,?_⟩
  rw[T2]
  have hkp:kp (wr n ds)=fb (n:Int) ds:=(gK hf).kp
  by_cases c4:t+1=(wr n ds).length
  ·rw[if_pos c4,if_neg (by omega),if_pos (by omega),hkp,a2G hf.1,a2H hf.1 hf.2.1 hf.2.2,c4,XI]
   rfl
  ·rw[if_neg c4,if_pos (by omega)]
 have tl:=sH false S.vt
 rw[pY c3]at le1 ⊢
 unfold stQ wdQ
 rw[if_neg c0,if_neg (by omega),if_neg c3,if_pos ht,if_neg c0,if_neg c2,if_neg (show ¬ t+1=0 by omega),if_neg (show ¬ t+1<=k by omega),if_neg (show ¬ t+1<(wr n ds).length by omega)]
 obtain⟨j,ej⟩:∃j,t-(wr n ds).length=j:=⟨_,rfl⟩
 have hj:j<9+S.vt:=by omega
 rw[ej]
 have hs:saysP { S with now:= .tlR n ds j (nz (hd1 S.vt) j) }=(hd1 S.vt).getD j 0:=by
  show tlSays false j=_
  rw[on9 hj]
  unfold tlSays
  by_cases d:j=1
  ·rw[if_pos ⟨d,rfl⟩,if_pos d]
  ·rw[if_neg fun z=>d z.1,if_neg d]
 refine⟨by rw[hs];exact Int.le_refl _,fun z=>?_,?_⟩
 ·rw[hs,show j=1 by omega];rfl
 by_cases c4:j<8+S.vt
 ·rw[if_neg (by omega),if_pos (by omega),show t+1-(wr n ds).length=j+1 by omega,kE rfl]
  show (if tlWord S.vt false j (nz (hd1 S.vt) j) ((hd1 S.vt).getD j 0)="more" then _ else _)=_
  rw[if_pos (tl.more c4)]
  rfl
 ·have ej8:j=8+S.vt:=by omega
  subst ej8
  rw[if_pos (by omega),if_neg (by omega)]
  have w:=tl.last hv
  rw[sG,if_neg (XB _)]at w
  rw[kE rfl]
  show (if tlWord S.vt false (8+S.vt) (nz (hd1 S.vt) (8+S.vt)) ((hd1 S.vt).getD (8+S.vt) 0)="more" then _ else _)=_
  rw[if_neg (by rw[w];decide +kernel)]
  show (if tlWord S.vt false (8+S.vt) (nz (hd1 S.vt) (8+S.vt)) ((hd1 S.vt).getD (8+S.vt) 0)="fault" then _ else _)=_
  rw[if_neg (by rw[w];decide +kernel)]
  show (if tlWord S.vt false (8+S.vt) (nz (hd1 S.vt) (8+S.vt)) ((hd1 S.vt).getD (8+S.vt) 0)="refused" then _ else _)=_
  rw[if_neg (by rw[w];decide +kernel)]
  show (("takes",{ S with tot:=mvd S.tot (-1),up:=if wantP S n=true then S.up++[(n,ds)] else S.up,now:= .rests 3 }):Str×PS)=_
  rw[h0,a3C,<-h0]
def stN (S:PS)(n:Nat)(ds:List Int)(t:Nat):PS:=
 if t=0 then S else if t<(wr n ds).length then { S with now:= .speaks n ds t } else if t<(wr n ds).length+(9+S.vt) then { S with now:= .tlS (t-(wr n ds).length) (nz (hd1 S.vt) (t-(wr n ds).length)) } else { S with wt:=[],now:= .rests 3 }
def wdN (e t:Nat):Str:=if t=0 then "begins" else if t=e then "done" else ""
theorem a3R {S:PS}{n:Nat}{ds:List Int}{t:Nat}(e:S.now= .free 0)(hw:S.wt= [(n,ds)])(h0:S.tot=0)(hf:FrN (n,ds))(hv:1<=S.vt)(ht:t<(wr n ds).length+(9+S.vt)) :
  saysP (stN S n ds t)=(if t<(wr n ds).length then bt54 (wr n ds) S.vt t else 1)/\hearP (stN S n ds t) (bt54 (wr n ds) S.vt t)=(wdN ((wr n ds).length+(8+S.vt)) t,stN S n ds (t+1)):=by
 have l2:=iC hf
 by_cases c0:t=0
 ·subst c0
  have T:=oH (S:=S) e hw fun c=>by rw[h0]at c;exact absurd c (by decide)
  have b0:bt54 (wr n ds) S.vt 0=0:=by
   rw[kW (by omega)]
   have:=qC (n:=n) (ds:=ds)
   cases q:wr n ds with
   |nil=>rw[q]at l2;exact absurd l2.1 (by decide)
   |cons x xs=>rw[q]at this;cases this;rfl
  rw[b0]
  unfold stN wdN
  rw[if_pos rfl,if_pos rfl,if_pos (by omega),if_neg (by omega),if_pos (by omega)]
  exact⟨T.sa,T.hr⟩
 by_cases c3:t<(wr n ds).length
 ·have T:=oG (S:={ S with now:= .speaks n ds t }) rfl hf c3
  have T2:=T.hr
  dsimp only at T2
  rw[kW c3]
  unfold stN wdN
  rw[if_neg c0,if_pos c3,if_pos c3,if_neg c0,if_neg (by omega),if_neg (by omega)]
  refine⟨T.sa,?_⟩
  rw[T2]
  by_cases c4:t+1=(wr n ds).length
  ·rw[if_pos c4,if_neg (by omega),if_pos (by omega),c4,XI]
   rfl
  ·rw[if_neg c4,if_pos (by omega)]
 have tl:=sH true S.vt
 rw[pY c3]
 unfold stN wdN
 rw[if_neg c0,if_neg c3,if_pos ht,if_neg c3,if_neg c0,if_neg (show ¬ t+1=0 by omega),if_neg (show ¬ t+1<(wr n ds).length by omega)]
 obtain⟨j,ej⟩:∃j,t-(wr n ds).length=j:=⟨_,rfl⟩
 have hj:j<9+S.vt:=by omega
 rw[ej]
 refine⟨if_neg fun z=>(by cases z.2),?_⟩
 by_cases c4:j<8+S.vt
 ·rw[if_neg (by omega),if_pos (by omega),show t+1-(wr n ds).length=j+1 by omega,jZ rfl]
  show (if tlWord S.vt true j (nz (hd1 S.vt) j) ((hd1 S.vt).getD j 0)="more" then _ else _)=_
  rw[if_pos (tl.more c4)]
  rfl
 ·have ej8:j=8+S.vt:=by omega
  subst ej8
  rw[if_pos (by omega),if_neg (by omega)]
  have w:=tl.last hv
  rw[sG,if_neg (XB _)]at w
  rw[jZ rfl]
  show (if tlWord S.vt true (8+S.vt) (nz (hd1 S.vt) (8+S.vt)) ((hd1 S.vt).getD (8+S.vt) 0)="more" then _ else _)=_
  rw[if_neg (by rw[w];decide +kernel)]
  show (if tlWord S.vt true (8+S.vt) (nz (hd1 S.vt) (8+S.vt)) ((hd1 S.vt).getD (8+S.vt) 0)="fault" then _ else _)=_
  rw[if_neg (by rw[w];decide +kernel)]
  show (if tlWord S.vt true (8+S.vt) (nz (hd1 S.vt) (8+S.vt)) ((hd1 S.vt).getD (8+S.vt) 0)="refused" then _ else _)=_
  rw[if_neg (by rw[w];decide +kernel)]
  show (("done",{ S with tot:=mvd S.tot (-1),wt:=S.wt.tail,now:= .rests 3 }):Str×PS)=_
  rw[h0,a3C,<-h0,hw]
  rfl
def evA (wd:Nat->Nat->Str)(t:Nat):Nat->List (Nat×Nat×Str)
 |0=>[]
 |n+1=>evA wd t n++evt t n (wd n t)
def evR (wd:Nat->Nat->Str)(m:Nat):Nat->List (Nat×Nat×Str)
 |0=>[]
 |t+1=>evR wd m t++evA wd t m
structure At54 (R0 R:RS)(m:Nat)(tr:Nat->Nat->PS)(bs:Nat->Int)(wd:Nat->Nat->Str)(t:Nat):Prop where
 ln:R.ps.length=m
 ps:∀i,i<m->R.ps[i]? =some (tr i t)
 bo:R.bo=(List.range t).map bs
 ev:R.ev=evR wd m t
 ow:R.ow=R0.ow
 l2:R.sa.length=m
 l4:R.he.length=m
 sa:∀x∈R.sa,x.length<=t
 he:∀x∈R.he,x.length<=t
theorem jV {xs:List (List Int)}{i t:Nat}{y:List Int}(h:∀x∈xs,x.length<=t)(hy:y.length<=t):∀x∈xs.set i y,x.length<=t:=fun x hx=>(List.mem_or_eq_of_mem_set hx).elim (h x) fun z=>z▸hy
theorem zG {R:RS}{m t:Nat}{tr:Nat->Nat->PS}{bs:Nat->Int}{wd:Nat->Nat->Str}(hl:R.ps.length=m)(hp:∀i,i<m->R.ps[i]? =some (tr i t))(l2:R.sa.length=m)(l4:R.he.length=m)(hb:R.bo.length=t)(st:∀i,i<m->hearP (tr i t) (bs t)=(wd i t,tr i (t+1)))(sa:∀x∈R.sa,x.length<=t)(he:∀x∈R.he,x.length<=t) :
  ∀n:Nat,n<=m->(∀i,i<n->(halfP R ((List.range m).map fun _=>bs t) n).ps[i]? =some (tr i (t+1)))/\(halfP R ((List.range m).map fun _=>bs t) n).ev=R.ev++evA wd t n/\(∀x∈(halfP R ((List.range m).map fun _=>bs t) n).sa,x.length<=t+1)/\∀x∈(halfP R ((List.range m).map fun _=>bs t) n).he,x.length<=t+1
 |0,_=>⟨fun i hi=>absurd hi (XB _),(YJ _).symm,fun x hx=>Nat.le_succ_of_le (sa x hx),fun x hx=>Nat.le_succ_of_le (he x hx)⟩
 | n + 1,h=>by
  obtain⟨h1,h2,h3,h4⟩:=zG hl hp l2 l4 hb st sa he n (by omega)
  have e1:=hp n (by omega)
  have e2:((List.range m).map fun _=>bs t)[n]? =some (bs t):=by rw[Yj,List.getElem?_range (by omega)];rfl
  obtain⟨x,e3⟩:∃x,R.sa[n]? =some x:=⟨_,Yb (by omega)⟩
  obtain⟨y,e4⟩:∃y,R.he[n]? =some y:=⟨_,Yb (by omega)⟩
  have hx:=sa x (Yw e3)
  have hy:=he y (Yw e4)
  rw[gG e1 e2 e3 e4]
  unfold oneP
  rw[st n (by omega)]
  refine⟨fun i hi=>?_,?_,jV h3 (by rw[Yc];exact Nat.succ_le_succ hx),jV h4 (by rw[Yc];exact Nat.succ_le_succ hy)⟩
  ·show ((halfP R _ n).ps.set n (tr n (t+1)))[i]? =_
   rw[Xq]
   by_cases c:n=i
   ·subst c
    rw[if_pos rfl,if_pos (by rw[(eG R _ n).2.2.1];omega)]
   ·rw[if_neg c]
    exact h1 i (by omega)
  ·show (halfP R _ n).ev++evt R.bo.length n (wd n t)=_
   rw[h2,hb,Yy]
   rfl
theorem a2Z {R:RS}{m e:Nat}{tr:Nat->Nat->PS}{bs:Nat->Int}{wd:Nat->Nat->Str}(h0:At54 R R m tr bs wd 0)(st:∀t,t<e->∀i,i<m->hearP (tr i t) (bs t)=(wd i t,tr i (t+1)))(b01:∀t,t<e->bs t=0\/bs t=1)(le:∀t,t<e->∀i,i<m->bs t<=saysP (tr i t))(at_:∀t,t<e->∃i,i<m/\saysP (tr i t)=bs t):∀t,t<=e->At54 R (runR R t) m tr bs wd t/\(t<e->bitP (runR R t)=bs t)
 | t, ht =>by
  have A :At54 R (runR R t) m tr bs wd t:=by
   cases t with
   |zero=>exact h0
   | succ t=>
    obtain⟨a,ab⟩:=a2Z h0 st b01 le at_ t (by omega)
    have eb:=ab (by omega)
    have g:=eG (runR R t) ((List.range m).map fun _=>bs t) m
    obtain⟨x1,x2,x3,x4⟩:=zG a.ln a.ps a.l2 a.l4 (by rw[a.bo,Ya,YU]) (fun i hi=>st t (by omega) i hi) a.sa a.he m (Yd _)
    have es:runR R (t+1)={ halfP (runR R t) ((List.range m).map fun _=>bs t) m with bo:=(runR R t).bo++[bs t] }:=by
     show turnP (runR R t) _ _=_
     unfold turnP
     rw[eb,a.ln]
    rw[es]
    exact⟨g.2.2.1.trans a.ln,x1,by show (runR R t).bo++[bs t]=_;rw[a.bo,X8,Yk];rfl,by show (halfP _ _ m).ev=_;rw[x2,a.ev];rfl,g.2.1.trans a.ow,g.2.2.2.1.trans a.l2,g.2.2.2.2.1.trans a.l4,x3,x4⟩
  refine⟨A,fun h=>?_⟩
  have mem:∀z,z∈(runR R t).ps.map saysP↔∃i,i<m/\saysP (tr i t)=z:=fun z=>by
   rw[Xg]
   constructor
   ·rintro ⟨S,hS,rfl⟩
    obtain⟨i,hi,ei⟩:=Xs hS
    have hi':i<m:=A.ln▸hi
    have:=A.ps i hi'
    rw[Yb hi,ei]at this
    cases this
    exact⟨i,hi',rfl⟩
   ·rintro ⟨i,hi,rfl⟩
    exact⟨_,Yw (A.ps i hi),rfl⟩
  unfold bitP
  obtain⟨i,hi,ei⟩:=at_ t h
  rcases b01 t h with z | z
  ·rw[if_pos ((mem 0).mpr ⟨i,hi,ei.trans z⟩),z]
  ·rw[if_neg fun q=>?_,z]
   obtain⟨j,hj,ej⟩:=(mem 0).mp q
   have:=le t h j hj
   rw[ej,z]at this
   exact absurd this (by decide)
theorem a2I (t n:Nat)(w:Str):(evt t n w).length<=1:=by unfold evt;split <;> simp
theorem gW (wd:Nat->Nat->Str)(t:Nat):∀n,(evA wd t n).length<=n
 |0=>Yd _
 |n+1=>by show (evA wd t n++_).length<=_;rw[Yc];have:=gW wd t n;have:=a2I t n (wd n t);omega
theorem jD (wd:Nat->Nat->Str){m:Nat}(h:m<=5):∀t,(evR wd m t).length<=5*t
 |0=>Yd _
 |t+1=>by show (evR wd m t++_).length<=_;rw[Yc];have:=jD wd h t;have:=gW wd t m;omega
def spLost (K:W.Frag):Sp:=fun vs H Q _=>∃(wa oa:Addr)(w o:List Int)(k:Nat),vs= [.ref wa,.ref oa]/\H wa=some (.lst (w.map V.int))/\H oa=some (.lst (o.map V.int))/\Part o w k/\k<w.length/\Q (.int ((k:Nat):Int)) H
theorem Part.lo {o w:List Int}{k i:Nat}(p:Part o w k)(h:i<k):o.getD i 0=w.getD i 0:=by
 have a:∀l:List Int,l.getD i 0=(l.take k).getD i 0:=fun l=>by rw[Ye,Ye,List.getElem?_take,if_pos h]
 rw[a,p.tk,<-a]
theorem tV {w:List Int}{i:Nat}(h:i<w.length):atI (w.map V.int) ((i:Nat):Int)=some (.int (w.getD i 0)):=bV (by rw[Yj,Yb h,getD_get h];rfl)
def wd54 (q:Nat)(kk:Nat->Nat)(e i t:Nat):Str:=if i=q then wdN e t else wdQ (kk i) e t
theorem a7A (q:Nat)(kk:Nat->Nat)(e i:Nat):wd54 q kk e i 0="begins":=by unfold wd54 wdN wdQ;split <;> rw[if_pos rfl]
theorem wI {q:Nat}{kk:Nat->Nat}{e i t:Nat}(h0:t≠0)(he:t<e):wd54 q kk e i t=if i≠q/\kk i=t then "loses" else "":=by
 unfold wd54 wdN wdQ
 by_cases c:i=q
 ·rw[if_pos c,if_neg h0,if_neg (by omega),if_neg fun z=>z.1 c]
 ·rw[if_neg c,if_neg h0]
  by_cases d:kk i=t
  ·rw[if_pos d.symm,if_pos ⟨c,d⟩]
  ·rw[if_neg fun z=>d z.symm,if_neg (by omega),if_neg fun z=>d z.2]
theorem a6Z {q:Nat}{kk:Nat->Nat}{e i:Nat}(h0:e≠0)(hk:kk i<e):wd54 q kk e i e=if i=q then "done" else "takes":=by
 unfold wd54 wdN wdQ
 by_cases c:i=q
 ·rw[if_pos c,if_pos c,if_neg h0,if_pos rfl]
 ·rw[if_neg c,if_neg c,if_neg h0,if_neg (by omega),if_pos rfl]
theorem tH {wd:Nat->Nat->Str}{t:Nat}:∀n,(∀i,i<n->wd i t="")->evA wd t n= []
 |0,_=>rfl
 |n+1,h=>by show evA wd t n++evt t n (wd n t)= [];rw[tH n fun i hi=>h i (by omega),h n (by omega)];rfl
theorem tG {wd:Nat->Nat->Str}{m a:Nat}:∀b,a<=b->(∀t,a<=t->t<b->∀i,i<m->wd i t="")->evR wd m b=evR wd m a
 |0,h,_=>by rw[show a=0 by omega]
 | b +1,h,k=>by
  by_cases c:a=b+1
  ·rw[c]
  ·show evR wd m b++evA wd b m=_
   rw[tG b (by omega) fun t h1 h2=>k t h1 (by omega),tH m (k b (by omega) (by omega)),YJ]
def spDue54 (K:W.Frag):Sp:=fun vs H Q _=>∃(wl:Addr)(was:List Addr)(ws:List (List Int))(q e m:Nat)(kk:Nat->Nat)(wq:List Int),vs= [.ref wl,.int ((q:Nat):Int),.int ((e:Nat):Int)]/\H wl=some (.lst (was.map V.ref))/\was.length=m/\ws.length=m/\m<=5/\q<m/\(∀(i:Nat)(a:Addr)(w:List Int),was[i]? =some a->ws[i]? =some w->H a=some (.lst (w.map V.int)))/\ws[q]? =some wq/\(∀(i:Nat)(w:List Int),i≠q->ws[i]? =some w->Part w wq (kk i))/\(∀i,kk i<wq.length)/\wq.length<=166/\wq.length<=e/\
 ∀l vs H',H l=none->Same H H'->H' l=some (.lst vs)->EvsAt H' vs (evR (wd54 q kk e) m (e+1))->Q (.ref l) H'
structure DL (H H':Hp)(l:Addr)(es:List (Nat×Nat×Str)):Prop where
 nl:H l=none
 same:Same H H'
 ex:∃vs,H' l=some (.lst vs)/\EvsAt H' vs es
theorem DL.app {H H':Hp}{l t:Addr}{es:List (Nat×Nat×Str)}{e:Nat×Nat×Str}(h:DL H H' l es)(ht:H' t=none):∃vs,upd H' t (.tup [.int ((e.1:Nat):Int),.int ((e.2.1:Nat):Int),.str e.2.2]) l=some (.lst vs)/\vs.length=es.length/\DL H (upd (upd H' t (.tup [.int ((e.1:Nat):Int),.int ((e.2.1:Nat):Int),.str e.2.2])) l (.lst (vs++[.ref t]))) l (es++[e]):=by
 obtain⟨vs,el,hE⟩:=h.ex
 have g:=aH ht (.tup [.int ((e.1:Nat):Int),.int ((e.2.1:Nat):Int),.str e.2.2])
 have et:=aB (H:=H') (a:=t) (o:= .tup [.int ((e.1:Nat):Int),.int ((e.2.1:Nat):Int),.str e.2.2])
 generalize upd H' t _=H1 at g et
 have el1:=g _ _ el
 have kT:∀y ys,H1 y=some (.tup ys)->upd H1 l (.lst (vs++[.ref t])) y=some (.tup ys):=fun y ys z=>by
  rw[aL fun q=>by rw[q,el1]at z;cases z];exact z
 exact⟨vs,el1,hE.len,h.nl,(h.same.trans g).put h.nl,_,aB,((hE.imp fun x xs z=>g _ _ z).imp kT).snoc (kT _ _ et)⟩
abbrev nI (xs:List Nat):List Int:=xs.map fun n=>((n:Nat):Int)
theorem lW:∀(N:Nat)(xs:List Nat),xs.length<N->∃y,y<N/\¬ y∈xs
 |0,_,h=>absurd h (XB _)
 | N +1,xs,h=>by
  by_cases c:N∈xs
  ·obtain⟨y,hy,ny⟩:=lW N (xs.erase N) (by rw[List.length_erase_of_mem c];have:=List.length_pos_of_mem c;omega)
   exact⟨y,by omega,fun z=>ny ((List.mem_erase_of_ne (by omega)).mpr z)⟩
  ·exact⟨N,Xf _,c⟩
theorem yH {x:Nat}{xs:List Nat}:((x:Nat):Int)∈nI xs↔x∈xs:=by
 constructor
 ·intro h
  obtain⟨y,hy,e⟩:=Xg.mp h
  rw[show x=y by omega];exact hy
 ·exact fun h=>Xg.mpr ⟨x,h,rfl⟩
structure Nms (ns:List Nat)(m:Nat):Prop where
 len:ns.length=m
 lt:∀n∈ns,n<256
 nd:ns.Nodup
theorem Nms.snoc {ns:List Nat}{m x:Nat}(h:Nms ns m)(hx:x<256)(nx:¬ x∈ns):Nms (ns++[x]) (m+1):=by
 refine⟨by rw[Yc,h.len];rfl,fun n hn=>?_,List.nodup_append.mpr ⟨h.nd,YS.mpr ⟨by simp,XX⟩,fun a ha b hb e=>?_⟩⟩
 ·rcases YI.mp hn with z | z
  ·exact h.lt n z
  ·rw[Yp.mp z];exact hx
 ·rw[Yp.mp hb]at e;exact nx (e▸ha)
def spNames54 (K:W.Frag):Sp:=fun vs H Q _=>∃(a:Addr)(ss:List Int)(m:Nat),vs= [.ref a,.int ((m:Nat):Int)]/\SqL K H a (ss.map V.int)/\ss.length<=63/\2<=m/\m<=5/\∀l ns H',H l=none->Same H H'->H' l=some (.lst ((nI ns).map V.int))->Nms ns m->Q (.ref l) H'
theorem FrsNew.put {H H':Hp}{l:Addr}{v w:HO}(e:H l=some w):∀{ts:List V}{fs:List Fr},FrsNew H H' ts fs->FrsNew H (upd H' l v) ts fs
 |_,_,.nil=> .nil
 |_,_,.cons a1 a2 a3 a4 r=> .cons a1 a2 (by rw[aL fun z=>by rw[z,e]at a1;cases a1];exact a3) (by rw[aL fun z=>by rw[z,e]at a2;cases a2];exact a4) (r.put e)
theorem FrsNew.bs {H0 H H':Hp}(g:Same H0 H):∀{ts:List V}{fs:List Fr},FrsNew H H' ts fs->FrsNew H0 H' ts fs
 |_,_,.nil=> .nil
 |_,_,.cons a1 a2 a3 a4 r=> .cons (g.none a1) (g.none a2) a3 a4 (r.bs g)
def spFrames54 (K:W.Frag):Sp:=fun vs H Q _=>∃(a:Addr)(ss:List Int)(nl:Addr)(ns:List Nat)(m:Nat),vs= [.ref a,.ref nl]/\SqL K H a (ss.map V.int)/\ss.length<=63/\H nl=some (.lst ((nI ns).map V.int))/\Nms ns m/\m<=5/\∀l xs fs H',H l=none->Same H H'->H' l=some (.lst xs)->FrsNew H H' xs fs->fs.map Prod.fst=ns->(∀f∈fs,FrN f/\f.2.length<=3)->Q (.ref l) H'
def spChs54 (K:W.Frag):Sp:=fun vs H Q _=>∃(a:Addr)(ss:List Int)(nl:Addr)(ns:List Nat)(m:Nat),vs= [.ref a,.ref nl]/\SqL K H a (ss.map V.int)/\ss.length<=63/\H nl=some (.lst ((nI ns).map V.int))/\Nms ns m/\1<=m/\m<=5/\∀(l:Addr)(ms:List (Nat×Nat)) H',H l=none->Same H H'->ChsAt H' l (ms.map fun c=>(((c.1:Nat):Int),((c.2:Nat):Int)))->ms.length=m->(∀c∈ms,c.1<256/\c.2<256)->Q (.ref l) H'
def spNamed54 (K:W.Frag)(C:Addr)(A:Cs):Sp:=fun vs H Q _=>∃(r:Addr)(R:RS)(o:Own)(w:Rw)(i n:Nat)(j:Int)(S:PS),vs= [.ref r,.int ((i:Nat):Int),.int ((n:Nat):Int)]/\RlAt C A H r R o w/\R.ps[i]? =some S/\n<256/\R.ow.length<=900/\(∀S∈R.ps,S.wt.length<900)/\valV R.ow (.inl ((n:Nat):Int))=some (.int j)/\(j≠((i:Nat):Int)->∀H',Same H H'->Q (.bl true) H')/\
 (j=((i:Nat):Int)->∀H' o',RailAt C A H' r { R with ps:=R.ps.set i { S with wt:=S.wt++[(n, [5])] },ow:=putK R.ow (.inl ((n:Nat):Int)) (.int ((i:Nat):Int)) } o'->Mv o H o' H'->Q (.bl false) H')
theorem rJ:∀(k a b:Nat),a<2 ^ k->b<a->∃s,s<k/\(∀j,s<j->a.testBit j=b.testBit j)/\a.testBit s=true/\b.testBit s=false
 |0,a,b,h,h2=>by rw[Nat.pow_zero]at h;omega
 | k + 1,a,b,h,h2=>by
  rw[XW]at h
  by_cases c:b / 2<a / 2
  ·obtain⟨s,s1,s2,s3,s4⟩:=rJ k (a / 2) (b / 2) (by omega) c
   refine⟨s+1,by omega,fun j hj=>?_,by rw[Xk];exact s3,by rw[Xk];exact s4⟩
   cases j with
   |zero=>omega
   |succ j=>rw[Xk,Xk];exact s2 j (by omega)
  ·have e:a / 2=b / 2:=by omega
   refine⟨0,by omega,fun j hj=>?_,?_,?_⟩
   ·cases j with
    |zero=>omega
    |succ j=>rw[Xk,Xk,e]
   ·rw[X2];exact Yl (by omega)
   ·rw[X2];exact Ym (by omega)
theorem map_getD (l:List Int):(List.range l.length).map (fun t=>l.getD t 0)=l:=by
 refine List.ext_getElem (by rw[Ya,YU]) fun i h1 h2=>?_
 rw[X3,List.getElem_range,getD_get h2]
structure J54 (C:Addr)(A:Cs)(F H:Hp)(r:Addr)(R:RS)(o:Own):Prop where
 rl:RailAt C A H r R o
 kp:∀x u,F x=some u->H x=some u/\¬ o x
section
variable {C:Addr}{A:Cs}{F H H':Hp}{r:Addr}{R R':RS}{o o':Own}
theorem J54.sm (h:J54 C A F H r R o):Same F H:=fun x u e=>(h.kp x u e).1
theorem J54.same (h:J54 C A F H r R o)(g:Same H H'):J54 C A F H' r R o:=⟨let ⟨w,x⟩:=h.rl;⟨w,x.same g⟩,fun x u e=>⟨g _ _ (h.kp x u e).1,(h.kp x u e).2⟩⟩
theorem J54.mv (h:J54 C A F H r R o)(hR:RailAt C A H' r R' o')(m:Mv o H o' H'):J54 C A F H' r R' o':=⟨hR,fun x u e=>⟨m.1 _ _ (h.kp x u e).1 (.inl (h.kp x u e).2),m.out (h.kp x u e).1 (h.kp x u e).2⟩⟩
theorem J54.grow (h:J54 C A F H r R o)(g:Same H H'):∃F',J54 C A F' H' r R o/\Same F F'/\∀x u,H x=none->H' x=some u->F' x=some u:=by
 have h':=h.same g
 refine⟨fun x=>match H x with | some _=>F x | none=>H' x,⟨h'.rl,fun y u hy=>?_⟩,fun x u e=>?_,fun x u n e=>?_⟩
 ·cases n:H y with
  |some w=>rw[n]at hy;exact h'.kp y u hy
  | none=>
   rw[n]at hy
   obtain⟨w,hR⟩:=h.rl
   exact⟨hy,fun z=>hR.al _ z n⟩
 ·dsimp only
  rw[(h.kp x u e).1]
  exact e
 ·dsimp only
  rw[n]
  exact e
end
structure H54 (ms:List (Nat×Nat))(v:Nat)(fs:List Fr)(m i:Nat)(R:RS):Prop where
 ln:R.ps.length=m
 ps:∀(j:Nat)(c:Nat×Nat)(f:Fr),ms[j]? =some c->fs[j]? =some f->R.ps[j]? =some { S0 c.1 c.2 v with wt:=if j<i then [f] else [] }
 bo:R.bo= []
 ev:R.ev= []
 l2:R.sa.length=m
 sa:∀x∈R.sa,x.length<=0
 l4:R.he.length=m
 he:∀x∈R.he,x.length<=0
 ol:R.ow.length<=i
 ow1:∀(j:Nat)(f:Fr),j<i->fs[j]? =some f->valV R.ow (.inl ((f.1:Nat):Int))=some (.int ((j:Nat):Int))
 ow0:∀n:Int,(∀(j:Nat)(f:Fr),j<i->fs[j]? =some f->((f.1:Nat):Int)≠n)->valV R.ow (.inl n)=none
structure F54 (ms:List (Nat×Nat))(fs:List Fr)(m:Nat):Prop where
 lm:ms.length=m
 lf:fs.length=m
 ok:∀f∈fs,FrN f/\f.2.length<=3
 un:∀(i j:Nat)(f g:Fr),fs[i]? =some f->fs[j]? =some g->f.1=g.1->i=j
theorem H54.hand {ms:List (Nat×Nat)}{v:Nat}{fs:List Fr}{m i:Nat}{R:RS}{f:Fr}{S:PS}(h:H54 ms v fs m i R)(k:F54 ms fs m)(ef:fs[i]? =some f)(eS:R.ps[i]? =some S):H54 ms v fs m (i+1) { R with ps:=R.ps.set i { S with wt:=S.wt++[f] },ow:=putK R.ow (.inl ((f.1:Nat):Int)) (.int ((i:Nat):Int)) }:=by
 have hi:i<m:=by rw[<-k.lf];exact(Yg.mp ef).1
 have h0:=h.ow0 ((f.1:Nat):Int) fun j g hj eg z=>by have:=k.un j i g f eg ef (by omega);omega
 refine⟨by show (R.ps.set _ _).length=m;rw[Xm];exact h.ln,fun j c g ec eg=>?_,h.bo,h.ev,h.l2,h.sa,h.l4,h.he,?_,fun j g hj eg=>?_,fun n hn=>?_⟩
 ·show (R.ps.set i _)[j]? =_
  rw[Xq]
  by_cases d:i=j
  ·subst d
   have:=h.ps i c g ec eg
   rw[eS]at this
   cases this
   rw[if_pos rfl,if_pos (by rw[h.ln];exact hi),if_pos (Xf _),if_neg (YX _)]
   rw[ef]at eg
   cases eg
   rfl
  ·rw[if_neg d,h.ps j c g ec eg]
   by_cases e:j<i
   ·rw[if_pos e,if_pos (by omega)]
   ·rw[if_neg e,if_neg (by omega)]
 ·show (putK R.ow _ _).length<=_
  rw[xF _ h0,Yc]
  have:=h.ol
  show _+1<=_
  omega
 ·show valV (putK R.ow _ _) _=_
  rw[jJ]
  by_cases d:j=i
  ·subst d
   rw[ef]at eg
   cases eg
   rw[if_pos rfl]
  ·rw[if_neg fun z=>d (k.un j i g f eg ef (by have:=Sum.inl.inj z;omega))]
   exact h.ow1 j g (by omega) eg
 ·show valV (putK R.ow _ _) _=_
  rw[jJ,if_neg fun z=>?_]
  ·exact h.ow0 n fun j g hj eg=>hn j g (by omega) eg
  ·exact hn i f (by omega) ef (Sum.inl.inj z).symm
theorem a3S {S:PS}{n1 n:Nat}{ds1 ds:List Int}{k t:Nat}:(stQ S n1 ds1 n ds k t).up.length<=S.up.length+1:=by
 unfold stQ
 split
 ·omega
 split
 ·exact Xn _
 split
 ·exact Xn _
 split
 ·exact Xn _
 ·show (if wantP S n=true then S.up++[(n,ds)] else S.up).length<=_
  split
  ·rw[Yc];exact Yd _
  ·exact Xn _
theorem a3T {S:PS}{n:Nat}{ds:List Int}{t:Nat}:(stN S n ds t).up=S.up:=by
 unfold stN
 split
 ·rfl
 split
 ·rfl
 split
 ·rfl
 ·rfl
theorem a0R {S:PS}{n1 n:Nat}{ds1 ds:List Int}{k t:Nat}(e:S.now= .free 0)(h:t<(wr n ds).length+(9+S.vt)):(stQ S n1 ds1 n ds k t).now.tag<=3:=by
 unfold stQ
 split
 ·rw[e];decide
 split
 ·exact(by decide:1<=3)
 split
 ·exact(by decide:2<=3)
 exact(by decide:3<=3)
theorem a0T {S:PS}{n:Nat}{ds:List Int}{t:Nat}(e:S.now= .free 0)(h:t<(wr n ds).length+(9+S.vt)):(stN S n ds t).now.tag<=3:=by
 unfold stN
 split
 ·rw[e];decide
 split
 ·exact(by decide:1<=3)
 exact(by decide:3<=3)
theorem a0L {n:Nat}{ds:List Int}(h:FrN (n,ds))(h3:ds.length<=3):(wr n ds).length<=102:=by
 have l:=fZ (fb (n:Int) ds)
 have e:=iJ (n:Int) ds
 show (put _).length<=102
 omega
theorem a0U {S:PS}{n:Nat}{ds:List Int}{t:Nat}(ht:t=(wr n ds).length+(9+S.vt))(hL:1<=(wr n ds).length):stN S n ds t={ S with wt:=[],now:= .rests 3 }:=by
 unfold stN
 rw[if_neg (by omega),if_neg (by omega),if_neg (by omega)]
theorem a0S {S:PS}{n1 n:Nat}{ds1 ds:List Int}{k t:Nat}(ht:t=(wr n ds).length+(9+S.vt))(hL:1<=(wr n ds).length)(hk:k<(wr n ds).length):stQ S n1 ds1 n ds k t={ S with up:=if wantP S n=true then S.up++[(n,ds)] else S.up,now:= .rests 3 }:=by
 unfold stQ
 rw[if_neg (by omega),if_neg (by omega),if_neg (by omega),if_neg (by omega)]
def end54 (v q:Nat)(fq:Fr)(j:Nat)(c:Nat×Nat)(f:Fr):PS:={ S0 c.1 c.2 v with wt:=if j=q then [] else [f],up:=if j≠q/\wantP (S0 c.1 c.2 v) fq.1=true then [fq] else [],now:= .rests 3 }
theorem a6U {ms:List (Nat×Nat)}{v:Nat}{fs:List Fr}{m q:Nat}{R:RS}{fq:Fr}(h:H54 ms v fs m m R)(k:F54 ms fs m)(m2:2<=m)(m5:m<=5)(v1:1<=v)(v5:v<=5)(hq:fs[q]? =some fq)(le:∀(j:Nat)(f:Fr),j≠q->fs[j]? =some f->fq.1<f.1) :
  ∃kk:Nat->Nat,(∀(j:Nat)(f:Fr),j≠q->fs[j]? =some f->Part (wr f.1 f.2) (wr fq.1 fq.2) (kk j))/\(∀j,kk j<(wr fq.1 fq.2).length)/\(∀t,t<=(wr fq.1 fq.2).length+(9+v)->SzR (runR R t))/\(∀t,t<(wr fq.1 fq.2).length+(9+v)->∀S∈(runR R t).ps,S.now.tag<=3)/\((List.range ((wr fq.1 fq.2).length+(9+v))).map fun t=>bitP (runR R t))=wr fq.1 fq.2++hd1 v/\(runR R ((wr fq.1 fq.2).length+(9+v))).bo=wr fq.1 fq.2++hd1 v/\(runR R ((wr fq.1 fq.2).length+(9+v))).ev=evR (wd54 q kk ((wr fq.1 fq.2).length+(8+v))) m ((wr fq.1 fq.2).length+(9+v))/\(runR R ((wr fq.1 fq.2).length+(9+v))).ow=R.ow/\(runR R ((wr fq.1 fq.2).length+(9+v))).ps.length=m/\∀(j:Nat)(c:Nat×Nat)(f:Fr),ms[j]? =some c->fs[j]? =some f->(runR R ((wr fq.1 fq.2).length+(9+v))).ps[j]? =some (end54 v q fq j c f):=by
 have qm:q<m:=by rw[<-k.lf];exact(Yg.mp hq).1
 obtain⟨fqo,fq3⟩:=k.ok fq (Yw hq)
 have hL:=iC fqo
 have hL3:=a0L fqo fq3
 have ex:∀j,∃kj,kj<(wr fq.1 fq.2).length/\∀f:Fr,j≠q->fs[j]? =some f->Part (wr f.1 f.2) (wr fq.1 fq.2) kj:=fun j=>by
  by_cases c:j≠q/\j<m
  ·obtain⟨fj,ef⟩:∃f,fs[j]? =some f:=⟨_,Yb (by rw[k.lf];exact c.2)⟩
   have fo:=(k.ok _ (Yw ef)).1
   obtain⟨s,s1,s2,s3,s4⟩:=rJ 8 fj.1 fq.1 fo.1 (le j _ c.1 ef)
   obtain⟨kj,p⟩:=a0K (ds1:=fj.2) (ds2:=fq.2) s1 s2 s3 s4
   refine⟨kj,by have:=p.k16;omega,fun f _ e=>?_⟩
   rw[ef]at e
   cases e
   exact p
  ·refine⟨0,by omega,fun f hj e=>absurd ⟨hj,?_⟩ c⟩
   rw[<-k.lf]
   exact(Yg.mp e).1
 obtain⟨kk,hkk⟩:=Classical.axiomOfChoice ex
 refine⟨kk,fun j f hj e=>(hkk j).2 f hj e,fun j=>(hkk j).1,?_⟩
 have hc:∀j,j<m->∃c f,ms[j]? =some c/\fs[j]? =some f:=fun j hj=>⟨_,_,Yb (by rw[k.lm];exact hj),Yb (by rw[k.lf];exact hj)⟩
 have ex2:∀j,∃T:Nat->PS,∀c f,ms[j]? =some c->fs[j]? =some f->T=fun t=>if j=q then stN { S0 c.1 c.2 v with wt:=[f] } fq.1 fq.2 t else stQ { S0 c.1 c.2 v with wt:=[f] } f.1 f.2 fq.1 fq.2 (kk j) t:=fun j=>by
  by_cases c:j<m
  ·obtain⟨c,f,e1,e2⟩:=hc j c
   refine⟨fun t=>if j=q then stN { S0 c.1 c.2 v with wt:=[f] } fq.1 fq.2 t else stQ { S0 c.1 c.2 v with wt:=[f] } f.1 f.2 fq.1 fq.2 (kk j) t,fun c' f' z1 z2=>?_⟩
   rw[e1]at z1
   rw[e2]at z2
   cases z1
   cases z2
   rfl
  ·refine⟨fun _=>S0 0 0 0,fun c' f' z1 _=>absurd ?_ c⟩
   rw[<-k.lm]
   exact(Yg.mp z1).1
 obtain⟨tr,htr⟩:=Classical.axiomOfChoice ex2
 have stp:∀t,t<(wr fq.1 fq.2).length+(9+v)->∀i,i<m->(bt54 (wr fq.1 fq.2) v t<=saysP (tr i t))/\(i=q->saysP (tr i t)=(if t<(wr fq.1 fq.2).length then bt54 (wr fq.1 fq.2) v t else 1))/\(i≠q->t=(wr fq.1 fq.2).length+1->saysP (tr i t)=0)/\hearP (tr i t) (bt54 (wr fq.1 fq.2) v t)=(wd54 q kk ((wr fq.1 fq.2).length+(8+v)) i t,tr i (t+1)):=fun t ht i hi=>by
  obtain⟨c,f,e1,e2⟩:=hc i hi
  rw[htr i c f e1 e2]
  dsimp only
  unfold wd54
  by_cases d:i=q
  ·subst d
   rw[hq]at e2
   cases e2
   rw[if_pos rfl,if_pos rfl,if_pos rfl]
   obtain⟨a1,a2⟩:=a3R (S:={ S0 c.1 c.2 v with wt:=[fq] }) (n:=fq.1) (ds:=fq.2) (t:=t) rfl rfl rfl fqo v1 ht
   refine⟨?_,fun _=>a1,fun z=>absurd rfl z,a2⟩
   have a1':saysP (stN { S0 c.1 c.2 v with wt:=[fq] } fq.1 fq.2 t)=(if t<(wr fq.1 fq.2).length then bt54 (wr fq.1 fq.2) v t else 1):=a1
   rw[a1']
   split
   ·exact Int.le_refl _
   ·rcases a5M fqo ht with z | z <;> rw[z] <;> decide
  ·rw[if_neg d,if_neg d,if_neg d]
   obtain⟨a1,a2,a3⟩:=a3Q (S:={ S0 c.1 c.2 v with wt:=[f] }) (n1:=f.1) (ds1:=f.2) (t:=t) rfl rfl rfl (k.ok f (Yw e2)).1 fqo v1 ((hkk i).2 f d e2) ht
   exact⟨a1,fun z=>absurd z d,fun _=>a2,a3⟩
 have A0:At54 R R m tr (bt54 (wr fq.1 fq.2) v) (wd54 q kk ((wr fq.1 fq.2).length+(8+v))) 0:=by
  refine⟨h.ln,fun i hi=>?_,h.bo,h.ev,rfl,h.l2,h.l4,h.sa,h.he⟩
  obtain⟨c,f,e1,e2⟩:=hc i hi
  rw[h.ps i c f e1 e2,htr i c f e1 e2,if_pos hi]
  refine YF some ?_
  dsimp only
  by_cases d:i=q
  ·rw[if_pos d];unfold stN;rw[if_pos rfl]
  ·rw[if_neg d];unfold stQ;rw[if_pos rfl]
 have run:=a2Z (e:=(wr fq.1 fq.2).length+(9+v)) A0 (fun t ht i hi=>(stp t ht i hi).2.2.2) (fun t ht=>a5M fqo ht) (fun t ht i hi=>(stp t ht i hi).1) fun t ht=>by
  by_cases c:t=(wr fq.1 fq.2).length+1
  ·obtain⟨i,hi,ne⟩:∃i,i<m/\i≠q:=by
    by_cases z:q=0
    ·exact⟨1,by omega,by omega⟩
    ·exact⟨0,by omega,fun y=>z y.symm⟩
   refine⟨i,hi,((stp t ht i hi).2.2.1 ne c).trans ?_⟩
   rw[pY (by omega),on9 (by omega),if_pos (by omega)]
  ·refine⟨q,qm,((stp t ht q qm).2.1 rfl).trans ?_⟩
   by_cases d:t<(wr fq.1 fq.2).length
   ·rw[if_pos d]
   ·rw[if_neg d,pY d,on9 (by omega),if_neg (by omega)]
 have bits:∀{g:Nat->Int},(∀t,t<(wr fq.1 fq.2).length+(9+v)->g t=bt54 (wr fq.1 fq.2) v t)->(List.range ((wr fq.1 fq.2).length+(9+v))).map g=wr fq.1 fq.2++hd1 v:=fun {g} hg=>by
  have ll:(wr fq.1 fq.2).length+(9+v)=(wr fq.1 fq.2++hd1 v).length:=by rw[Yc,sY,YA]
  rw[List.map_congr_left (g:=bt54 (wr fq.1 fq.2) v) fun t ht=>hg t (List.mem_range.mp ht),ll]
  exact map_getD _
 obtain⟨Z,_⟩:=run _ (Yd _)
 have tg:∀t,t<(wr fq.1 fq.2).length+(9+v)->∀S∈(runR R t).ps,S.now.tag<=3:=fun t ht S hS=>by
  obtain⟨B,_⟩:=run t (by omega)
  obtain⟨i,hi,e⟩:=Xs hS
  have hi':i<m:=B.ln▸hi
  have:=B.ps i hi'
  rw[Yb hi,e]at this
  cases this
  obtain⟨c,f,e1,e2⟩:=hc i hi'
  rw[htr i c f e1 e2]
  dsimp only
  by_cases d:i=q
  ·rw[if_pos d];exact a0T rfl ht
  ·rw[if_neg d];exact a0R rfl ht
 refine⟨fun t ht=>?_,tg,bits fun t ht=>(run t (by omega)).2 ht,Z.bo.trans (bits fun _ _=>rfl),Z.ev,Z.ow,Z.ln,fun j c f e1 e2=>?_⟩
 ·obtain⟨B,_⟩:=run t ht
  refine⟨by rw[B.bo,Ya,YU];omega,fun x hx=>by have:=B.sa x hx;omega,fun x hx=>(by have:=B.he x hx;omega),?_,fun S hS=>?_⟩
  ·rw[B.ev]
   have:=jD (wd54 q kk ((wr fq.1 fq.2).length+(8+v))) m5 t
   omega
  ·obtain⟨i,hi,e⟩:=Xs hS
   have hi':i<m:=B.ln▸hi
   have:=B.ps i hi'
   rw[Yb hi,e]at this
   cases this
   obtain⟨c,f,e1,e2⟩:=hc i hi'
   rw[htr i c f e1 e2]
   dsimp only
   by_cases d:i=q
   ·rw[if_pos d,a3T];show 0<900;decide
   ·rw[if_neg d]
    have:=a3S (S:={ S0 c.1 c.2 v with wt:=[f] }) (n1:=f.1) (ds1:=f.2) (n:=fq.1) (ds:=fq.2) (k:=kk i) (t:=t)
    exact XA this (by decide:0+1<900)
 ·have hj:j<m:=by rw[<-k.lf];exact(Yg.mp e2).1
  rw[Z.ps j hj,htr j c f e1 e2]
  refine YF some ?_
  unfold end54
  dsimp only
  by_cases d:j=q
  ·subst d
   rw[hq]at e2
   cases e2
   rw[if_pos rfl,a0U (S:={ S0 c.1 c.2 v with wt:=[fq] }) (t:=(wr fq.1 fq.2).length+(9+v)) rfl (by omega),if_pos rfl,if_neg fun z=>z.1 rfl]
   rfl
  ·have:=(hkk j).1
   rw[if_neg d,a0S (S:={ S0 c.1 c.2 v with wt:=[f] }) (t:=(wr fq.1 fq.2).length+(9+v)) rfl (by omega) this,if_neg d]
   refine Eq.trans (b:={ S0 c.1 c.2 v with wt:=[f],up:=if wantP (S0 c.1 c.2 v) fq.1=true then []++[fq] else [],now:= .rests 3 }) rfl ?_
   by_cases w:wantP (S0 c.1 c.2 v) fq.1=true
   ·rw[if_pos w,if_pos ⟨d,w⟩]
    rfl
   ·rw[if_neg w,if_neg fun z=>w z.2]
theorem iG:∀{l:List Nat},l.Nodup->∀{i j x:Nat},l[i]? =some x->l[j]? =some x->i=j
 |[],_,_,_,_,h,_=>by simp at h
 | y ::l,nd,i,j,x,h1,h2=>by
  obtain⟨n1,n2⟩:=YS.mp nd
  cases i with
  | zero=>
   cases h1
   cases j with
   |zero=>rfl
   |succ j=>exact absurd (Yw (show l[j]? =some y from h2)) n1
  | succ i=>
   cases j with
   |zero=>cases h2;exact absurd (Yw (show l[i]? =some y from h1)) n1
   |succ j=>exact YF (·+1) (iG n2 (show l[i]? =some x from h1) (show l[j]? =some x from h2))
theorem H54.start (ms:List (Nat×Nat))(v:Nat)(fs:List Fr){m:Nat}(lm:ms.length=m):H54 ms v fs m 0 (R0 (ms.map fun c=>(((c.1:Nat):Int),((c.2:Nat):Int))) ((v:Nat):Int)):=by
 have ll:(ms.map fun c=>(((c.1:Nat):Int),((c.2:Nat):Int))).length=m:=by rw[Ya,lm]
 have e0:∀x∈List.replicate (ms.map fun c=>(((c.1:Nat):Int),((c.2:Nat):Int))).length ([]:List Int),x.length<=0:=fun x hx=>by rw[XS hx];exact Yd _
 refine⟨?_,fun j c f ec ef=>?_,rfl,rfl,?_,e0,?_,e0,Yd _,fun j f hj=>absurd hj (XB _),fun n _=>rfl⟩
 ·show (List.map _ (List.map _ ms)).length=m
  rw[Ya,ll]
 ·show (List.map _ (List.map _ ms))[j]? =_
  rw[Yj,Yj,ec,if_neg (XB _)]
  rfl
 ·show (List.replicate _ _).length=m
  rw[YA,ll]
 ·show (List.replicate _ _).length=m
  rw[YA,ll]
theorem H54.wtl {ms:List (Nat×Nat)}{v:Nat}{fs:List Fr}{m i:Nat}{R:RS}(h:H54 ms v fs m i R)(k:F54 ms fs m):∀S∈R.ps,S.wt.length<900:=fun S hS=>by
 obtain⟨j,hj,e⟩:=Xs hS
 have hj':j<m:=h.ln▸hj
 have:=h.ps j _ _ (Yb (by rw[k.lm];exact hj')) (Yb (by rw[k.lf];exact hj'))
 rw[Yb hj,e]at this
 cases this
 show (if _ then _ else _:List Fr).length<900
 split
 ·exact(by decide:1<900)
 ·exact(by decide:0<900)
theorem zP {p:Str->Prop}{wd:Nat->Nat->Str}{t:Nat}:∀n,(∀i,p (wd i t))->∀e∈evA wd t n,p e.2.2
 |0,_,e,h=>by cases h
 | n +1,hp,e,h=>by
  rcases YI.mp (show e∈evA wd t n++evt t n (wd n t) from h) with z | z
  ·exact zP n hp e z
  ·unfold evt at z
   split at z
   ·cases z
   ·rw[Yp.mp z];exact hp n
theorem zO {p:Str->Prop}{wd:Nat->Nat->Str}{m:Nat}(hp:∀i t,p (wd i t)):∀t,∀e∈evR wd m t,p e.2.2
 |0,e,h=>by cases h
 | t+1,e,h=>by
  rcases YI.mp (show e∈evR wd m t++evA wd t m from h) with z | z
  ·exact zO hp t e z
  ·exact zP m (fun i=>hp i t) e z
theorem a0N (q:Nat)(kk:Nat->Nat)(e i t:Nat):PyData.strOk (wd54 q kk e i t)=true:=by
 have h1:PyData.strOk "begins"=true:=by decide +kernel
 have h2:PyData.strOk "loses"=true:=by decide +kernel
 have h3:PyData.strOk "takes"=true:=by decide +kernel
 have h4:PyData.strOk "done"=true:=by decide +kernel
 have h5:PyData.strOk ""=true:=by decide +kernel
 unfold wd54 wdN wdQ
 split <;> split <;> first | exact h1 | skip
 all_goals split <;> first | exact h4 | exact h5 | exact h2 | skip
 all_goals split <;> first | exact h3 | exact h5
theorem a1C {kvs:List (Key×V)}{k:Key}{v:V}:(putK kvs k v).length<=kvs.length+1:=by
 unfold putK
 split
 ·rw[Ya];exact Xn _
 ·rw[Yc];exact Yd _
def endI (v q:Nat)(fq:Fr)(i j:Nat)(c:Nat×Nat)(f:Fr):PS:={ end54 v q fq j c f with wt:=if j=q then (if q<i then [(fq.1, [5])] else []) else [f] }
structure E54 (ms:List (Nat×Nat))(v:Nat)(fs:List Fr)(m q:Nat)(fq:Fr)(i:Nat)(R:RS):Prop where
 ln:R.ps.length=m
 ps:∀(j:Nat)(c:Nat×Nat)(f:Fr),ms[j]? =some c->fs[j]? =some f->R.ps[j]? =some (endI v q fq i j c f)
 ow:valV R.ow (.inl ((fq.1:Nat):Int))=some (.int ((q:Nat):Int))
 ol:R.ow.length<=5+i
theorem E54.skip {ms:List (Nat×Nat)}{v:Nat}{fs:List Fr}{m q:Nat}{fq:Fr}{i:Nat}{R:RS}(h:E54 ms v fs m q fq i R)(hi:i≠q):E54 ms v fs m q fq (i+1) R:=by
 refine⟨h.ln,fun j c f e1 e2=>?_,h.ow,by have:=h.ol;omega⟩
 rw[h.ps j c f e1 e2]
 unfold endI
 by_cases d:q<i
 ·rw[if_pos d,if_pos (show q<i+1 by omega)]
 ·rw[if_neg d,if_neg (show ¬ q<i+1 by omega)]
theorem E54.hand {ms:List (Nat×Nat)}{v:Nat}{fs:List Fr}{m q:Nat}{fq:Fr}{R:RS}{S:PS}(h:E54 ms v fs m q fq q R)(k:F54 ms fs m)(eS:R.ps[q]? =some S):E54 ms v fs m q fq (q+1) { R with ps:=R.ps.set q { S with wt:=S.wt++[(fq.1, [5])] },ow:=putK R.ow (.inl ((fq.1:Nat):Int)) (.int ((q:Nat):Int)) }:=by
 refine⟨by show (R.ps.set _ _).length=m;rw[Xm];exact h.ln,fun j c f e1 e2=>?_,by show valV (putK _ _ _) _=_;rw[jJ,if_pos rfl],?_⟩
 ·show (R.ps.set q _)[j]? =_
  rw[Xq]
  by_cases d:q=j
  ·subst d
   have:=h.ps q c f e1 e2
   rw[eS]at this
   cases this
   rw[if_pos rfl,if_pos (Yg.mp eS).1]
   unfold endI
   rw[if_pos rfl,if_pos rfl,if_pos (Xf _),if_neg (YX _)]
   rfl
  ·rw[if_neg d,h.ps j c f e1 e2]
   unfold endI
   rw[if_neg fun z=>d z.symm,if_neg fun z=>d z.symm]
 ·have h1:=h.ol
  have h2:=a1C (kvs:=R.ow) (k:= .inl ((fq.1:Nat):Int)) (v:= .int ((q:Nat):Int))
  show (putK _ _ _).length<=_
  omega
theorem E54.wtl {ms:List (Nat×Nat)}{v:Nat}{fs:List Fr}{m q:Nat}{fq:Fr}{i:Nat}{R:RS}(h:E54 ms v fs m q fq i R)(k:F54 ms fs m):∀S∈R.ps,S.wt.length<900:=fun S hS=>by
 obtain⟨j,hj,e⟩:=Xs hS
 have hj':j<m:=h.ln▸hj
 have:=h.ps j _ _ (Yb (by rw[k.lm];exact hj')) (Yb (by rw[k.lf];exact hj'))
 rw[Yb hj,e]at this
 cases this
 show (if _ then (if _ then _ else _) else _:List Fr).length<900
 split
 ·split
  ·exact(by decide:1<900)
  ·exact(by decide:0<900)
 ·exact(by decide:1<900)
def spLaw54 (K:W.Frag):Sp:=fun vs H Q _=>∃(a:Addr)(ss:List Int),vs= [.ref a]/\SqL K H a (ss.map V.int)/\ss.length<=63/\∀H',Q (.bl true) H'
theorem a2J {v q:Nat}{fq:Fr}{i:Nat}{c:Nat×Nat}{f:Fr}:(endI v q fq i i c f).wt=if i=q then [] else [f]:=by
 show (if i=q then (if q<i then [(fq.1, [5])] else []) else [f]:List Fr)=_
 by_cases d:i=q
 ·rw[if_pos d,if_pos d,if_neg (by omega)]
 ·rw[if_neg d,if_neg d]
theorem vM {v q m:Nat}{fq:Fr}{c:Nat×Nat}{f:Fr}(h:q<m):(endI v q fq m q c f).wt= [(fq.1, [5])]:=by
 show (if q=q then (if q<m then [(fq.1, [5])] else []) else [f]:List Fr)=_
 rw[if_pos rfl,if_pos h]
theorem a5F {v q:Nat}{fq:Fr}{j:Nat}{c:Nat×Nat}{f:Fr}:endI v q fq 0 j c f=end54 v q fq j c f:=by
 unfold endI
 rw[if_neg (XB _)]
 rfl
theorem qL {K:W.Frag}{H:Hp}{p:Prop}[Decidable p]{t d:Addr}{f:Fr}(e1:H t=some (.tup [.int ((f.1:Nat):Int),.ref d]))(e2:H d=some (.lst (f.2.map V.int))):DVs K H (if p then [.ref t] else []) ((if p then [f] else []).map frD):=by
 by_cases c:p
 ·rw[if_pos c,if_pos c]
  exact .cons (.tup (SqT.of e1) (.cons (.int _) (.cons (DV.ints (SqL.of e2)) .nil))) .nil
 ·rw[if_neg c,if_neg c]
  exact .nil
theorem one_le {p:Prop}[Decidable p]{f:Fr}:(if p then [f] else []).length<=900:=by
 split
 ·exact(by decide:1<=900)
 ·exact(by decide:0<=900)
theorem ite_no {α:Type}{p:Prop}[Decidable p]{a b:α}:(if p then a else b)=if ¬ p then b else a:=by
 by_cases c:p
 ·rw[if_pos c,if_neg fun z=>z c]
 ·rw[if_neg c,if_pos c]
variable (Zc:FB P w K mg base (CX0) 1 "_law_draw" Zgy ZiZ ["_law_script","_law_k","_law_many"] (spDraw K))
include Zx in
theorem Zlc (F0:GFm K mg "_law_draw" Zjk Zgy ZiZ):type_of% Zc:=by
 refine fbM ["_law_script","_law_k","_law_many","_law_cell","_law_seed"] F0 fun Sc0=>F0.F.ok Sc0 (fun vs H Q E h=>?_) fun cdv A outer s H vs Q E hr h=>?_
 ·obtain⟨a,ns,k,m,rfl,_⟩:=h
  rfl
 obtain⟨a,ns,k,m,rfl,hS,h63,k0,k1,m0,q⟩:=h
 have nd:=Sc0.nd
 refine⟨_,(aF (aW (i:=3) nd rfl (Or.inl rfl) (bR (cL (aX wF (bB cH rfl Zx bU (aA (dv 0) aD)) aJ (aR _)) (bG bW (dv 0) (aU jG (dv 1) (bB cH rfl Zx bU (aA (dv 0) aD))) (fun _ _=>rfl)) aJ))) (aF (aW (i:=4) nd rfl (Or.inl rfl) (aU bZ (aU bZ (aU jG (dv 3) aJ) (aU gH (aU gH aJ (dv 1)) (dv 1))) aJ)) (aG (aM (aU jG (aU jG (aU gH (aU jG (aU gH (dv 4) aJ) aJ) aJ) aJ) (dv 2)))))),?_⟩
 refine⟨fun x H'=>(∃v,x= .int v)/\H'=H,?_,?_⟩
 ·have hlen:(ns.map V.int).length=ns.length:=Ya _
  refine⟨_,.inl hS,?_⟩
  conv=>whnf
  refine bK (fun c=>?_) (fun c=>⟨⟨_,rfl⟩,rfl⟩)
  have c1:(0:Int)<(((ns.map V.int).length:Nat):Int):=dec_true c
  obtain⟨v,hv⟩:=a5P (ns:=ns) (k:=k) (by rw[hlen]at c1;omega)
  exact⟨_,.inl hS,c1,_,_,hS,hv,⟨v,rfl⟩,rfl⟩
 rintro x H' ⟨⟨v,rfl⟩,rfl⟩
 have k2:31*k*k<=31*100000*100000:=Int.mul_le_mul (by omega) k1 k0 (by decide)
 have k3:0<=31*k*k:=Int.mul_nonneg (by omega) k0
 refine⟨(by show (0:Int)<_;decide),⟨eE (by decide) (by decide),eE (by omega) (by omega)⟩,⟨eE (by omega) (by omega),eE (by omega) (by omega)⟩,?_⟩
 have s0:0<=v % 1000003:=Int.emod_nonneg _ (by decide)
 have s1:v % 1000003<1000003:=Jc _ (by decide)
 refine⟨⟨eE (by omega) (by omega),eE (by decide) (by decide)⟩,(by show (0:Int)<_;decide),?_⟩
 have t0:0<=(v % 1000003+31*k*k+1)*48271 % 999983:=Int.emod_nonneg _ (by decide)
 have t1:(v % 1000003+31*k*k+1)*48271 % 999983<999983:=Jc _ (by decide)
 refine⟨⟨eE (by omega) (by omega),eE (by decide) (by decide)⟩,(by show (0:Int)<_;decide),m0,?_⟩
 exact q _ (Int.emod_nonneg _ (by omega)) (Jc _ m0)
variable (ZN:FB P w K mg base (CX0) 1 "_law_bits" Zgx ZiY ["_law_number","_law_many"] (spLBits2))
include ZB in
theorem Zlb (F0:GFm K mg "_law_bits" Zjj Zgx ZiY):type_of% ZN:=by
 refine fbM ["_law_number","_law_many"] F0 fun Sc0=>F0.F.ok Sc0 (fun vs H Q E h=>?_) fun cdv A outer s H vs Q E hr h=>?_
 ·obtain⟨n,m,rfl,_⟩:=h
  rfl
 obtain⟨n,m,rfl,hm,q⟩:=h
 have nd:=Sc0.nd
 refine⟨_,(aG (aM (dH rfl (ix:=[0,1]) (bT rfl ZB (aA (dv 1) aD)) (fun C fp s0 H0 at0=>cG) (fun C fp s0 H0 at0=>(aU oA (aU vZ (dv 1) (aU gB (aU gB (dv 2) aJ) (dv 0))) aJ)) rfl rfl (by rfl) (show ([".0","_law_k","_law_number","_law_many"]:List Str).Nodup by decide +kernel)))),?_⟩
 have em:((m:Nat):Int).toNat=m:=YD m
 refine⟨⟨by omega,by omega⟩,cQ (fun i ys H'=>ys=((bitsI n m).take i).map V.int/\H'=H) ?_ ⟨rfl,rfl⟩ ?_ ?_⟩
 ·rintro i ys H' hi ⟨rfl,_⟩
  refine bI ?_
  rw[Ya,Yo,bC]
  omega
 ·rintro i ys H' hi ⟨rfl,rfl⟩
  rw[em]at hi
  refine⟨(by show (0:Int)<=(m:Int)-1-(0+(i:Int));omega),?_,rfl⟩
  have e:(m:Int)-1-(0+(i:Int))=((m-1-i:Nat):Int):=by omega
  show _++[V.int (Builtin.bitAnd ((n:Int) / 2 ^ ((m:Int)-1-(0+(i:Int))).toNat) 1)]=_
  rw[e,a3H,lH hi,Yk]
  rfl
 ·rintro ys H' ⟨rfl,rfl⟩ p hp
  rw[em,Yi (by rw[bC];exact Yd _)]
  exact q p hp
variable (ZbR:FB P w K mg base (CX0) 2 "_law_wire" ZgA Zi1 ["_law_frame"] (spWireT K))
include Zx ZN in
theorem Zle (F0:GFm K mg "_law_wire" Zjm ZgA Zi1):type_of% ZbR:=by
 refine fbM ["_law_frame","_law_bits_here","_law_byte","_law_rest","_law_bit","_law_wire_here"] F0 fun Sc0=>F0.F.ok Sc0 (fun vs H Q E h=>?_) fun cdv A outer s H vs Q E hr h=>?_
 ·obtain⟨f,d,n,ds,rfl,_⟩:=h
  rfl
 obtain⟨f,d,n,ds,rfl,ef,ed,hn,hl,hall,q⟩:=h
 have nd:=Sc0.nd
 refine⟨_,(aF (aW (i:=1) nd rfl (Or.inl rfl) (aU fJ (aU fJ (bN (aA aJ aD)) (aP ZN.1 (hr.mono (by decide)) rfl ZN.2.2.2 ZN.2.2.1 ZN.2.1 .nil aN (aA (bG dG (dv 0) aJ (fun _ _=>rfl)) (aA aJ aD)))) (aP ZN.1 (hr.mono (by decide)) rfl ZN.2.2.2 ZN.2.2.1 ZN.2.1 .nil aN (aA (bB cH rfl Zx bU (aA (bG dG (dv 0) aJ (fun _ _=>rfl)) aD)) (aA aJ aD))))) (aF (cO YR rfl (cM (bG dG (dv 0) aJ (fun _ _=>rfl))) (cC (i:=2) nd rfl (Or.inl rfl)) (aG (aW (i:=1) nd rfl (Or.inl rfl) (aU fJ (dv 1) (aP ZN.1 (hr.mono (by decide)) rfl ZN.2.2.2 ZN.2.2.1 ZN.2.1 .nil aN (aA (dv 2) (aA aJ aD))))))) (aF (aW (i:=3) nd rfl (Or.inl rfl) aJ) (aF (cO YR rfl (cM (aU fJ (dv 1) (aU rG (bN (aA aJ aD)) aJ))) (cC (i:=4) nd rfl (Or.inl rfl)) (aF (aW (i:=3) nd rfl (Or.inl rfl) (aU bZ (aU gH (dv 3) aJ) (dv 4))) (aG (bF (aX tY (dv 3) aJ (aR _)) (aG (aW (i:=3) nd rfl (Or.inl rfl) (aU a2T (dv 3) aJ))) aV)))) (aF (aW (i:=5) nd rfl (Or.inl rfl) (bN aD)) (aF (cO YR rfl (cM (aU fJ (dv 1) (aP ZN.1 (hr.mono (by decide)) rfl ZN.2.2.2 ZN.2.2.1 ZN.2.1 .nil aN (aA (dv 3) (aA aJ aD))))) (cC (i:=4) nd rfl (Or.inl rfl)) (aF (aZ (bO (dv 5) (aA (dv 4) aD))) (aG (gC (bF (aX (a5Y hr.units) (fP nY (dv 5) (dY (a3B a2U aJ)) rT) (aU rG (bN (aA (dv 4) aD)) aJ) (aR _)) (aG (aZ (bO (dv 5) (aA (aU gB aJ (dv 4)) aD)))) aV))))) (aG (aM (dv 5))))))))),?_⟩
 refine⟨aK rfl,fun p1 hp1=>?_⟩
 have g1:=aH hp1 (.lst [.int 0])
 have e1:=aB (H:=H) (a:=p1) (o:= .lst [.int 0])
 generalize upd H p1 (.lst [.int 0])=H1 at g1 e1
 refine⟨_,_,SqT.of (g1 _ _ ef),rfl,n,8,rfl,by decide,fun p2 hp2=>?_⟩
 have g2:=aH hp2 (.lst ((bitsI n 8).map V.int))
 have e2:=aB (H:=H1) (a:=p2) (o:= .lst ((bitsI n 8).map V.int))
 generalize upd H1 p2 (.lst ((bitsI n 8).map V.int))=H2 at g2 e2
 have l8:=bC n 8
 refine⟨_,_,g2 _ _ e1,e2,(by rw[Ya,l8];exact small (by decide)),fun p3 hp3=>?_⟩
 have g3:=aH hp3 (.lst ([.int 0]++(bitsI n 8).map V.int))
 have e3:upd H2 p3 (.lst ([.int 0]++(bitsI n 8).map V.int)) p3=some (.lst (([0]++bitsI n 8).map V.int)):=aB
 generalize upd H2 p3 (.lst ([.int 0]++(bitsI n 8).map V.int))=H3 at g3 e3
 have gs3:=g1.trans (g2.trans g3)
 refine⟨_,_,SqT.of (gs3 _ _ ef),rfl,_,.inl (SqL.of (gs3 _ _ ed)),?_⟩
 rw[Ya]
 refine⟨ds.length,3,rfl,by decide,fun p4 hp4=>?_⟩
 have g4:=aH hp4 (.lst ((bitsI ds.length 3).map V.int))
 have e4:=aB (H:=H3) (a:=p4) (o:= .lst ((bitsI ds.length 3).map V.int))
 generalize upd H3 p4 (.lst ((bitsI ds.length 3).map V.int))=H4 at g4 e4
 have l3:=bC ds.length 3
 refine⟨_,_,g4 _ _ e3,e4,(by rw[Ya,Ya,l3,Yc,l8];exact small (by decide)),fun p5 hp5=>?_⟩
 have g5:=aH hp5 (.lst (([0]++bitsI n 8).map V.int++(bitsI ds.length 3).map V.int))
 have e5:upd H4 p5 (.lst (([0]++bitsI n 8).map V.int++(bitsI ds.length 3).map V.int)) p5=some (.lst ((hdD (n:Int) ds.length []).map V.int)):=by
  rw[aB,<-Yk]
  unfold hdD b8
  rw[YD,List.map_nil,List.flatten_nil,YJ]
 generalize upd H4 p5 (.lst (([0]++bitsI n 8).map V.int++(bitsI ds.length 3).map V.int))=H5 at g5 e5
 have gs5:=gs3.trans (g4.trans g5)
 refine⟨_,_,SqT.of (gs5 _ _ ef),rfl,⟨_,SqL.of (gs5 _ _ ed)⟩,eN (xs:=ds.map V.int) (fun i σ H'=>(∃(pb:Addr)(x:Option V),H' pb=some (.lst ((hdD (n:Int) ds.length (ds.take i)).map V.int))/\σ= [some (.ref f),some (.ref pb),x,none,none,none])/\Same H H') ⟨⟨p5,_,e5,rfl⟩,gs5⟩ (fun i σ H' _ z=>SqL.of (z.2 _ _ ed)) ?_ ?_⟩
 ·rintro i x σ H' hx ⟨⟨pb,y,eb,rfl⟩,g⟩
  obtain⟨hi,rfl⟩:=eZ hx
  obtain⟨m,em,hm⟩:=jE (lA hall hi)
  have hhl:=nG (n:Int) ds.length (ds.take i)
  rw[Yo]at hhl
  refine⟨m,8,(by show [V.int ds[i],V.int 8]=_;rw[em];rfl),by decide,fun p6 hp6=>?_⟩
  have g6:=aH hp6 (.lst ((bitsI m 8).map V.int))
  have e6:=aB (H:=H') (a:=p6) (o:= .lst ((bitsI m 8).map V.int))
  generalize upd H' p6 (.lst ((bitsI m 8).map V.int))=H6 at g6 e6
  refine⟨_,_,g6 _ _ eb,e6,(by rw[Ya,Ya,bC];exact small (by omega)),fun p7 hp7=>?_⟩
  refine⟨⟨p7,_,?_,rfl⟩,g.trans (g6.trans (aH hp7 _))⟩
  rw[aB,<-Yk,Yf hi,pM]
  have:b8 ds[i]=bitsI m 8:=by unfold b8;rw[em,YD]
  rw[this]
 rintro σ H6 ⟨⟨pb,ob,eb,rfl⟩,g6⟩
 rw[Ya,Yi (Yd _)]at eb
 have eb':H6 pb=some (.lst ((hd (n:Int) ds).map V.int)):=eb
 have hhl:=nD (n:Int) ds
 have hhb:=jC (n:Int) ds
 refine⟨aK rfl,fun p7 hp7=>?_⟩
 have g7:=aH hp7 (.lst [.int 0])
 have e7:=aB (H:=H6) (a:=p7) (o:= .lst [.int 0])
 generalize upd H6 p7 (.lst [.int 0])=H7 at g7 e7
 refine⟨_,e7,⟨by decide,by decide⟩,(by show 1*15<=sizeLine;exact small (by decide)),fun p8 hp8=>?_⟩
 have g8:=aH hp8 (.lst (List.replicate (15:Int).toNat [V.int 0]).flatten)
 have e8:upd H7 p8 (.lst (List.replicate (15:Int).toNat [V.int 0]).flatten) p8=some (.lst ((zs 15).map V.int)):=by rw[aB];rfl
 generalize upd H7 p8 (.lst (List.replicate (15:Int).toNat [V.int 0]).flatten)=H8 at g8 e8
 have g68:=g7.trans g8
 refine⟨_,_,g68 _ _ eb',e8,(by rw[Ya];exact small (by show (hd (n:Int) ds).length+15<=1000;omega)),fun p9 hp9=>?_⟩
 have g9:=aH hp9 (.lst ((hd (n:Int) ds).map V.int++(zs 15).map V.int))
 have e9:upd H8 p9 (.lst ((hd (n:Int) ds).map V.int++(zs 15).map V.int)) p9=some (.lst ((hd (n:Int) ds++zs 15).map V.int)):=by rw[aB,Yk]
 have gs9:=g6.trans (g68.trans g9)
 have eb9:=(g68.trans g9) _ _ eb'
 generalize upd H8 p9 (.lst ((hd (n:Int) ds).map V.int++(zs 15).map V.int))=H5 at e9 gs9 eb9
 have hb:Bits (hd (n:Int) ds++zs 15):=dD hhb (mH 15)
 have hl:(hd (n:Int) ds++zs 15).length<=450:=by rw[Yc];show (hd (n:Int) ds).length+15<=450;omega
 have eck:ckn (hd (n:Int) ds)=rst (hd (n:Int) ds++zs 15):=rfl
 generalize hbs:hd (n:Int) ds++zs 15=bs at e9 hb hl eck
 have hS5:SqL K H5 p9 (bs.map V.int):=SqL.of e9
 have eck':=eck
 refine⟨⟨_,hS5⟩,eN (xs:=bs.map V.int) (fun i σ H'=>(∃x,σ= [some (.ref f),some (.ref pb),ob,some (.int ((rst (bs.take i):Nat):Int)),x,none])/\H'=H5) ⟨⟨_,by rw[Jd,rO];rfl⟩,rfl⟩ (fun i σ H' _ z=>by rw[z.2];exact hS5) ?_ ?_⟩
 ·rintro i x σ H' hx ⟨⟨y,rfl⟩,rfl⟩
  obtain⟨hi,rfl⟩:=eZ hx
  have hb':Bits (bs.take i):=fun b h=>hb b (Xp h)
  have hbi:=hb _ (YG hi)
  have rl:=qJ (bs.take i)
  have es:rst (bs.take (i+1))=nx (rst (bs.take i)) ^^^ bs[i].toNat:=by
   rw[Yf hi];exact oN hb' (by rw[Yo];omega) hbi
  have ew:=wJ rl hbi
  have ea:((rst (bs.take i):Nat):Int)*2+bs[i]=((2*rst (bs.take i)+bs[i].toNat:Nat):Int):=by
   rcases hbi with e | e <;> rw[e] <;> simp <;> omega
  refine⟨⟨eE (by omega) (by omega),eE (by decide) (by decide)⟩,?_⟩
  conv=>whnf
  refine bK (fun c=>?_) (fun c=>?_)
  ·have c1:(32768:Int)<=((rst (bs.take i):Nat):Int)*2+bs[i]:=dec_true c
   rw[if_pos c1]at ew
   refine⟨⟨some (.int bs[i]),?_⟩,rfl⟩
   have e5:Builtin.bitXor ((2*rst (bs.take i)+bs[i].toNat:Nat):Int) (64647:Int)=(((2*rst (bs.take i)+bs[i].toNat) ^^^ 64647:Nat):Int):=bxor _ 64647
   rw[es,<-ew,<-e5,<-ea]
   rfl
  ·have c1:¬ (32768:Int)<=((rst (bs.take i):Nat):Int)*2+bs[i]:=dec_false c
   rw[if_neg c1]at ew
   refine⟨⟨some (.int bs[i]),?_⟩,rfl⟩
   rw[es,<-ew,<-ea]
   rfl
 ·rintro σ H' ⟨⟨y,rfl⟩,rfl⟩
  rw[Ya,Yi (Yd _)]
  obtain⟨Hz,rfl⟩:∃Hz,Hz=H':=⟨_,rfl⟩
  clear hb hl eck hS5 e9
  refine⟨aK rfl,fun p hp=>?_⟩
  have g0:=aH hp (.lst [])
  have e0:=aB (H:=Hz) (a:=p) (o:= .lst [])
  have eb0:=g0 _ _ eb9
  generalize upd Hz p (.lst [])=H1z at g0 e0 eb0
  refine⟨rst bs,15,rfl,by decide,fun p10 hp10=>?_⟩
  have g10:=aH hp10 (.lst ((bitsI (rst bs) 15).map V.int))
  have e10:=aB (H:=H1z) (a:=p10) (o:= .lst ((bitsI (rst bs) 15).map V.int))
  generalize upd H1z p10 (.lst ((bitsI (rst bs) 15).map V.int))=H10 at g10 e10
  refine⟨_,_,g10 _ _ eb0,e10,(by rw[Ya,Ya,bC];exact small (by omega)),fun p11 hp11=>?_⟩
  have np:p11≠p:=fun z=>by rw[z,g10 _ _ e0]at hp11;cases hp11
  have g11:=aH hp11 (.lst ((hd (n:Int) ds).map V.int++(bitsI (rst bs) 15).map V.int))
  have e11:upd H10 p11 (.lst ((hd (n:Int) ds).map V.int++(bitsI (rst bs) 15).map V.int)) p11=some (.lst ((fb (n:Int) ds).map V.int)):=by
   rw[aB,<-Yk]
   unfold fb ck
   rw[eck']
  generalize upd H10 p11 _=H11 at g11 e11
  have g0':=g0.trans (g10.trans g11)
  have e0':=(g10.trans g11) _ _ e0
  have hb:=tD (n:Int) ds
  have fbl:=iJ (n:Int) ds
  have hl:(fb (n:Int) ds).length<=400:=by omega
  generalize ((rst bs:Nat):Int)=rsv
  clear eb0 e10 eck' hbs
  clear bs
  generalize fb (n:Int) ds=bs at e11 hb hl q fbl
  refine⟨⟨_,SqL.of e11⟩,eN (xs:=bs.map V.int) (fun i σ H'=>(∃x,σ= [some (.ref f),some (.ref pb),ob,some (.int rsv),x,some (.ref p)])/\H' p=some (.lst ((put (bs.take i)).map V.int))/\Same Hz H'/\H' p11=some (.lst (bs.map V.int)))
   ⟨⟨_,rfl⟩,e0',g0',e11⟩ (fun i σ H' _ z=>SqL.of z.2.2.2) ?_ ?_⟩
  ·rintro i x σ H' hx ⟨⟨y,rfl⟩,h1,h3,hq⟩
   obtain⟨hi,rfl⟩:=eZ hx
   have pl:=fZ (bs.take i)
   rw[Yo]at pl
   have h4:=gM (bs.take i)
   generalize uE hi=ept
   generalize bs[i]=b at ept
   generalize put (bs.take i)=w at h1 pl h4 ept
   refine⟨⟨_,SqL.of h1⟩,_,h1,bI (by rw[Ya];omega),?_⟩
   have h1':upd H' p (.lst (w.map V.int++[.int b])) p=some (.lst ((w++[b]).map V.int)):=by rw[aB,Yk];rfl
   have h3':Same Hz (upd H' p (.lst (w.map V.int++[.int b]))):=h3.put hp
   have hq':upd H' p (.lst (w.map V.int++[.int b])) p11=some (.lst (bs.map V.int)):=by rw[aL np];exact hq
   generalize upd H' p (.lst (w.map V.int++[.int b]))=H3 at h1' h3' hq'
   have wl:(w++[b]).length=w.length+1:=by rw[Yc,Yu]
   have r5:run (w++[b])<=5:=Y4 oJ (by omega)
   have rl:=wQ (w++[b])
   have tk:(w++[b]).take (w++[b]).length=w++[b]:=Yi (Yd _)
   refine⟨fun σ' H4=>σ'= [some (.ref f),some (.ref pb),ob,some (.int rsv),some (.int b),some (.ref p)]/\H4 p=some (.lst ((pst w b).map V.int))/\Same Hz H4/\H4 p11=some (.lst (bs.map V.int)),?_,?_⟩
   ·refine ⟨_,SqL.of h1',fun p5 hp5=>?_⟩
    have ec:cutV ((w++[b]).map V.int) (some (-5:Int)) none=((w++[b]).drop ((w++[b]).length-5)).map V.int:=a0B
    rw[ec]
    have k5:=aH hp5 (.lst (((w++[b]).drop ((w++[b]).length-5)).map V.int))
    have e5:=aB (H:=H3) (a:=p5) (o:= .lst (((w++[b]).drop ((w++[b]).length-5)).map V.int))
    generalize upd H3 p5 (.lst (((w++[b]).drop ((w++[b]).length-5)).map V.int))=H5 at k5 e5
    refine⟨aK rfl,fun p6 hp6=>?_⟩
    have k6:=aH hp6 (.lst [.int b])
    have e6:=aB (H:=H5) (a:=p6) (o:= .lst [.int b])
    generalize upd H5 p6 (.lst [.int b])=H6 at k6 e6
    refine⟨_,e6,⟨by decide,by decide⟩,(by show 1*5<=sizeLine;exact small (by decide)),fun p7 hp7=>?_⟩
    have k7:=aH hp7 (.lst (List.replicate (5:Int).toNat [V.int b]).flatten)
    have e7:upd H6 p7 (.lst (List.replicate (5:Int).toNat [V.int b]).flatten) p7=some (.lst ((List.replicate 5 b).map V.int)):=by rw[aB];rfl
    generalize upd H6 p7 (.lst (List.replicate (5:Int).toNat [V.int b]).flatten)=H7 at k7 e7
    have k37:=k5.trans (k6.trans k7)
    have h1'':=k37 _ _ h1'
    have h3'':=h3'.trans k37
    have hq'':=k37 _ _ hq'
    refine⟨_,_,SqL.of (k7 _ _ (k6 _ _ e5)),SqL.of e7,?_⟩
    have key:(w++[b]).drop ((w++[b]).length-5)=List.replicate 5 b↔run (w++[b])=5:=by
     by_cases c:5<=(w++[b]).length
     ·have sr:=a1A (w:=w++[b]) (n:=5) (k:=(w++[b]).length) (by decide) c (Yd _) (getD_snoc w b).symm
      rw[tk,Yi (l:=(w++[b]).drop ((w++[b]).length-5)) (by rw[Xu];omega)]at sr
      rw[sr]
      omega
     ·constructor
      ·intro z
       have:=YF List.length z
       rw[Xu,YA]at this
       omega
      ·omega
    conv=>whnf
    refine bK (fun c=>?_) (fun c=>?_)
    ·have c2:run (w++[b])=5:=key.mp (YT c)
     have ep:pst w b=w++[b]++[1-b]:=by unfold pst;rw[if_pos c2]
     refine⟨⟨_,SqL.of h1''⟩,_,h1'',bI (by rw[Ya];omega),rfl,?_,h3''.put hp,by rw[aL np];exact hq''⟩
     rw[aB,ep,Yk (l₁:=w++[b])];rfl
    ·have c2:¬ run (w++[b])=5:=fun z=>c (Yl (key.mpr z))
     have ep:pst w b=w++[b]:=by unfold pst;rw[if_neg c2]
     rw[ep]
     exact⟨rfl,h1'',h3'',hq''⟩
   rintro σ' H4 ⟨rfl,k1,k2,k3⟩
   exact⟨⟨_,rfl⟩,by rw[ept];exact k1,k2,k3⟩
  rintro σ H' ⟨⟨y,rfl⟩,h1,h3,hq⟩
  rw[Ya,Yi (Yd _)]at h1
  exact q p H' (gs9.none hp) (gs9.trans h3) h1
variable (Zbi:FB P w K mg base (CX0) 2 "_law_names" ZfL Zih ["_law_script","_law_many"] (spNames54 K))
include ZB Zc in
theorem ZkH (F0:GFm K mg "_law_names" Ziz ZfL Zih):type_of% Zbi:=by
 refine fbM ["_law_script","_law_many","_law_base","_law_near","_law_shift","_law_names_here","_law_k","_law_name"] F0 fun Sc0=>F0.F.ok Sc0 (fun vs H Q E h=>?_) fun cdv A outer s H vs Q E hr h=>?_
 ·obtain⟨a,ss,m,rfl,_⟩:=h
  rfl
 obtain⟨a,ss,m,rfl,hS,h63,m2,m5,Qq⟩:=h
 have nd:=Sc0.nd
 refine⟨_,(aF (aW (i:=2) nd rfl (Or.inl rfl) (aP Zc.1 (hr.mono (by decide)) rfl Zc.2.2.2 Zc.2.2.1 Zc.2.1 .nil aN (aA (dv 0) (aA aJ (aA aJ aD))))) (aF (aW (i:=3) nd rfl (Or.inl rfl) (cD cV (aP Zc.1 (hr.mono (by decide)) rfl Zc.2.2.2 Zc.2.2.1 Zc.2.1 .nil aN (aA (dv 0) (aA aJ (aA aJ aD)))) aJ (aR _))) (aF (aW (i:=4) nd rfl (Or.inl rfl) (aP Zc.1 (hr.mono (by decide)) rfl Zc.2.2.2 Zc.2.2.1 Zc.2.1 .nil aN (aA (dv 0) (aA aJ (aA aJ aD))))) (aF (aW (i:=5) nd rfl (Or.inl rfl) (bN (aA (dv 2) aD))) (aF (cO YR rfl (bT rfl ZB (aA (aU gB (dv 1) aJ) aD)) (cC (i:=6) nd rfl (Or.inl rfl)) (aF (aW (i:=7) nd rfl (Or.inl rfl) (aP Zc.1 (hr.mono (by decide)) rfl Zc.2.2.2 Zc.2.2.1 Zc.2.1 .nil aN (aA (dv 0) (aA (aU bZ aJ (dv 6)) (aA aJ aD))))) (aF (gC (bF (bY (dv 3)) (aG (aW (i:=7) nd rfl (Or.inl rfl) (aU a2T (dv 2) (aU a5S (aU jG (dv 7) aJ) (dv 4))))) aV)) (aF (jQ YR (aX a5W (dv 7) (dv 5) rfl) (aG (aW (i:=7) nd rfl (Or.inl rfl) (aU jG (aU bZ (dv 7) aJ) aJ)))) (aG (aZ (bO (dv 5) (aA (dv 7) aD)))))))) (aG (aM (dv 5)))))))),?_⟩
 refine⟨a,ss,5,256,rfl,hS,h63,by decide,by decide,by decide,fun b b0 b1=>?_⟩
 obtain⟨b,rfl⟩:=Y2 b0
 refine⟨a,ss,6,2,rfl,hS,h63,by decide,by decide,by decide,fun nr _ _=>?_⟩
 refine⟨a,ss,7,6,rfl,hS,h63,by decide,by decide,by decide,fun sh s0 s1=>?_⟩
 obtain⟨sh,rfl⟩:=Y2 s0
 refine⟨aK rfl,fun l hl=>?_⟩
 have g1:=aH hl (.lst [.int ((b:Nat):Int)])
 have el:=aB (H:=H) (a:=l) (o:= .lst [.int ((b:Nat):Int)])
 generalize upd H l _=H1 at g1 el
 generalize decide (nr=0)=near
 refine⟨⟨by omega,by omega⟩,?_⟩
 rw[show (((m:Nat):Int)-1).toNat=m-1 by omega]
 refine cT (lo:=0) (n:=m-1) (fun i σ H'=>(∃x y,σ= [some (.ref a),some (.int ((m:Nat):Int)),some (.int ((b:Nat):Int)),some (.bl near),some (.int ((sh:Nat):Int)),some (.ref l),x,y])/\Same H H'/\∃ns,H' l=some (.lst ((nI ns).map V.int))/\Nms ns (i+1)) ⟨⟨_,_,rfl⟩,g1, [b],el,⟨rfl,fun n hn=>by rw[Yp.mp hn];omega,YS.mpr ⟨by simp,XX⟩⟩⟩ ?_ ?_
 ·rintro i σ H2 hi ⟨⟨x,y,rfl⟩,g2,ns,e2,hN⟩
  refine⟨a,ss,_,256,rfl,g2.seq hS,h63,(by show 0<=8+(0+((i:Nat):Int));omega),(by show 8+(0+((i:Nat):Int))<=100000;omega),by decide,fun z z0 z1=>?_⟩
  obtain⟨z,rfl⟩:=Y2 z0
  refine⟨fun σ' H'=>(∃n:Nat,σ'= [some (.ref a),some (.int ((m:Nat):Int)),some (.int ((b:Nat):Int)),some (.bl near),some (.int ((sh:Nat):Int)),some (.ref l),some (.int (0+((i:Nat):Int))),some (.int ((n:Nat):Int))]/\n<256)/\H2=H',?_,?_⟩
  ·conv =>whnf
   refine bK (fun c=>?_) (fun c=>?_)
   ·have e8:((z:Nat):Int) % 8=((z % 8:Nat):Int):=rfl
    have hb:z % 8*2 ^ sh<256:=by
     have h1:z % 8<=7:=by omega
     have h2:2 ^ sh<=2 ^ 5:=Ys (by decide) (by omega)
     have h3:=Nat.mul_le_mul h1 h2
     omega
    have es:((z:Nat):Int) % 8*2 ^ ((sh:Nat):Int).toNat=((z % 8*2 ^ sh:Nat):Int):=by rw[e8,YD,Int.natCast_mul,Int.natCast_pow];rfl
    refine⟨(by show (0:Int)<8;decide),⟨by omega,by omega,?_⟩,⟨⟨b ^^^ z % 8*2 ^ sh,?_,Je (n:=8) (by omega) hb⟩,rfl⟩⟩
    ·show (((z:Nat):Int) % 8).natAbs<_
     rw[e8,Int.natAbs_natCast]
     exact Yh (show z % 8<2 ^ 3 by omega) (Ys (by decide) (by decide))
    ·rw[es]
     exact YF (fun v=>[some (V.ref a),some (.int ((m:Nat):Int)),some (.int ((b:Nat):Int)),some (.bl near),some (.int ((sh:Nat):Int)),some (.ref l),some (.int (0+((i:Nat):Int))),some (.int v)]) (bxor b (z % 8*2 ^ sh))
   ·exact⟨⟨z,rfl,by omega⟩,rfl⟩
  rintro σ' H3 ⟨⟨n,rfl,hn⟩,rfl⟩
  obtain⟨y,hy,ny⟩:=lW 256 ns (by have:=hN.len;omega)
  refine⟨fun k σ H'=>(∃n:Nat,σ= [some (.ref a),some (.int ((m:Nat):Int)),some (.int ((b:Nat):Int)),some (.bl near),some (.int ((sh:Nat):Int)),some (.ref l),some (.int (0+((i:Nat):Int))),some (.int ((n:Nat):Int))]/\n<256/\¬ (n+k) % 256∈ns)/\H'=H2,⟨y+256-n,⟨n,rfl,hn,by rw[show n+(y+256-n)=y+256 by omega,Nat.add_mod_right,Nat.mod_eq_of_lt hy];exact ny⟩,rfl⟩,?_⟩
  rintro k σ H' ⟨⟨n,rfl,hn,nk⟩,rfl⟩
  refine⟨_,.inl (SqL.of e2),?_⟩
  conv=>whnf
  refine bK (fun c=>?_) (fun c=>?_)
  ·have c1:=yH.mp (dec_true c)
   cases k with
   |zero=>rw[Jb,Nat.mod_eq_of_lt hn]at nk;exact absurd c1 nk
   | succ k=>
    refine⟨fun σ' H1=>(∃n:Nat,σ'= [some (.ref a),some (.int ((m:Nat):Int)),some (.int ((b:Nat):Int)),some (.bl near),some (.int ((sh:Nat):Int)),some (.ref l),some (.int (0+((i:Nat):Int))),some (.int ((n:Nat):Int))]/\n<256/\¬ (n+k) % 256∈ns)/\H1=H',fun σ' H1 z=>⟨k,Xf _,z⟩,?_⟩
    conv=>whnf
    exact⟨(by show (0:Int)<256;decide),⟨(n+1) % 256,rfl,Nat.mod_lt _ (by decide),by rw[Nat.mod_add_mod,show n+1+k=n+(k+1) by omega];exact nk⟩,rfl⟩
  ·have c1:¬ n∈ns:=fun z=>dec_false c (yH.mpr z)
   refine⟨⟨_,SqL.of e2⟩,_,e2,bI (by rw[Ya,Ya,hN.len];omega),⟨_,_,rfl⟩,?_⟩
   have em:(nI ns).map V.int++[V.int ((n:Nat):Int)]=(nI (ns++[n])).map V.int:=by rw[nI,nI,Yk,Yk];rfl
   rw[em]
   exact⟨g2.put hl,ns++[n],aB,hN.snoc hn c1⟩
 rintro σ H2 ⟨⟨x,y,rfl⟩,g2,ns,e2,hN⟩
 rw[show m-1+1=m by omega]at hN
 exact Qq l ns H2 hl g2 e2 hN
variable (Za1:FB P w K mg base (CX0) 2 "_law_frames" Zff Zhv ["_law_script","_law_names_here"] (spFrames54 K))
include ZB Zx Zc in
theorem Zkg (F0:GFm K mg "_law_frames" ZhQ Zff Zhv):type_of% Za1:=by
 refine fbM ["_law_script","_law_names_here","_law_frames_here","_law_k","_law_data"] F0 fun Sc0=>F0.F.ok Sc0 (fun vs H Q E h=>?_) fun cdv A outer s H vs Q E hr h=>?_
 ·obtain⟨a,ss,nl,ns,m,rfl,_⟩:=h
  rfl
 obtain⟨a,ss,nl,ns,m,rfl,hS,h63,enl,hN,m5,Qq⟩:=h
 have nd:=Sc0.nd
 refine⟨_,(aF (aW (i:=2) nd rfl (Or.inl rfl) (bN aD)) (aF (cO YR rfl (bT rfl ZB (aA (bB cH rfl Zx bU (aA (dv 1) aD)) aD)) (cC (i:=3) nd rfl (Or.inr rfl)) (aF (cZ (j:=4) nd rfl rfl rfl (ix:=[0,3]) (bT rfl ZB (aA aJ aD)) (fun C fp s0 H0 at0=>cG) (fun C fp s0 H0 at0=>(aP Zc.1 (hr.mono (by decide)) rfl Zc.2.2.2 Zc.2.2.1 Zc.2.1 .nil aN (aA (dv 1) (aA (aU bZ (aU bZ aJ (aU gH aJ (dv 2))) (dv 0)) (aA aJ aD))))) rfl rfl (by rfl) (show ([".0","_law_j","_law_script","_law_k"]:List Str).Nodup by decide +kernel)) (aG (aZ (bO (dv 2) (aA (bQ (aA (bG bW (dv 1) (dv 3) (fun _ _=>rfl)) (aA (fP nY (dv 4) rT (dY (aP Zc.1 (hr.mono (by decide)) rfl Zc.2.2.2 Zc.2.2.1 Zc.2.1 .nil aN (aA (dv 0) (aA (aU bZ aJ (dv 3)) (aA aJ aD)))))) aD))) aD)))))) (aG (aM (dv 2))))),?_⟩
 refine⟨aK rfl,fun l hl=>?_⟩
 have g1:=aH hl (.lst [])
 have el:=aB (H:=H) (a:=l) (o:= .lst [])
 generalize upd H l _=H1 at g1 el
 have hm:=hN.len
 refine⟨_,.inl (SqL.of (g1 _ _ enl)),⟨by rw[Ya,Ya];omega,by rw[Ya,Ya];omega⟩,?_⟩
 rw[Ya,Ya,hm,YD]
 refine cT (lo:=0) (n:=m) (fun i σ H'=>(∃x y,σ= [some (.ref a),some (.ref nl),some (.ref l),x,y])/\Same H H'/\(∀x,H' x=none->H1 x=none)/\∃xs fs,H' l=some (.lst xs)/\FrsNew H1 H' xs fs/\fs.map Prod.fst=ns.take i/\∀f∈fs,FrN f/\f.2.length<=3) ⟨⟨_,_,rfl⟩,g1,fun x z=>z, [], [],el,.nil,rfl,fun f hf=>by cases hf⟩ ?_ ?_
 ·rintro i σ H2 hi ⟨⟨x,y,rfl⟩,g2,nn,xs,fs,e2,hF,hfs,hall⟩
  refine⟨⟨by decide,by decide⟩,cQ (lo:=0) (n:=3) (fun j ys H'=>H'=H2/\∃ds:List Int,ys=ds.map V.int/\ds.length=j/\ds.all byt=true) ?_ ?_ ?_ ?_⟩
  ·rintro j ys H' hj ⟨_,ds,rfl,hd,_⟩
   rw[Ya,hd]
   exact bI (by omega)
  ·exact⟨rfl, [],rfl,rfl,rfl⟩
  ·rintro j ys H' hj ⟨rfl,ds,rfl,hd,hb⟩
   conv=>whnf
   refine⟨⟨by decide,eE (by omega) (by omega)⟩,a,ss,_,256,rfl,g2.seq hS,h63,(by show 0<=20+3*(0+((i:Nat):Int))+(0+((j:Nat):Int));omega),(by show 20+3*(0+((i:Nat):Int))+(0+((j:Nat):Int))<=100000;omega),by decide,fun z z0 z1=>⟨rfl,ds++[z],by rw[Yk];rfl,by rw[Yc,hd];rfl,?_⟩⟩
   rw[List.all_append,hb]
   show (byt z && true)=true
   rw[dJ.mpr ⟨z0,by omega⟩]
   rfl
  rintro ys H' ⟨rfl,ds,rfl,hd,hb⟩ dl hdl
  have g3:=aH hdl (.lst (ds.map V.int))
  have ed:=aB (H:=H') (a:=dl) (o:= .lst (ds.map V.int))
  have e3:=g3 _ _ e2
  have F3:=hF.same g3
  have nn3:∀x,upd H' dl (.lst (ds.map V.int)) x=none->H1 x=none:=fun x z=>nn x (g3.none z)
  generalize upd H' dl _=H3 at g3 ed e3 F3 nn3
  have g13:=g2.trans g3
  obtain⟨n,hn⟩:∃n,ns[i]? =some n:=⟨_,Yb (by omega)⟩
  refine⟨⟨_,SqL.of e3⟩,_,_,SqL.of (g13 _ _ enl),(by rw[Xo];exact bV (by rw[Yj,Yj,hn];rfl):atI _ (0+((i:Nat):Int))=some (.int ((n:Nat):Int))),?_⟩
  refine⟨a,ss,_,4,rfl,g13.seq hS,h63,(by show 0<=40+(0+((i:Nat):Int));omega),(by show 40+(0+((i:Nat):Int))<=100000;omega),by decide,fun u u0 u1=>?_⟩
  obtain⟨u,rfl⟩:=Y2 u0
  refine⟨_,SqL.of ed,fun sl hsl=>?_⟩
  rw[vW,<-List.map_take]
  have g4:=aH hsl (.lst ((ds.take u).map V.int))
  have es:=aB (H:=H3) (a:=sl) (o:= .lst ((ds.take u).map V.int))
  have e4:=g4 _ _ e3
  have F4:=F3.same g4
  have sl1:=nn3 _ hsl
  have nn4:∀x,upd H3 sl (.lst ((ds.take u).map V.int)) x=none->H1 x=none:=fun x z=>nn3 x (g4.none z)
  generalize upd H3 sl _=H4 at g4 es e4 F4 nn4
  refine⟨aK rfl,fun t ht=>?_⟩
  have g5:=aH ht (.tup [.int ((n:Nat):Int),.ref sl])
  have et:=aB (H:=H4) (a:=t) (o:= .tup [.int ((n:Nat):Int),.ref sl])
  have e5:=g5 _ _ e4
  have F5:=F4.same g5
  have t1:=nn4 _ ht
  have nn5:∀x,upd H4 t (.tup [.int ((n:Nat):Int),.ref sl]) x=none->H1 x=none:=fun x z=>nn4 x (g5.none z)
  have es5:=g5 _ _ es
  generalize upd H4 t _=H5 at g5 et e5 F5 nn5 es5
  have ns1:n<256:=hN.lt n (Yw hn)
  have lk:(ds.take u).length<=3:=by rw[Yo];omega
  refine⟨_,e5,bI ?_,⟨_,_,rfl⟩,((g13.trans g4).trans g5).put hl,fun x z=>nn5 x ?_,_,fs++[(n,ds.take u)],aB,(F5.snoc (f:=(n,ds.take u)) t1 sl1 et es5).put el,?_,fun f hf=>?_⟩
  ·have h1:=hF.len
   have h2:fs.length=(ns.take i).length:=by rw[<-hfs,Ya]
   rw[Yo]at h2
   omega
  ·by_cases c:x=l
   ·rw[c,aB]at z;cases z
   ·rw[aL c]at z;exact z
  ·rw[Yk,hfs,Yf (show i<ns.length by omega)]
   refine YF (_++[·]) ?_
   have:=Yb (show i<ns.length by omega)
   rw[hn]at this
   exact Yt this
  ·rcases YI.mp hf with z | z
   ·exact hall f z
   ·rw[Yp.mp z]
    exact⟨⟨ns1,by show (ds.take u).length<=7;omega,X0.mpr fun y hy=>X0.mp hb y (Xp hy)⟩,lk⟩
 rintro σ H2 ⟨⟨x,y,rfl⟩,g2,nn,xs,fs,e2,hF,hfs,hall⟩
 exact Qq l xs fs H2 hl g2 e2 (hF.bs g1) (by rw[hfs];exact Yi (by omega)) hall
variable (ZaM:FB P w K mg base (CX0) 2 "_law_choices" Zey ZgM ["_law_script","_law_names_here"] (spChs54 K))
include ZB Zx Zc in
theorem ZjP (F0:GFm K mg "_law_choices" Zg0 Zey ZgM):type_of% ZaM:=by
 refine fbM ["_law_script","_law_names_here","_law_some","_law_k","_law_mask","_law_name"] F0 fun Sc0=>F0.F.ok Sc0 (fun vs H Q E h=>?_) fun cdv A outer s H vs Q E hr h=>?_
 ·obtain⟨a,ss,nl,ns,m,rfl,_⟩:=h
  rfl
 obtain⟨a,ss,nl,ns,m,rfl,hS,h63,enl,hN,m1,m5,Qq⟩:=h
 have nd:=Sc0.nd
 refine⟨_,(aF (aW (i:=2) nd rfl (Or.inl rfl) (bN aD)) (aF (cO YR rfl (bT rfl ZB (aA (bB cH rfl Zx bU (aA (dv 1) aD)) aD)) (cC (i:=3) nd rfl (Or.inl rfl)) (aF (aW (i:=4) nd rfl (Or.inl rfl) (aP Zc.1 (hr.mono (by decide)) rfl Zc.2.2.2 Zc.2.2.1 Zc.2.1 .nil aN (aA (dv 0) (aA (aU bZ aJ (dv 3)) (aA aJ aD))))) (aF (aW (i:=5) nd rfl (Or.inl rfl) (bG bW (dv 1) (aP Zc.1 (hr.mono (by decide)) rfl Zc.2.2.2 Zc.2.2.1 Zc.2.1 .nil aN (aA (dv 0) (aA (aU bZ aJ (dv 3)) (aA (bB cH rfl Zx bU (aA (dv 1) aD)) aD)))) (fun _ _=>rfl))) (aG (aZ (bO (dv 2) (aA (bG bW (bN (aA (bQ (aA aJ (aA aJ aD))) (aA (bQ (aA aJ (aA (dv 5) aD))) (aA (bQ (aA (dv 4) (aA (aU oA (dv 4) (dv 5)) aD))) aD)))) (aP Zc.1 (hr.mono (by decide)) rfl Zc.2.2.2 Zc.2.2.1 Zc.2.1 .nil aN (aA (dv 0) (aA (aU bZ aJ (dv 3)) (aA aJ aD)))) (fun _ _=>rfl)) aD))))))) (aG (aM (dv 2))))),?_⟩
 refine⟨aK rfl,fun l hl=>?_⟩
 have g1:=aH hl (.lst [])
 have el:=aB (H:=H) (a:=l) (o:= .lst [])
 generalize upd H l _=H1 at g1 el
 have hm:=hN.len
 refine⟨_,.inl (SqL.of (g1 _ _ enl)),⟨by rw[Ya,Ya];omega,by rw[Ya,Ya];omega⟩,?_⟩
 rw[Ya,Ya,hm,YD]
 refine cT (lo:=0) (n:=m) (fun i σ H'=>(∃x y z,σ= [some (.ref a),some (.ref nl),some (.ref l),x,y,z])/\Same H H'/\∃ms:List (Nat×Nat),ChsAt H' l (ms.map fun c=>(((c.1:Nat):Int),((c.2:Nat):Int)))/\ms.length=i/\∀c∈ms,c.1<256/\c.2<256) ⟨⟨_,_,_,rfl⟩,g1, [],⟨[],el,rfl,fun i t c h=>by simp at h⟩,rfl,fun f hf=>by cases hf⟩ ?_ ?_
 ·rintro i σ H2 hi ⟨⟨x,y,z,rfl⟩,g2,ms,hC,hl2,hall⟩
  refine⟨a,ss,_,256,rfl,g2.seq hS,h63,(by show 0<=50+(0+((i:Nat):Int));omega),(by show 50+(0+((i:Nat):Int))<=100000;omega),by decide,fun mk k0 k1=>?_⟩
  obtain⟨mk,rfl⟩:=Y2 k0
  refine⟨_,.inl (SqL.of (g2 _ _ enl)),a,ss,_,_,rfl,g2.seq hS,h63,(by show 0<=60+(0+((i:Nat):Int));omega),(by show 60+(0+((i:Nat):Int))<=100000;omega),(by rw[Ya,Ya];omega),fun u u0 u1=>?_⟩
  rw[Ya,Ya,hm]at u1
  obtain⟨u,rfl⟩:=Y2 u0
  obtain⟨n,hn⟩:∃n,ns[u]? =some n:=⟨_,Yb (by omega)⟩
  have n256:n<256:=hN.lt n (Yw hn)
  refine⟨_,_,SqL.of (g2 _ _ enl),(bV (by rw[Yj,Yj,hn];rfl):atI _ ((u:Nat):Int)=some (.int ((n:Nat):Int))),?_⟩
  obtain⟨ts,ets,tl,tt⟩:=hC
  refine⟨⟨_,SqL.of ets⟩,aK rfl,fun p1 hp1=>?_⟩
  have k1:=aH hp1 (.tup [.int 0,.int 0])
  have ep1:=aB (H:=H2) (a:=p1) (o:= .tup [.int 0,.int 0])
  generalize upd H2 p1 _=H3 at k1 ep1
  refine⟨aK rfl,fun p2 hp2=>?_⟩
  have k2:=aH hp2 (.tup [.int 255,.int ((n:Nat):Int)])
  have ep2:=aB (H:=H3) (a:=p2) (o:= .tup [.int 255,.int ((n:Nat):Int)])
  generalize upd H3 p2 _=H4 at k2 ep2
  conv=>whnf
  rw[show (fun i j:Int=>V.int (Builtin.bitAnd i j)) ((mk:Nat):Int) ((n:Nat):Int)= .int ((mk &&& n:Nat):Int) from YF V.int (band mk n)]
  refine⟨aK rfl,fun p3 hp3=>?_⟩
  have k3:=aH hp3 (.tup [.int ((mk:Nat):Int),.int ((mk &&& n:Nat):Int)])
  have ep3:=aB (H:=H4) (a:=p3) (o:= .tup [.int ((mk:Nat):Int),.int ((mk &&& n:Nat):Int)])
  generalize upd H4 p3 _=H5 at k3 ep3
  refine⟨aK rfl,fun pl hpl=>?_⟩
  have k4:=aH hpl (.lst [.ref p1,.ref p2,.ref p3])
  have epl:=aB (H:=H5) (a:=pl) (o:= .lst [.ref p1,.ref p2,.ref p3])
  generalize upd H5 pl _=H6 at k4 epl
  have gg:=((k1.trans k2).trans k3).trans k4
  have g6:=g2.trans gg
  refine⟨a,ss,_,3,rfl,g6.seq hS,h63,(by show 0<=70+(0+((i:Nat):Int));omega),(by show 70+(0+((i:Nat):Int))<=100000;omega),by decide,fun v v0 v1=>?_⟩
  obtain⟨p,c,hat,ep,hc⟩:∃(p:Addr)(c:Nat×Nat),atI [V.ref p1,.ref p2,.ref p3] v=some (.ref p)/\H6 p=some (.tup [.int ((c.1:Nat):Int),.int ((c.2:Nat):Int)])/\c.1<256/\c.2<256:=by
   have:v=0\/v=1\/v=2:=by omega
   rcases this with rfl | rfl | rfl
   ·exact⟨p1,(0,0),rfl,k4 _ _ (k3 _ _ (k2 _ _ ep1)),by decide,by decide⟩
   ·exact⟨p2,(255,n),rfl,k4 _ _ (k3 _ _ ep2),(by decide:255<256),n256⟩
   ·exact⟨p3,(mk,mk &&& n),rfl,k4 _ _ ep3,(by show mk<256;omega),XA Nat.and_le_right n256⟩
  refine⟨_,_,SqL.of epl,hat,_,gg _ _ ets,bI (by rw[Ya,tl,Ya];omega),⟨_,_,_,rfl⟩,g6.put hl,ms++[c],⟨ts++[p],by rw[aB,Yk];rfl,by rw[Yc,Ya,Yc,tl,Ya];rfl,fun j t d h1 h2=>?_⟩,by rw[Yc,hl2];rfl,fun d hd=>?_⟩
  ·have kT:∀y ys,H6 y=some (.tup ys)->upd H6 l (.lst (ts.map V.ref++[.ref p])) y=some (.tup ys):=fun y ys z=>by
    rw[aL fun q=>by rw[q,gg _ _ ets]at z;cases z];exact z
   have lt:ts.length=ms.length:=by rw[tl,Ya]
   rw[Yk]at h2
   by_cases c1:j<ms.length
   ·rw[YH (by omega)]at h1
    rw[YH (by rw[Ya];exact c1)]at h2
    exact kT _ _ (gg _ _ (tt j t d h1 h2))
   ·rw [Yz (by omega)]at h1
    rw[Yz (by rw[Ya];omega),Ya]at h2
    rw[lt]at h1
    cases ej:j-ms.length with
    | zero=>
     rw[ej]at h1 h2
     cases h1
     cases h2
     exact kT _ _ ep
    |succ k=>rw[ej]at h1;cases h1
  ·rcases YI.mp hd with z | z
   ·exact hall d z
   ·rw[Yp.mp z];exact hc
 rintro σ H2 ⟨⟨x,y,z,rfl⟩,g2,ms,hC,hl2,hall⟩
 exact Qq l ms H2 hl g2 hC hl2 hall
variable (ZbQ:FB P w K mg base (CX0) 1 "_law_lost" Zgz Zi0 ["_law_wire_here","_law_own"] (spLost K))
theorem Zld (F0:GFm K mg "_law_lost" Zjl Zgz Zi0):type_of% ZbQ:=by
 refine fbM ["_law_wire_here","_law_own","_law_at"] F0 fun Sc0=>F0.F.ok Sc0 (fun vs H Q E h=>?_) fun cdv A outer s H vs Q E hr h=>?_
 ·obtain⟨wa,oa,w,o,k,rfl,_⟩:=h
  rfl
 obtain⟨wa,oa,w,o,k,rfl,ew,eo,p,k2,q⟩:=h
 have nd:=Sc0.nd
 refine⟨_,(aF (aW (i:=2) nd rfl (Or.inl rfl) aJ) (aF (jQ YR (aX cV (bG bW (dv 1) (dv 2) (fun _ _=>rfl)) (bG bW (dv 0) (dv 2) (fun _ _=>rfl)) (aR _)) (aG (aW (i:=2) nd rfl (Or.inl rfl) (aU bZ (dv 2) aJ)))) (aG (aM (dv 2))))),?_⟩
 refine⟨fun m σ H'=>m<=k/\σ= [some (.ref wa),some (.ref oa),some (.int ((k-m:Nat):Int))]/\H'=H,⟨k,Yd _,by rw[XI];rfl,rfl⟩,?_⟩
 rintro m σ H' ⟨hm,rfl,rfl⟩
 have h1:=p.h1
 refine⟨_,_,SqL.of eo,tV (by omega),_,_,SqL.of ew,tV (by omega),?_⟩
 conv=>whnf
 refine bK (fun c=>?_) (fun c=>?_)
 ·have c1:=dec_true c
  cases m with
  | zero=>
   rw[Nat.sub_zero,p.one,p.zero]at c1
   exact absurd c1 (by decide)
  | succ m=>
   refine⟨fun σ' H1=>m<=k/\σ'= [some (.ref wa),some (.ref oa),some (.int ((k-m:Nat):Int))]/\H1=H',fun σ' H1 z=>⟨m,Xf _,z⟩,?_⟩
   conv=>whnf
   exact⟨by omega,by rw[show ((k-m:Nat):Int)=((k-(m+1):Nat):Int)+1 by omega];rfl,rfl⟩
 ·have c1:=dec_false c
  cases m with
  |zero=>exact q
  |succ m=>exact absurd (p.lo (i:=k-(m+1)) (by omega)) c1
variable (Zch:FB P w K mg base (CX0) 2 "_law_due" Zg9 ZjE ["_law_wires","_law_least","_law_last"] (spDue54 K))
include ZB Zx ZkT ZbQ in
theorem Zlu (F0:GFm K mg "_law_due" ZjV Zg9 ZjE):type_of% Zch:=by
 refine fbM ["_law_wires","_law_least","_law_last","_law_due_here","_law_at","_law_post"] F0 fun Sc0=>F0.F.ok Sc0 (fun vs H Q E h=>?_) fun cdv A outer s H vs Q E hr h=>?_
 ·obtain⟨wl,was,ws,q,e,m,kk,wq,rfl,_⟩:=h
  rfl
 obtain⟨wl,was,ws,q,e,m,kk,wq,rfl,ewl,l1,l2,m5,hq,hw,ewq,hp,hk,w166,we,Qq⟩:=h
 have nd:=Sc0.nd
 refine⟨_,(aF (cZ (j:=3) nd rfl rfl rfl (ix:=[]) (bT rfl ZB (aA (bB cH rfl Zx bU (aA (dv 0) aD)) aD)) (fun C fp s0 H0 at0=>cG) (fun C fp s0 H0 at0=>(bQ (aA aJ (aA (dv 0) (aA aY aD))))) rfl rfl (by rfl) (show ([".0","_law_post"]:List Str).Nodup by decide +kernel)) (aF (cO YR rfl (uP rfl ZB (aA aJ (aA (bB cH rfl Zx bU (aA (bG bW (dv 0) (dv 1) (fun _ _=>rfl)) aD)) aD))) (cC (i:=4) nd rfl (Or.inl rfl)) (aG (cO YR rfl (bT rfl ZB (aA (bB cH rfl Zx bU (aA (dv 0) aD)) aD)) (cC (i:=5) nd rfl (Or.inl rfl)) (aG (bF (PW.pt (fO (aX iU (dv 5) (dv 1) (aR _)) (eU (aX cV (aP ZbQ.1 (hr.mono (by decide)) rfl ZbQ.2.2.2 ZbQ.2.2.1 ZbQ.2.1 .nil aN (aA (bG bW (dv 0) (dv 1) (fun _ _=>rfl)) (aA (bG bW (dv 0) (dv 5) (fun _ _=>rfl)) aD))) (dv 4) (aR _))))) (aG (aZ (bO (dv 3) (aA (bQ (aA (dv 4) (aA (dv 5) (aA aY aD)))) aD)))) aV))))) (aF (cO YR rfl (bT rfl ZB (aA (bB cH rfl Zx bU (aA (dv 0) aD)) aD)) (cC (i:=5) nd rfl (Or.inl rfl)) (aG (aZ (bO (dv 3) (aA (bQ (aA (dv 2) (aA (dv 5) (aA (bG bW (bN (aA aY (aA aY aD))) (cR a5V rfl ZkT a5K (aA (cD cV (dv 5) (dv 1) (aR _)) aD)) (fun _ _=>rfl)) aD)))) aD))))) (aG (aM (dv 3)))))),?_⟩
 have w1:=hk 0
 refine⟨_,.inl (SqL.of ewl),⟨by rw[Ya];omega,by rw[Ya];omega⟩,?_⟩
 rw[Ya,l1,YD]
 refine cQ (lo:=0) (n:=m) (fun i ys H'=>Same H H'/\EvsAt H' ys (evA (wd54 q kk e) 0 i)) ?_ ?_ ?_ ?_
 ·rintro i ys H' hi ⟨_,hE⟩
  rw[hE.len]
  have:=gW (wd54 q kk e) 0 i
  exact bI (by omega)
 ·exact⟨Same.refl _,.nil⟩
 ·rintro i ys H' hi ⟨g,hE⟩
  conv=>whnf
  refine⟨aK rfl,fun t ht=>?_⟩
  rw[Xo]
  have g1:=aH ht (.tup [.int 0,.int ((i:Nat):Int),.str "begins"])
  have et:=aB (H:=H') (a:=t) (o:= .tup [.int 0,.int ((i:Nat):Int),.str "begins"])
  generalize upd H' t _=H1 at g1 et
  refine⟨g.trans g1,?_⟩
  show EvsAt H1 _ (evA (wd54 q kk e) 0 i++evt 0 i (wd54 q kk e i 0))
  rw[a7A]
  exact(hE.imp fun x xs z=>g1 _ _ z).snoc (e:=(0,i,"begins")) et
 rintro ys H1 ⟨g1,hE⟩ l hl
 have dl0:DL H (upd H1 l (.lst ys)) l (evR (wd54 q kk e) m 1):=⟨g1.none hl,g1.trans (aH hl _),ys,aB,hE.imp fun x xs z=>aH hl _ _ _ z⟩
 generalize upd H1 l _=H2 at dl0
 obtain⟨aq,haq⟩:∃a,was[q]? =some a:=⟨_,Yb (by omega)⟩
 have eaq:=hw q aq wq haq ewq
 have atq:atI (was.map V.ref) ((q:Nat):Int)=some (.ref aq):=bV (by rw[Yj,haq];rfl)
 refine⟨_,_,SqL.of (dl0.same _ _ ewl),atq,_,.inl (SqL.of (dl0.same _ _ eaq)),⟨by decide,by decide,by rw[Ya];omega,by rw[Ya];omega⟩,?_⟩
 rw[Ya,show (((wq.length:Nat):Int)-1).toNat=wq.length-1 by omega]
 refine cT (lo:=1) (n:=wq.length-1) (fun i σ H'=>(∃x y,σ= [some (.ref wl),some (.int ((q:Nat):Int)),some (.int ((e:Nat):Int)),some (.ref l),x,y])/\DL H H' l (evR (wd54 q kk e) m (1+i))) ⟨⟨_,_,rfl⟩,dl0⟩ ?_ ?_
 ·rintro i σ H3 hi ⟨⟨x,y,rfl⟩,dl⟩
  refine⟨_,.inl (SqL.of (dl.same _ _ ewl)),⟨by rw[Ya];omega,by rw[Ya];omega⟩,?_⟩
  rw[Ya,l1,YD]
  refine cT (lo:=0) (n:=m) (fun j σ H'=>(∃y,σ= [some (.ref wl),some (.int ((q:Nat):Int)),some (.int ((e:Nat):Int)),some (.ref l),some (.int (1+((i:Nat):Int))),y])/\DL H H' l (evR (wd54 q kk e) m (1+i)++evA (wd54 q kk e) (1+i) j)) ⟨⟨_,rfl⟩,by show DL H H3 l (_++[]);rw[YJ];exact dl⟩ ?_ ?_
  ·rintro j σ H4 hj ⟨⟨y,rfl⟩,dl4⟩
   have go:∀(ll:Bool),wd54 q kk e j (1+i)=(if ll=true then ("loses":Str) else ("":Str))->evR (wd54 q kk e) m (1+i)++evA (wd54 q kk e) (1+i) (j+1)=evR (wd54 q kk e) m (1+i)++evA (wd54 q kk e) (1+i) j++evt (1+i) j (if ll=true then ("loses":Str) else ("":Str)):=fun ll h=>by
    show _++(evA (wd54 q kk e) (1+i) j++evt (1+i) j (wd54 q kk e j (1+i)))=_
    rw[h,Yy]
   have wm:=wI (q:=q) (kk:=kk) (e:=e) (i:=j) (t:=1+i) (by omega) (by omega)
   conv=>whnf
   rw[Xo]
   have nop:¬ (j≠q/\kk j=1+i)->DL H H4 l (evR (wd54 q kk e) m (1+i)++evA (wd54 q kk e) (1+i) (j+1)):=fun z=>by
    rw[if_neg z]at wm
    rw[go false wm]
    show DL H H4 l (_++[])
    rw[YJ]
    exact dl4
   refine bK (fun c=>?_) (fun c=>?_)
   ·have c1:¬ ((j:Nat):Int)=((q:Nat):Int):=fun z=>by rw[z,Yl rfl]at c;cases c
    have jq:j≠q:=fun z=>c1 (YF _ z)
    obtain⟨aj,haj⟩:∃a,was[j]? =some a:=⟨_,Yb (by omega)⟩
    obtain⟨wj,hwj⟩:∃w,ws[j]? =some w:=⟨_,Yb (by omega)⟩
    refine⟨_,_,SqL.of (dl4.same _ _ ewl),atq,_,_,SqL.of (dl4.same _ _ ewl),bV (by rw[Yj,haj];rfl),aq,aj,wq,wj,kk j,rfl,dl4.same _ _ eaq,dl4.same _ _ (hw j aj wj haj hwj),hp j wj jq hwj,hk j,?_⟩
    conv=>whnf
    refine bK (fun c2=>?_) (fun c2=>?_)
    ·have c3:kk j=1+i:=by have:=dec_true c2;omega
     rw[if_pos ⟨jq,c3⟩]at wm
     obtain⟨vs4,ev4,_⟩:=dl4.ex
     refine⟨⟨_,SqL.of ev4⟩,aK rfl,fun t ht=>?_⟩
     obtain⟨vs5,e5,ln5,dl5⟩:=dl4.app (e:=(1+i,j,"loses")) ht
     refine⟨vs5,e5,bI ?_,⟨_,rfl⟩,?_⟩
     ·have h1:=jD (wd54 q kk e) m5 (1+i)
      have h2:=gW (wd54 q kk e) (1+i) j
      rw[ln5,Yc]
      omega
     ·rw[go true wm]
      exact dl5
    ·exact⟨⟨_,rfl⟩,nop fun z=>dec_false c2 (by have:=z.2;omega)⟩
   ·have c1:((j:Nat):Int)=((q:Nat):Int):=by
     by_cases z:((j:Nat):Int)=((q:Nat):Int)
     ·exact z
     ·rw[Ym z]at c;exact absurd rfl c
    exact⟨⟨_,rfl⟩,nop fun z=>z.1 (by omega)⟩
  ·rintro σ H4 ⟨⟨y,rfl⟩,dl4⟩
   exact⟨⟨_,_,rfl⟩,dl4⟩
 rintro σ H3 ⟨⟨x,y,rfl⟩,dl⟩
 rw[show 1+(wq.length-1)=wq.length by omega]at dl
 refine⟨_,.inl (SqL.of (dl.same _ _ ewl)),⟨by rw[Ya];omega,by rw[Ya];omega⟩,?_⟩
 rw[Ya,l1,YD]
 refine cT (lo:=0) (n:=m) (fun j σ H'=>(∃y,σ= [some (.ref wl),some (.int ((q:Nat):Int)),some (.int ((e:Nat):Int)),some (.ref l),x,y])/\DL H H' l (evR (wd54 q kk e) m wq.length++evA (wd54 q kk e) e j)) ⟨⟨_,rfl⟩,by show DL H H3 l (_++[]);rw[YJ];exact dl⟩ ?_ ?_
 ·rintro j σ H4 hj ⟨⟨y,rfl⟩,dl4⟩
  have we':=a6Z (q:=q) (kk:=kk) (e:=e) (i:=j) (by omega) (by have:=hk j;omega)
  obtain⟨vs4,ev4,_⟩:=dl4.ex
  refine⟨⟨_,SqL.of ev4⟩,aK rfl,fun s hs=>?_⟩
  have gs:=aH hs (.lst [.str "takes",.str "done"])
  have es:=aB (H:=H4) (a:=s) (o:= .lst [.str "takes",.str "done"])
  have dl5:DL H (upd H4 s (.lst [.str "takes",.str "done"])) l (evR (wd54 q kk e) m wq.length++evA (wd54 q kk e) e j):=⟨dl4.nl,dl4.same.trans gs,let ⟨vs,a,b⟩:=dl4.ex;⟨vs,gs _ _ a,b.imp fun x xs z=>gs _ _ z⟩⟩
  generalize upd H4 s _=H5 at es dl5
  have fin:∀wd:Str,wd54 q kk e j e=wd->wd≠""->∀t,H5 t=none->∃vs5,upd H5 t (.tup [.int ((e:Nat):Int),.int ((j:Nat):Int),.str wd]) l=some (.lst vs5)/\vs5.length<sizeLine/\DL H (upd (upd H5 t (.tup [.int ((e:Nat):Int),.int ((j:Nat):Int),.str wd])) l (.lst (vs5++[.ref t]))) l (evR (wd54 q kk e) m wq.length++evA (wd54 q kk e) e (j+1)):=fun wd h hne t ht=>by
   obtain⟨vs5,e5,ln5,dl6⟩:=dl5.app (e:=(e,j,wd)) ht
   refine⟨vs5,e5,bI ?_,?_⟩
   ·have h1:=jD (wd54 q kk e) m5 wq.length
    have h2:=gW (wd54 q kk e) e j
    rw[ln5,Yc]
    omega
   ·show DL _ _ _ (_++(evA (wd54 q kk e) e j++evt e j (wd54 q kk e j e)))
    rw[h,<-Yy]
    unfold evt
    rw[if_neg hne]
    exact dl6
  conv=>whnf
  rw[Xo]
  by_cases c:j=q
  ·subst c
   rw[if_pos rfl]at we'
   rw[Yl rfl]
   refine⟨_,_,SqL.of es,(rfl:atI [V.str "takes",.str "done"] 1=some (.str "done")),aK rfl,fun t ht=>?_⟩
   obtain⟨vs5,e5,h5,dl6⟩:=fin _ we' (by decide +kernel) t ht
   exact⟨vs5,e5,h5,⟨_,rfl⟩,dl6⟩
  ·rw[if_neg c]at we'
   rw[Ym fun z=>c (by omega)]
   refine⟨_,_,SqL.of es,(rfl:atI [V.str "takes",.str "done"] 0=some (.str "takes")),aK rfl,fun t ht=>?_⟩
   obtain⟨vs5,e5,h5,dl6⟩:=fin _ we' (by decide +kernel) t ht
   exact⟨vs5,e5,h5,⟨_,rfl⟩,dl6⟩
 rintro σ H4 ⟨⟨y,rfl⟩,dl4⟩
 obtain⟨vs,el,hE⟩:=dl4.ex
 refine Qq l vs H4 dl4.nl dl4.same el ?_
 show EvsAt H4 vs (evR (wd54 q kk e) m e++evA (wd54 q kk e) e m)
 rw[tG (a:=wq.length) e we fun t h1 h2 i hi=>?_]
 ·exact hE
 ·rw[wI (by omega) h2,if_neg fun z=>?_]
  have:=hk i
  omega
variable (Zbh:FB P w K mg base (CX0) 10 "_law_named" ZfK Zig ["_law_rail","_law_post","_law_name"] (spNamed54 K Zm CA))
include Zn ZK Z6 ZcK Zb Zak ZdK ZaU in
theorem ZkG (F0:GFm K mg "_law_named" Ziy ZfK Zig):type_of% Zbh:=by
 refine fbM ["_law_rail","_law_post","_law_name","_law_refused"] F0 fun Sc0=>F0.F.ok Sc0 (fun vs H Q E h=>?_) fun cdv A outer s H vs Q E hr h=>?_
 ·obtain⟨r,R,o,w,i,n,j,S,rfl,_⟩:=h
  rfl
 obtain⟨r,R,o,w,i,n,j,S,rfl,hR,eS,hn,how,hwt,hv,q1,q2⟩:=h
 have nd:=Sc0.nd
 refine⟨_,(aF (aW (i:=3) nd rfl (Or.inl rfl) dX) (aF (a1G (fun pins0 σ0 EX=>(aG (aZ (yJ Zb Zak ZaU.1 (hr.mono (by decide)) ZaU.2 .nil (dv 0) (aA (dv 1) (aA (dv 2) (aA (bN (aA aJ aD)) aD))))))) (a6C rfl ZcK (fun ev=>(aG (aW (i:=3) nd rfl (Or.inl rfl) dX))) a3Y) rfl rfl) (aG (aM (dv 3))))),?_⟩
 refine⟨⟨w.dx,_,hR.er,rfl⟩,aK rfl,fun l hl=>?_⟩
 have g1:=aH hl (.lst [.int 5])
 have el:=aB (H:=H) (a:=l) (o:= .lst [.int 5])
 generalize upd H l _=H1 at g1 el
 have hi:=(Yg.mp eS).1
 have fo:FrOk ((n:Nat):Int) [5]:=(FrN.ok (f:=(n, [5])) ⟨hn,(by decide:1<=7),rfl⟩)
 refine⟨rfl,r,R,o,w,_,_,l, [5],rfl,hR.same g1,SqL.of el,by decide,how,hwt,fun no=>absurd ⟨by omega,by omega⟩ no,fun _ no=>absurd fo no,fun i' S' ei eS' _=>?_⟩
 have:i'=i:=by omega
 subst this
 rw[eS]at eS'
 cases eS'
 refine⟨j,by rw[hv];rfl,fun ne H2 g2=> .inl ⟨ZdK,fun x hx=>?_⟩,fun e H2 o' hR' m=>?_⟩
 ·exact q1 ne _ ((g1.trans g2).trans (aH hx _))
 ·exact q2 e H2 o' hR' ((Mv.of g1).trans m)
variable (ZlU:FB P w K mg base (CX0) 15 "law" ZlE ZlQ ["_law_script"] (spLaw54 K))
include Zn ZcX ZK Z6 ZcK ZB ZaD Zx Zhd Zb Zeg Zak Zb4 Zcm ZbA ZbB ZaA Zcl ZbC ZcT ZaU Zca Zcc ZaF Zdb Zcb ZcS Zdc Zc ZbR Zbi Za1 ZaM Zch Zbh in
theorem ZlS (F0:GFm K mg "law" ZlR ZlE ZlQ):type_of% ZlU:=by
 refine fbM ["_law_script","_law_many","_law_votes","_law_names_here","_law_frames_here","_law_choices_here","_law_rail","_law_post","_law_least","_law_wires","_law_due_here","_law_got","_law_waits"] F0 fun Sc0=>F0.F.ok Sc0 (fun vs H Q E h=>?_) fun cdv A outer s H vs Q E hr h=>?_
 ·obtain⟨a,ss,rfl,_⟩:=h
  rfl
 obtain⟨a,ss,rfl,hS,h63,q0⟩:=h
 have nd:=Sc0.nd
 refine⟨_,(aF (aW (i:=1) nd rfl (Or.inl rfl) (bR (aU bZ aJ (aP Zc.1 (hr.mono (by decide)) rfl Zc.2.2.2 Zc.2.2.1 Zc.2.1 .nil aN (aA (dv 0) (aA aJ (aA aJ aD))))))) (aF (aW (i:=2) nd rfl (Or.inl rfl) (bG bW (bN (aA aJ (aA aJ (aA aJ aD)))) (aP Zc.1 (hr.mono (by decide)) rfl Zc.2.2.2 Zc.2.2.1 Zc.2.1 .nil aN (aA (dv 0) (aA aJ (aA aJ aD)))) (fun _ _=>rfl))) (aF (aW (i:=3) nd rfl (Or.inl rfl) (aP Zbi.1 (hr.mono (by decide)) rfl Zbi.2.2.2 Zbi.2.2.1 Zbi.2.1 .nil aN (aA (dv 0) (aA (dv 1) aD)))) (aF (aW (i:=4) nd rfl (Or.inl rfl) (aP Za1.1 (hr.mono (by decide)) rfl Za1.2.2.2 Za1.2.2.1 Za1.2.1 .nil aN (aA (dv 0) (aA (dv 3) aD)))) (aF (aW (i:=5) nd rfl (Or.inl rfl) (aP ZaM.1 (hr.mono (by decide)) rfl ZaM.2.2.2 ZaM.2.2.1 ZaM.2.1 .nil aN (aA (dv 0) (aA (dv 3) aD)))) (aF (aW (i:=6) nd rfl (Or.inl rfl) (cA Zeg ZcT.1 (hr.mono (by decide)) rfl Z6 ZcT.2 .nil dF (aA (dv 5) (aA (dv 2) aD)))) (aF (cO YR rfl (bT rfl ZB (aA (dv 1) aD)) (cC (i:=7) nd rfl (Or.inl rfl)) (aG (aZ (bH Zb Zak ZaU.1 (hr.mono (by decide)) ZaU.2 .nil dF (dv 6) (aA (dv 7) (aA (bG dG (bG bW (dv 4) (dv 7) (fun _ _=>rfl)) aJ (fun _ _=>rfl)) (aA (cR dM rfl ZaD fC (aA (bG dG (bG bW (dv 4) (dv 7) (fun _ _=>rfl)) aJ (fun _ _=>rfl)) aD)) aD))))))) (aF (aW (i:=8) nd rfl (Or.inl rfl) (yK (dv 3) (aA (bB (wB rfl) rfl Zhd a0G (aA (dv 3) aD)) aD))) (aF (cZ (j:=9) nd rfl rfl rfl (ix:=[]) (cM (dv 4)) (fun C fp s0 H0 at0=>cG) (fun C fp s0 H0 at0=>(aP ZbR.1 (hr.mono (by decide)) rfl ZbR.2.2.2 ZbR.2.2.1 ZbR.2.1 .nil aN (aA (dv 0) aD))) rfl rfl (by rfl) (show ([".0","_law_frame"]:List Str).Nodup by decide +kernel)) (aF (aW (i:=10) nd rfl (Or.inl rfl) (aU fJ (aU fJ (bG bW (dv 9) (dv 8) (fun _ _=>rfl)) (bN (aA aJ (aA aJ aD)))) (aU rG (bN (aA aJ aD)) (aU bZ aJ (dv 2))))) (aF (bF (PW.pt (lL (aX (a2V hr.units) (bH Zb Zcm Zdc.1 (hr.mono (by decide)) Zdc.2 .nil aN (dv 6) (aA (bB cH rfl Zx bU (aA (dv 10) aD)) (aA jT aD))) (dv 10) (aR _)) (jP (aX (a2V hr.units) (bD Zb Zb4 ZcS.1 (hr.mono (by decide)) ZcS.2 .nil aN (dv 6)) (dv 10) (aR _))))) (aG (aM dX)) aV) (aF (bF (aX (nZ hr.units) (bD Zb ZbA Zca.1 (hr.mono (by decide)) Zca.2 .nil aN (dv 6)) (aP Zch.1 (hr.mono (by decide)) rfl Zch.2.2.2 Zch.2.2.1 Zch.2.1 .nil aN (aA (dv 9) (aA (dv 8) (aA (aU gB (bB cH rfl Zx bU (aA (dv 10) aD)) aJ) aD)))) (aR _)) (aG (aM dX)) aV) (aF (cO YR rfl (bT rfl ZB (aA (dv 1) aD)) (cC (i:=7) nd rfl (Or.inl rfl)) (aF (aW (i:=11) nd rfl (Or.inl rfl) (bN aD)) (aF (gC (bF (PW.pt (fO (aX iU (dv 7) (dv 8) (aR _)) (eU (aX cV (aU oA (bG bW (dv 3) (dv 8) (fun _ _=>rfl)) (bG dG (bG bW (dv 5) (dv 7) (fun _ _=>rfl)) aJ (fun _ _=>rfl))) (bG dG (bG bW (dv 5) (dv 7) (fun _ _=>rfl)) aJ (fun _ _=>rfl)) (aR _))))) (aG (aW (i:=11) nd rfl (Or.inl rfl) (bN (aA (bG bW (dv 4) (dv 8) (fun _ _=>rfl)) aD)))) aV)) (aF (aW (i:=12) nd rfl (Or.inl rfl) (bN (aA (bG bW (dv 4) (dv 7) (fun _ _=>rfl)) aD))) (aF (gC (bF (aX cV (dv 7) (dv 8) (aR _)) (aG (aW (i:=12) nd rfl (Or.inl rfl) (bN aD))) aV)) (aF (bF (PW.pt (lL (aX (nZ hr.units) (bH Zb Zcl Zdb.1 (hr.mono (by decide)) Zdb.2 .nil dF (dv 6) (aA (dv 7) aD)) (dv 11) (aR _)) (lL (aX (nZ hr.units) (bH Zb ZaA ZaF.1 (hr.mono (by decide)) ZaF.2 .nil dF (dv 6) (aA (dv 7) aD)) (dv 12) (aR _)) (jP (aX iU (bH Zb ZbB Zcb.1 (hr.mono (by decide)) Zcb.2 .nil dF (dv 6) (aA (dv 7) aD)) aJ (aR _)))))) (aG (aM dX)) aV) (aF (bF (PW.pt (lL (aX (nZ hr.units) (bH Zb ZbC Zcc.1 (hr.mono (by decide)) Zcc.2 .nil dF (dv 6) (aA (dv 7) aD)) (bQ (aA aY (aA aJ aD))) (aR _)) (jP (aX iU (aP Zbh.1 (hr.mono (by decide)) rfl Zbh.2.2.2 Zbh.2.2.1 Zbh.2.1 .nil aN (aA (dv 6) (aA (dv 7) (aA (bG bW (dv 3) (dv 8) (fun _ _=>rfl)) aD)))) (cD iU (dv 7) (dv 8) (aR _)) (aR _))))) (aG (aM dX)) aV) (aG (bF (PW.pt (fO (aX iU (dv 7) (dv 8) (aR _)) (eU (aX (nZ hr.units) (bH Zb ZaA ZaF.1 (hr.mono (by decide)) ZaF.2 .nil dF (dv 6) (aA (dv 7) aD)) (dv 12) (aR _))))) (aG (aM dX)) aV))))))))) (aG (aM (cD (a5X hr.units) (bH Zb ZaA ZaF.1 (hr.mono (by decide)) ZaF.2 .nil dF (dv 6) (aA (dv 8) aD)) (bN (aA (bQ (aA (bG bW (dv 3) (dv 8) (fun _ _=>rfl)) (aA (bN (aA aJ aD)) aD))) aD)) (aR _))))))))))))))))),?_⟩
 refine⟨fun x H'=>∃m:Nat,x= .int ((m:Nat):Int)/\2<=m/\m<=5/\H=H',?_,?_⟩
 ·exact⟨a,ss,0,4,rfl,hS,h63,by decide,by decide,by decide,fun z z0 z1=>⟨(2+z).toNat,YF V.int (by omega),by omega,by omega,rfl⟩⟩
 rintro x H1 ⟨m,rfl,m2,m5,rfl⟩
 refine⟨aK rfl,fun l2 hl2=>?_⟩
 have g2:=aH hl2 (.lst [.int 1,.int 3,.int 5])
 have e2:=aB (H:=H) (a:=l2) (o:= .lst [.int 1,.int 3,.int 5])
 generalize upd H l2 _=H2 at g2 e2
 refine⟨a,ss,1,3,rfl,g2.seq hS,h63,by decide,by decide,by decide,fun z z0 z1=>?_⟩
 obtain⟨v,hat,hv⟩:∃v:Nat,atI [V.int 1,.int 3,.int 5] z=some (.int ((v:Nat):Int))/\(v=1\/v=3\/v=5):=by
  have:z=0\/z=1\/z=2:=by omega
  rcases this with rfl | rfl | rfl
  ·exact⟨1,rfl,by decide⟩
  ·exact⟨3,rfl,by decide⟩
  ·exact⟨5,rfl,by decide⟩
 refine⟨_,_,SqL.of e2,hat,?_⟩
 refine⟨a,ss,m,rfl,g2.seq hS,h63,m2,m5,fun nl ns H3 hnl g3 enl hN=>?_⟩
 have g13:=g2.trans g3
 refine⟨a,ss,nl,ns,m,rfl,g13.seq hS,h63,enl,hN,m5,fun fl xs fs H4 hfl g4 efl hF hfn hok=>?_⟩
 have g14:=g13.trans g4
 refine⟨a,ss,nl,ns,m,rfl,g14.seq hS,h63,g4 _ _ enl,hN,by omega,m5,fun cl ms H5 hcl g5 hC lm hb=>?_⟩
 have okm:∀c∈ms.map (fun c=>(((c.1:Nat):Int),((c.2:Nat):Int))),PoOk c.1 c.2 ((v:Nat):Int):=fun c hc=>by
  obtain⟨d,hd,rfl⟩:=Xg.mp hc
  have:=hb d hd
  exact⟨dJ.mpr ⟨by show (0:Int)<=((d.1:Nat):Int);omega,by show ((d.1:Nat):Int)<=255;omega⟩,dJ.mpr ⟨by show (0:Int)<=((d.2:Nat):Int);omega,by show ((d.2:Nat):Int)<=255;omega⟩,by omega⟩
 have lmm:(ms.map fun c=>(((c.1:Nat):Int),((c.2:Nat):Int))).length=m:=by rw[Ya,lm]
 refine fun r dr hr hdr hne=>⟨r,dr,cl,_,_,rfl,aB,hC.keep (fun x u _ e=>by rw[aL (aQ e hr),aL (aQ e hdr)];exact e),by omega,fun _ H6 o hR hin hk=>⟨rfl,?_⟩,fun no=>absurd ⟨⟨by omega,by omega⟩,okm⟩ no⟩
 obtain⟨no,g6⟩:=yN hr hdr hin hk
 have j6:J54 Zm CA H5 H6 r (R0 (ms.map fun c=>(((c.1:Nat):Int),((c.2:Nat):Int))) ((v:Nat):Int)) o:=⟨hR,fun x u e=>⟨g6 _ _ e,fun z=>by rw[no x z]at e;cases e⟩⟩
 have h6:=H54.start ms v fs lm
 have enl5:=g5 _ _ (g4 _ _ enl)
 have efl5:=g5 _ _ efl
 obtain⟨ts,ecl,tl,tt⟩:=hC
 rw[lmm]at tl
 have fat:=(hF.same g5).at_
 have lxs:xs.length=fs.length:=hF.len
 have fget:∀{j:Nat}{f:Fr},fs[j]? =some f->∃t d,xs[j]? =some (.ref t)/\H5 t=some (.tup [.int ((f.1:Nat):Int),.ref d])/\H5 d=some (.lst (f.2.map V.int)):=fun {j f} ef=>by
  have hj:j<xs.length:=by rw[lxs];exact(Yg.mp ef).1
  obtain⟨t,f',ev,ef',d,e1,e2,_⟩:=fat.get (Yb hj)
  rw[ef]at ef'
  cases ef'
  exact⟨t,d,by rw[Yb hj,ev],e1,e2⟩
 have lf:fs.length=m:=by rw[<-hN.len,<-hfn,Ya]
 have nget:∀{j:Nat}{f:Fr},fs[j]? =some f->ns[j]? =some f.1:=fun {j f} ef=>by rw[<-hfn,Yj,ef];rfl
 have k54:F54 ms fs m:=⟨lm,lf,hok,fun i j f g e1 e2 e=>iG hN.nd (nget e1) (by rw[nget e2,e])⟩
 generalize R0 (ms.map fun c=>(((c.1:Nat):Int),((c.2:Nat):Int))) ((v:Nat):Int)=R6 at j6 h6
 clear okm hin hk no g6 hR hF fat g4 enl hfl efl e2 hl2 hat z0 z1 hcl hnl hne hr hdr
 refine⟨⟨by omega,by omega⟩,?_⟩
 rw[YD]
 refine cT (lo:=0) (n:=m) (fun i σ H'=>(∃x,σ= [some (.ref a),some (.int ((m:Nat):Int)),some (.int ((v:Nat):Int)),some (.ref nl),some (.ref fl),some (.ref cl),some (.ref r),x,none,none,none,none,none])/\∃R o,J54 Zm CA H5 H' r R o/\H54 ms v fs m i R) ⟨⟨_,rfl⟩,_,_,j6,h6⟩ ?_ ?_
 ·rintro i σ H7 hi ⟨⟨x,rfl⟩,R,o,j,h⟩
  obtain⟨w,hR⟩:=j.rl
  obtain⟨f,ef⟩:∃f,fs[i]? =some f:=⟨_,Yb (by omega)⟩
  obtain⟨t,d,e1,e2,e3⟩:=fget ef
  obtain⟨fo,f3⟩:=hok f (Yw ef)
  have at1:atI xs (0+((i:Nat):Int))=some (.ref t):=by rw[Xo];exact bV e1
  refine⟨⟨w.dx,_,hR.er,rfl⟩,_,_,SqL.of (j.sm _ _ efl5),at1,_,_,SqT.of (j.sm _ _ e2),rfl,_,_,SqL.of (j.sm _ _ efl5),at1,_,_,SqT.of (j.sm _ _ e2),rfl,_,.inl (SqL.of (j.sm _ _ e3)),fun l hl=>?_⟩
  have g8:=aH hl (.lst (f.2.map V.int))
  have el:=aB (H:=H7) (a:=l) (o:= .lst (f.2.map V.int))
  have j8:=j.same g8
  generalize upd H7 l _=H8 at g8 el j8
  obtain⟨w8,hR8⟩:=j8.rl
  rw[Xo]
  refine⟨r,R,o,w8,_,_,l,f.2,rfl,hR8,SqL.of el,by omega,by have:=h.ol;omega,h.wtl k54,fun no=>absurd ⟨by omega,by rw[h.ln];omega⟩ no,fun _ no=>absurd fo.ok no,fun i' S ei eS _=>?_⟩
  have ei':i'=i:=by omega
  subst ei'
  have o0:=h.ow0 ((f.1:Nat):Int) fun j' g hj eg z=>by have:=k54.un j' i' g f eg ef (by omega);omega
  refine⟨((i':Nat):Int),by rw[o0];rfl,fun no=>absurd rfl no,fun _ H9 o9 hR9 m9=>⟨⟨_,rfl⟩,_,_,j8.mv hR9 m9,h.hand k54 ef eS⟩⟩
 rintro σ H7 ⟨⟨x7,rfl⟩,R7,o7,j7,h7⟩
 clear j6 h6
 have nne:nI ns≠ []:=fun z=>by have:=YF List.length z;rw[Ya,hN.len]at this;have:m=0:=this;omega
 refine⟨⟨_,j7.sm _ _ enl5⟩,nI ns,SqL.of (j7.sm _ _ enl5),nne,fun mn hmn hle=>?_⟩
 obtain⟨q,hq⟩:∃q:Nat,(nI ns)[q]? =some mn:=List.getElem?_of_mem hmn
 have hqm:q<m:=by have:=(Yg.mp hq).1;rw[Ya,hN.len]at this;exact this
 obtain⟨fq,efq⟩:∃f,fs[q]? =some f:=⟨_,Yb (by omega)⟩
 have emn:mn=((fq.1:Nat):Int):=by rw[Yj,nget efq]at hq;exact(Yt hq).symm
 subst emn
 have enq:=nget efq
 refine⟨nI ns,q,j7.sm _ _ enl5,by omega,hq,fun i hi z=>?_,?_⟩
 ·rw[Yj]at z
  obtain⟨y,hy,e⟩:=YZ.mp z
  have:y=fq.1:=by omega
  have:=iG hN.nd hy (this▸enq)
  omega
 have le:∀(j:Nat)(f:Fr),j≠q->fs[j]? =some f->fq.1<f.1:=fun j f hj ef=>by
  have h1:=hle ((f.1:Nat):Int) (Yw (by rw[Yj,nget ef];rfl))
  have h2:f.1≠fq.1:=fun z=>hj (k54.un j q f fq ef efq z)
  omega
 clear hle hmn hq nne
 have v1:1<=v:=by omega
 have v5:v<=5:=by omega
 obtain⟨kk,pk,kL,sz,tg54,ebits,ebo,eev,eow,eln,eps⟩:=a6U h7 k54 m2 m5 v1 v5 efq le
 obtain⟨fqo,fq3⟩:=hok fq (Yw efq)
 have hL:=iC fqo
 conv=>whnf
 refine⟨⟨_,SqL.of (j7.sm _ _ efl5)⟩,cU (xs:=xs) (fun i ys H'=>∃was:List Addr,ys=was.map V.ref/\was.length=i/\Same H7 H'/\∀(j:Nat)(b:Addr)(f:Fr),was[j]? =some b->fs[j]? =some f->H7 b=none/\H' b=some (.lst ((wr f.1 f.2).map V.int))) ?_ ?_ ?_ ?_ ?_⟩
 ·rintro i ys H' hi ⟨was,rfl,hw,_⟩
  rw[Ya]
  exact bI (by omega)
 ·exact⟨[],rfl,rfl,Same.refl _,fun j b f h=>by simp at h⟩
 ·rintro i ys H' hi ⟨was,rfl,hw,g,_⟩
  exact SqL.of (g _ _ (j7.sm _ _ efl5))
 ·rintro i x ys H' hx ⟨was,rfl,hw,g,hall⟩
  have hi:i<m:=by have:=(Yg.mp hx).1;omega
  obtain⟨f,ef⟩:∃f,fs[i]? =some f:=⟨_,Yb (by omega)⟩
  obtain⟨t,d,e1,e2,e3⟩:=fget ef
  rw[e1]at hx
  cases hx
  have fo:=(hok f (Yw ef)).1
  conv=>whnf
  refine⟨t,d,f.1,f.2,rfl,g _ _ (j7.sm _ _ e2),g _ _ (j7.sm _ _ e3),fo.1,fo.2.1,fo.2.2,fun p H8 hp g8 ep=>?_⟩
  refine⟨was++[p],by rw[Yk];rfl,by rw[Yc,hw];rfl,g.trans g8,fun j b f' h1 h2=>?_⟩
  by_cases c:j<i
  ·rw[YH (by omega)]at h1
   exact⟨(hall j b f' h1 h2).1,g8 _ _ (hall j b f' h1 h2).2⟩
  ·have hj:j=i:=by
    have:=(Yg.mp h1).1
    rw[Yc,hw]at this
    have:j<i+1:=this
    omega
   subst hj
   rw[Yz (by omega),hw,XI]at h1
   cases h1
   rw[ef]at h2
   cases h2
   exact⟨g.none hp,ep⟩
 rintro ys H8 ⟨was,rfl,hw,g8,hwas⟩ wl hwl
 rw[lxs,lf]at hw
 have g9:=aH hwl (.lst (was.map V.ref))
 have ewl:=aB (H:=H8) (a:=wl) (o:= .lst (was.map V.ref))
 have nwl:=g8.none hwl
 generalize upd H8 wl _=H9 at g9 ewl
 obtain⟨F9,j9,gF,nF⟩:=j7.grow (g8.trans g9)
 have ewl9:=nF _ _ nwl ewl
 have hwas9:∀(j:Nat)(b:Addr)(f:Fr),was[j]? =some b->fs[j]? =some f->F9 b=some (.lst ((wr f.1 f.2).map V.int)):=fun j b f h1 h2=>nF _ _ (hwas j b f h1 h2).1 (g9 _ _ (hwas j b f h1 h2).2)
 have efl9:=gF _ _ efl5
 have enl9:=gF _ _ enl5
 have ecl9:=gF _ _ ecl
 clear hwas ewl hwl g9 nF g8
 obtain⟨aq,haq⟩:∃b,was[q]? =some b:=⟨_,Yb (by omega)⟩
 have eaq:=hwas9 q aq fq haq efq
 have atq:atI (was.map V.ref) ((q:Nat):Int)=some (.ref aq):=bV (by rw[Yj,haq];rfl)
 refine⟨_,_,SqL.of (j9.sm _ _ ewl9),atq,aK rfl,fun s1 hs1=>?_⟩
 have k1:=aH hs1 (.lst [.int 1,.int 0])
 have es1:=aB (H:=H9) (a:=s1) (o:= .lst [.int 1,.int 0])
 generalize upd H9 s1 _=H10 at k1 es1
 refine⟨_,_,k1 _ _ (j9.sm _ _ eaq),es1,Xz (bI (by rw[Ya];show _+2<=1000;omega)),fun s2 hs2=>?_⟩
 have k2:=aH hs2 (.lst ((wr fq.1 fq.2).map V.int++[.int 1,.int 0]))
 have es2:=aB (H:=H10) (a:=s2) (o:= .lst ((wr fq.1 fq.2).map V.int++[.int 1,.int 0]))
 generalize upd H10 s2 _=H11 at k2 es2
 refine⟨aK rfl,fun s3 hs3=>?_⟩
 have k3:=aH hs3 (.lst [.int 1])
 have es3:=aB (H:=H11) (a:=s3) (o:= .lst [.int 1])
 generalize upd H11 s3 _=H12 at k3 es3
 have eu:((7:Int)+((v:Nat):Int)).toNat=7+v:=by omega
 refine⟨_,es3,⟨by omega,by omega⟩,by rw[eu];exact Xz (bI (by show 1*(7+v)<=1000;omega)),fun s4 hs4=>?_⟩
 rw[eu]
 have efl':(List.replicate (7+v) [V.int 1]).flatten=(List.replicate (7+v) (1:Int)).map V.int:=by
  generalize 7+v=n
  induction n with
  |zero=>rfl
  |succ n ih=>rw[Xc,Xb,ih,Xc,YE];rfl
 rw[efl']
 have k4:=aH hs4 (.lst ((List.replicate (7+v) (1:Int)).map V.int))
 have es4:=aB (H:=H12) (a:=s4) (o:= .lst ((List.replicate (7+v) (1:Int)).map V.int))
 generalize upd H12 s4 _=H13 at k4 es4
 refine⟨_,_,k4 _ _ (k3 _ _ es2),es4,Xz (bI (by rw[Yc,Ya,Ya,YA];show _+2+_<=1000;omega)),fun dl hdl=>?_⟩
 have edl:(wr fq.1 fq.2).map V.int++[.int 1,.int 0]++(List.replicate (7+v) (1:Int)).map V.int=(wr fq.1 fq.2++hd1 v).map V.int:=by
  rw[<-List.replicate_append_replicate]
  show _=(wr fq.1 fq.2++([1,0]++List.replicate 7 1++List.replicate v 1)).map V.int
  simp only[Yk,Yy]
  rfl
 rw[edl]
 have k5:=aH hdl (.lst ((wr fq.1 fq.2++hd1 v).map V.int))
 have es5:=aB (H:=H13) (a:=dl) (o:= .lst ((wr fq.1 fq.2++hd1 v).map V.int))
 have k14:=((k1.trans k2).trans k3).trans k4
 have ndl:=k14.none hdl
 generalize upd H13 dl _=H14 at k5 es5
 obtain⟨F14,j14,gF2,nF⟩:=j9.grow (k14.trans k5)
 have edl14:=nF _ _ ndl es5
 have ewl14:=gF2 _ _ ewl9
 have hwas14:∀(j:Nat)(b:Addr)(f:Fr),was[j]? =some b->fs[j]? =some f->F14 b=some (.lst ((wr f.1 f.2).map V.int)):=fun j b f h1 h2=>gF2 _ _ (hwas9 j b f h1 h2)
 have efl14:=gF2 _ _ efl9
 have enl14:=gF2 _ _ enl9
 have ecl14:=gF2 _ _ ecl9
 have gF5:=gF.trans gF2
 clear nF k1 k2 k3 k4 k5 es1 es2 es3 es4 es5 hs1 hs2 hs3 hs4 hdl edl efl' eu k14 j7 j9 gF gF2 efl9 enl9 ecl9 ewl9 hwas9 eaq efl5 enl5 ecl
 have lenD:((wr fq.1 fq.2++hd1 v).map V.int).length=(wr fq.1 fq.2).length+(9+v):=by rw[Ya,Yc,sY,YA]
 obtain⟨w14,hR14⟩:=j14.rl
 have ne7:R7.ps≠ []:=fun z=>by have:=h7.ln;rw[z]at this;have:0=m:=this;omega
 refine⟨⟨w14.dx,_,hR14.er,rfl⟩,_,.inl (SqL.of (j14.sm _ _ edl14)),?_⟩
 rw[lenD]
 refine⟨r,R7,o7,w14,(wr fq.1 fq.2).length+(9+v),rfl,hR14,ne7,by omega,sz,tg54,fun l15 H15 o15 hR15 m15 hl15=>?_⟩
 have j15:=j14.mv hR15 m15
 rw[ebits]
 generalize runR R7 ((wr fq.1 fq.2).length+(9+v))=R at ebo eev eow eln eps j15
 have p1:=aH hl15 (.lst ((wr fq.1 fq.2++hd1 v).map V.int))
 have e15:=aB (H:=H15) (a:=l15) (o:= .lst ((wr fq.1 fq.2++hd1 v).map V.int))
 have j16:=j15.same p1
 generalize upd H15 l15 _=H16 at p1 e15 j16
 refine⟨_,_,SqL.of e15,SqL.of (j16.sm _ _ edl14),?_⟩
 refine yZ rfl ?_
 obtain⟨w16,hR16⟩:=j16.rl
 refine⟨⟨w16.dx,_,hR16.er,rfl⟩,r,R,_,w16,rfl,hR16,fun l17 hl17=>?_⟩
 rw[ebo]
 have p2:=aH hl17 (.lst ((wr fq.1 fq.2++hd1 v).map V.int))
 have e17:=aB (H:=H16) (a:=l17) (o:= .lst ((wr fq.1 fq.2++hd1 v).map V.int))
 have j17:=j16.same p2
 generalize upd H16 l17 _=H17 at p2 e17 j17
 refine⟨_,_,SqL.of e17,SqL.of (j17.sm _ _ edl14),yZ rfl ?_⟩
 obtain⟨w17,hR17⟩:=j17.rl
 refine⟨⟨w17.dx,_,hR17.er,rfl⟩,r,R,_,w17,rfl,hR17,fun l18 hl18=>?_⟩
 have p3:=aH hl18 (.lst w17.evs)
 have e18:=aB (H:=H17) (a:=l18) (o:= .lst w17.evs)
 have E18:=hR17.ev.imp (fun x xs z=>p3 x _ z)
 have j18:=j17.same p3
 generalize upd H17 l18 _=H18 at p3 e18 E18 j18
 rw[eev]at E18
 refine⟨_,.inl (SqL.of (j18.sm _ _ edl14)),?_⟩
 rw[lenD]
 have el1:(((wr fq.1 fq.2).length+(9+v):Nat):Int)-1=(((wr fq.1 fq.2).length+(8+v):Nat):Int):=by omega
 refine⟨wl,was,fs.map (fun f=>wr f.1 f.2),q,(wr fq.1 fq.2).length+(8+v),m,kk,wr fq.1 fq.2,by rw[<-el1];rfl,j18.sm _ _ ewl14,hw,by rw[Ya,lf],m5,hqm,fun i b u h1 h2=>?_,by rw[Yj,efq];rfl,fun i u hi h2=>?_,kL,by omega,by omega,fun l19 vs19 H19 hl19 p4 e19 E19=>?_⟩
 ·rw[Yj]at h2
  obtain⟨f,ef,rfl⟩:=YZ.mp h2
  exact j18.sm _ _ (hwas14 i b f h1 ef)
 ·rw[Yj]at h2
  obtain⟨f,ef,rfl⟩:=YZ.mp h2
  exact pk i f hi ef
 rw[show (wr fq.1 fq.2).length+(8+v)+1=(wr fq.1 fq.2).length+(9+v) by omega]at E19
 have j19:=j18.same p4
 refine⟨_,.lst (SqL.of (p4 _ _ e18)) ((E18.imp fun x xs z=>p4 x _ z).dvs),.lst (SqL.of e19) E19.dvs,qY _ (zO (p:=fun s=>PyData.strOk s=true) (a0N q kk _) _),?_⟩
 conv=>whnf
 have E0:E54 ms v fs m q fq 0 R:=⟨eln,fun j c f e1 e2=>by rw[eps j c f e1 e2,a5F],by rw[eow];exact h7.ow1 q fq hqm efq,by rw[eow];have:=h7.ol;omega⟩
 clear E18 E19 e18 e19 e17 e15 p1 p2 p3 p4 hl15 hl17 hl18 hl19 j14 j15 j16 j17 j18 hR14 hR16 hR17 hR15 m15 eev ebits ebo sz eps eln eow pk kL lenD el1 hwas14 h7 ne7 atq haq
 refine⟨⟨by omega,by omega⟩,?_⟩
 rw[YD]
 have atn:atI ((nI ns).map V.int) ((q:Nat):Int)=some (.int ((fq.1:Nat):Int)):=bV (by rw[Yj,Yj,enq];rfl)
 obtain⟨tq,dq,q1,q2,q3⟩:=fget efq
 refine cT (lo:=0) (n:=m) (fun i σ H'=>(∃x y z,σ= [some (.ref a),some (.int ((m:Nat):Int)),some (.int ((v:Nat):Int)),some (.ref nl),some (.ref fl),some (.ref cl),some (.ref r),x,some (.int ((q:Nat):Int)),some (.ref wl),some (.ref dl),y,z])/\∃R o,J54 Zm CA F14 H' r R o/\E54 ms v fs m q fq i R) ⟨⟨_,_,_,rfl⟩,R,_,j19,E0⟩ ?_ ?_
 ·rintro i σ H20 hi ⟨⟨x,y,z,rfl⟩,Ri,oi,ji,Ei⟩
  rw[Xo]
  obtain⟨f,ef⟩:∃f,fs[i]? =some f:=⟨_,Yb (by omega)⟩
  obtain⟨c,ec⟩:∃c,ms[i]? =some c:=⟨_,Yb (by omega)⟩
  have eSi:=Ei.ps i c f ec ef
  obtain⟨t,d,t1,t2,t3⟩:=fget ef
  obtain⟨tc,htc⟩:∃t,ts[i]? =some t:=⟨_,Yb (by omega)⟩
  have etc:=gF5 _ _ (tt i tc _ htc (by rw[Yj,ec];rfl))
  have atc:atI (ts.map V.ref) ((i:Nat):Int)=some (.ref tc):=bV (by rw[Yj,htc];rfl)
  have iq:∀{b:Bool},b=decide (((i:Nat):Int)=((q:Nat):Int))->b=decide (i=q):=fun {b} h=>h.trans (decide_eq_decide.mpr ⟨fun z=>by omega,fun z=>by omega⟩)
  have dq_:decide (((i:Nat):Int)=((q:Nat):Int))=decide (i=q):=iq rfl
  refine⟨aK rfl,fun g0 hg0=>?_⟩
  have p1:=aH hg0 (.lst [])
  have eg0:=aB (H:=H20) (a:=g0) (o:= .lst [])
  generalize upd H20 g0 _=H21 at p1 eg0
  have j21:=ji.same p1
  refine⟨fun σ' H'=>(∃gl,σ'= [some (.ref a),some (.int ((m:Nat):Int)),some (.int ((v:Nat):Int)),some (.ref nl),some (.ref fl),some (.ref cl),some (.ref r),some (.int ((i:Nat):Int)),some (.int ((q:Nat):Int)),some (.ref wl),some (.ref dl),some (.ref gl),z]/\H' gl=some (.lst (if i≠q/\wantP (S0 c.1 c.2 v) fq.1=true then [V.ref tq] else [])))/\Same H21 H',?_,?_⟩
  ·conv =>whnf
   refine bK (fun c1=>?_) (fun c1=>?_)
   ·have iq1:i≠q:=fun z=>by rw[dq_,Yl z]at c1;cases c1
    refine⟨_,_,SqL.of (j21.sm _ _ enl14),atn,_,_,SqL.of (j21.sm _ _ ecl14),atc,_,_,SqT.of (j21.sm _ _ etc),rfl,_,_,SqL.of (j21.sm _ _ ecl14),atc,_,_,SqT.of (j21.sm _ _ etc),rfl,?_⟩
    conv=>whnf
    refine bK (fun c2=>?_) (fun c2=>?_)
    ·refine⟨_,_,SqL.of (j21.sm _ _ efl14),bV q1,aK rfl,fun gl hgl=>⟨⟨gl,rfl,?_⟩,aH hgl _⟩⟩
     rw[aB,if_pos ⟨iq1,c2⟩]
    ·exact⟨⟨g0,rfl,by rw[if_neg fun z=>c2 z.2];exact eg0⟩,Same.refl _⟩
   ·have iq1:¬ i≠q:=fun z=>c1 (by rw[dq_,Ym z];rfl)
    exact⟨⟨g0,rfl,by rw[if_neg fun z=>iq1 z.1];exact eg0⟩,Same.refl _⟩
  rintro σ' H22 ⟨⟨gl,rfl,egl⟩,p2⟩
  have j22:=j21.same p2
  refine⟨_,_,SqL.of (j22.sm _ _ efl14),bV t1,aK rfl,fun w0 hw0=>?_⟩
  have p3:=aH hw0 (.lst [.ref t])
  have ew0:=aB (H:=H22) (a:=w0) (o:= .lst [.ref t])
  generalize upd H22 w0 _=H23 at p3 ew0
  refine⟨fun σ' H'=>(∃wa,σ'= [some (.ref a),some (.int ((m:Nat):Int)),some (.int ((v:Nat):Int)),some (.ref nl),some (.ref fl),some (.ref cl),some (.ref r),some (.int ((i:Nat):Int)),some (.int ((q:Nat):Int)),some (.ref wl),some (.ref dl),some (.ref gl),some (.ref wa)]/\H' wa=some (.lst (if ¬ i=q then [V.ref t] else [])))/\Same H23 H',?_,?_⟩
  ·conv=>whnf
   refine bK (fun c1=>?_) (fun c1=>?_)
   ·have iq1:i=q:=by have:=dec_true c1;omega
    refine⟨aK rfl,fun wa hwa=>⟨⟨wa,rfl,?_⟩,aH hwa _⟩⟩
    rw[aB,if_neg fun z=>z iq1]
   ·have iq1:¬ i=q:=fun z=>dec_false c1 (by rw[z])
    exact⟨⟨w0,rfl,by rw[if_pos iq1];exact ew0⟩,Same.refl _⟩
  rintro σ' H24 ⟨⟨wa,rfl,ewa⟩,p4⟩
  have j24:=(j22.same p3).same p4
  have egl:=p4 _ _ (p3 _ _ egl)
  have til:((i:Nat):Int)<((Ri.ps.length:Nat):Int):=by rw[Ei.ln];omega
  have t24:=gF5 _ _ t2
  have d24:=gF5 _ _ t3
  have tq24:=gF5 _ _ q2
  have dq24:=gF5 _ _ q3
  clear p1 p2 p3 p4 eg0 ew0 hg0 hw0 j21 j22
  obtain⟨w24,hR24⟩:=j24.rl
  refine⟨⟨w24.dx,_,hR24.er,rfl⟩,r,Ri,oi,w24,_,rfl,hR24,fun i' S ei eS=>?_,fun no=>absurd ⟨by omega,til⟩ no⟩
  rw[show i'=i by omega,eSi]at eS
  cases eS
  refine⟨one_le,fun lg xg H25 hlg p5 elg Fg=>?_⟩
  have j25:=j24.same p5
  refine⟨_,.lst (SqL.of elg) Fg.at_.dvs,.lst (SqL.of (p5 _ _ egl)) (qL (j25.sm _ _ tq24) (j25.sm _ _ dq24)),fB _,?_⟩
  conv=>whnf
  obtain⟨w25,hR25⟩:=j25.rl
  refine⟨⟨w25.dx,_,hR25.er,rfl⟩,r,Ri,oi,w25,_,rfl,hR25,fun i' S ei eS=>?_,fun no=>absurd ⟨by omega,til⟩ no⟩
  rw[show i'=i by omega,eSi]at eS
  cases eS
  have ewt:(endI v q fq i i c f).wt=if ¬ i=q then [f] else []:=by rw[a2J,ite_no]
  refine⟨by rw[ewt];exact one_le,fun lw xw H26 hlw p6 elw Fw=>?_⟩
  rw[ewt]at Fw
  have j26:=j25.same p6
  refine⟨_,.lst (SqL.of elw) Fw.at_.dvs,.lst (SqL.of (p6 _ _ (p5 _ _ ewa))) (qL (j26.sm _ _ t24) (j26.sm _ _ d24)),fB _,?_⟩
  conv=>whnf
  obtain⟨w26,hR26⟩:=j26.rl
  refine⟨⟨w26.dx,_,hR26.er,rfl⟩,r,Ri,oi,w26,_,rfl,hR26,fun i' S ei eS=>?_,fun no=>absurd ⟨by omega,til⟩ no⟩
  rw[show i'=i by omega,eSi]at eS
  cases eS
  conv=>whnf
  refine⟨⟨w26.dx,_,hR26.er,rfl⟩,r,Ri,oi,w26,_,rfl,hR26,fun i' S ei eS=>?_,fun no=>absurd ⟨by omega,til⟩ no⟩
  rw[show i'=i by omega,eSi]at eS
  cases eS
  refine⟨⟨3,rfl⟩,?_⟩
  intro s7 H27 hs7 p7 es7
  have j27:=j26.same p7
  refine⟨aK rfl,fun s8 hs8=>?_⟩
  have p8:=aH hs8 (.tup [.str "rests",.int 3])
  have es8:=aB (H:=H27) (a:=s8) (o:= .tup [.str "rests",.int 3])
  have j28:=j27.same p8
  generalize upd H27 s8 _=H28 at p8 es8 j28
  refine⟨.tuple [.str "rests",.int 3],.tup (SqT.of (p8 _ _ es7)) (.cons (.str _) (.cons (.int _) .nil)),.tup (SqT.of es8) (.cons (.str _) (.cons (.int _) .nil)),(by decide +kernel),?_⟩
  conv=>whnf
  have ewa28:=p8 _ _ (p7 _ _ (p6 _ _ (p5 _ _ ewa)))
  clear p5 p6 p7 p8 es7 es8 hs7 hs8 elw elg Fw Fg hlw hlg hR24 hR25 hR26 j24 j25 j26 j27
  obtain⟨w28,hR28⟩:=j28.rl
  refine⟨_,_,SqL.of (j28.sm _ _ enl14),atn,r,Ri,oi,w28,i,fq.1,_,_,rfl,hR28,eSi,fqo.1,by have:=Ei.ol;omega,Ei.wtl k54,Ei.ow,fun ne H29 p9=>?_,fun e H29 o29 hR29 m29=>?_⟩
  ·have iq1:¬ i=q:=fun z=>ne (by rw[z])
   conv=>whnf
   rw[dq_,Ym iq1]
   conv=>whnf
   rw[dq_,Ym iq1]
   have j29:=j28.same p9
   obtain⟨w29,hR29⟩:=j29.rl
   refine⟨⟨w29.dx,_,hR29.er,rfl⟩,r,Ri,oi,w29,_,rfl,hR29,fun i' S ei eS=>?_,fun no=>absurd ⟨by omega,til⟩ no⟩
   rw[show i'=i by omega,eSi]at eS
   cases eS
   refine⟨by rw[ewt];exact one_le,fun lw xw H30 hlw p10 elw Fw=>?_⟩
   rw[ewt]at Fw
   have j30:=j29.same p10
   refine⟨_,.lst (SqL.of elw) Fw.at_.dvs,.lst (SqL.of (p10 _ _ (p9 _ _ ewa28))) (qL (j30.sm _ _ t24) (j30.sm _ _ d24)),fB _,?_⟩
   conv=>whnf
   exact⟨⟨_,_,_,rfl⟩,Ri,oi,j30,Ei.skip iq1⟩
  ·have iq1:i=q:=by omega
   conv=>whnf
   rw[dq_,Yl iq1]
   conv=>whnf
   rw[dq_,Yl iq1]
   have j29:=j28.mv hR29 m29
   refine⟨⟨_,_,_,rfl⟩,_,o29,j29,?_⟩
   subst iq1
   exact Ei.hand k54 eSi
 rintro σ H20 ⟨⟨x,y,z,rfl⟩,Ri,oi,ji,Ei⟩
 obtain⟨c,ec⟩:∃c,ms[q]? =some c:=⟨_,Yb (by omega)⟩
 have eSq:=Ei.ps q c fq ec efq
 obtain⟨w20,hR20⟩:=ji.rl
 refine⟨⟨w20.dx,_,hR20.er,rfl⟩,r,Ri,oi,w20,_,rfl,hR20,fun i' S ei eS=>?_,fun no=>absurd ⟨by omega,by rw[Ei.ln];omega⟩ no⟩
 rw[show i'=q by omega,eSq]at eS
 cases eS
 have ewq:=vM (v:=v) (fq:=fq) (c:=c) (f:=fq) hqm
 refine⟨by rw[ewq];exact(by decide:1<=900),fun lw xw H21 hlw p1 elw Fw=>?_⟩
 rw[ewq]at Fw
 have j21:=ji.same p1
 refine⟨_,_,SqL.of (j21.sm _ _ enl14),atn,aK rfl,fun d5 hd5=>?_⟩
 have p2:=aH hd5 (.lst [.int 5])
 have ed5:=aB (H:=H21) (a:=d5) (o:= .lst [.int 5])
 generalize upd H21 d5 _=H22 at p2 ed5
 refine⟨aK rfl,fun t5 ht5=>?_⟩
 have p3:=aH ht5 (.tup [.int ((fq.1:Nat):Int),.ref d5])
 have et5:=aB (H:=H22) (a:=t5) (o:= .tup [.int ((fq.1:Nat):Int),.ref d5])
 have ed5':=p3 _ _ ed5
 generalize upd H22 t5 _=H23 at p3 et5 ed5'
 refine⟨aK rfl,fun l5 hl5=>?_⟩
 have p4:=aH hl5 (.lst [.ref t5])
 have el5:=aB (H:=H23) (a:=l5) (o:= .lst [.ref t5])
 generalize upd H23 l5 _=H24 at p4 el5
 have pp:=(p2.trans p3).trans p4
 refine⟨_,.lst (SqL.of (pp _ _ elw)) (Fw.same pp).at_.dvs,.lst (SqL.of el5) (.cons (.tup (SqT.of (p4 _ _ et5)) (.cons (.int _) (.cons (DV.ints (ns:=[5]) (SqL.of (p4 _ _ ed5'))) .nil))) .nil),fB _,?_⟩
 exact q0 _
set_option maxHeartbeats 0 in
include ZbZ Zam Zdn ZG ZkQ Zbo Zdo ZdW Zn Zei ZeO ZeP ZaI Zc8 Zbp Zcn ZcL Zc9 Zek Zfp ZdM ZdO Zhc ZkR Zfo ZeN Zf6 ZcX ZK ZiF ZfV ZdN ZdV ZcW ZdU Zfq ZeM ZeQ ZgP Zc7 Z6 Zej ZjH ZcK ZB ZkS ZaD Zx ZkU Zhd ZeR ZkT Zdm Zee Zg Zf Zh Zbb Ze Z9 Zd Zdl ZL Zi ZC Zq ZbI ZcH Zai Za ZcI Zc4 ZdL ZbY Zba Zau Za9 ZcJ Zcp ZcM Zb Zef Zeg ZR ZA ZaB Za4 ZaR ZaK ZaC Zan Z5 Zae ZO ZaY Zbc Zby Zeh Zaa ZaZ Za3 ZaP ZaH Zaj Zaz Zbe Zbf ZbM Zay Zbd ZaO ZaG ZbD ZbE ZbO Zbv Zb0 ZbF ZbP Zbw Zl Zb1 Zb3 Zb2 Zbz ZbN Zck Zbx Za0 Zak Zb4 Zcm ZbA ZbB ZaA Zcl ZbC Z8 Zt Zw Zp ZE Zo ZW ZF ZQ Zz ZV Zao Zy Zaf ZbG ZaJ ZaQ Zap Zk Zj Zal ZH ZX ZJ ZD Z7 ZM Zag Zab ZP Zc2 Zdk Z0 ZT Zc3 ZdK in
theorem all_mk {l:W.OpenLaw}{fa:Addr}(hfa:mg "law"=some (.ref fa))
 (ZfE:GF K mg "heard_well" ZiB Zbn)
 (ZhV:GF K mg "bits_of" Zkr Zh1)
 (Zgv:GF K mg "number_of" Zjp ZgD)
 (Zgt:GF K mg "are_bytes" Zjn ZgB)
 (ZhW:GF K mg "divided" Zks Zh2)
 (ZhY:GF K mg "rest_of" Zku Zh4)
 (Zg7:GF K mg "check_of" ZjW Zha)
 (ZhX:GF K mg "is_name" Zkt Zh3)
 (Zjs:GF K mg "put_in" Zlk Zju)
 (Zfc:GF K mg "check_frame" ZhR Zfg)
 (ZfD:GF K mg "frame_bits" ZiA ZfM)
 (ZhZ:GF K mg "wire_of" Zkv Zh5)
 (Zgw:GF K mg "told_size" Zjq ZgE)
 (Zfe:GF K mg "is_complete" ZhT Zfi)
 (ZfF:GF K mg "read_frame" ZiC ZfN)
 (Zew:GF K mg "begun_reader" Zg1 Zez)
 (Zgu:GF K mg "is_wanted" Zjo ZgC)
 (Zjr:GF K mg "copies" Zlj Zjt)
 (ZfH:GF K mg "unless_off" ZiE ZfP)
 (Zg8:GF K mg "fault_of" ZjX Zhb)
 (ZfG:GF K mg "refusal_of" ZiD ZfO)
 (Zfd:GF K mg "check_votes" ZhS Zfh)
 (Zex:GF K mg "check_choice" Zg2 ZeA)
 (Zgq:GF K mg "_law_draw" Zjk Zgy)
 (Zgp:GF K mg "_law_bits" Zjj Zgx)
 (Zgs:GF K mg "_law_wire" Zjm ZgA)
 (ZfC:GF K mg "_law_names" Ziz ZfL)
 (Zfb:GF K mg "_law_frames" ZhQ Zff)
 (Zev:GF K mg "_law_choices" Zg0 Zey)
 (Zgr:GF K mg "_law_lost" Zjl Zgz)
 (Zg6:GF K mg "_law_due" ZjV Zg9)
 (ZfB:GF K mg "_law_named" Ziy ZfK)
 (ZjA:GF K mg "law" ZlR ZlE)
 (Zfa:MF K CA.streak "__init__" "Streak.__init__" ZhP ZdJ)
 (Zdp:MF K CA.streak "lengthen" "Streak.lengthen" Zfk Zco)
 (ZdT:MF K CA.streak "is_full" "Streak.is_full" Zf0 ZcG)
 (ZcB:MF K CA.streak "is_too_long" "Streak.is_too_long" Zen ZbL)
 (Ze5:MF K CA.reader "__init__" "Reader.__init__" ZhK ZdE)
 (Zd0:MF K CA.reader "judged" "Reader.judged" Zga Zc1)
 (Ze4:MF K CA.reader "hear" "Reader.hear" ZhJ ZdD)
 (Zet:MF K CA.reader "plain" "Reader.plain" ZgY Zdi)
 (Zes:MF K CA.reader "frame" "Reader.frame" ZgX Zdh)
 (Zgn:MF K Zdq "__init__" "Tail.__init__" Zjh ZeL)
 (Zgo:MF K Zdq "says" "Tail.says" Zji Zds)
 (ZfA:MF K Zdq "place" "Tail.place" Zix ZfJ)
 (Zd1:MF K Zdq "is_fault" "Tail.is_fault" Zgb Zcj)
 (Zc5:MF K Zdq "judged_vote" "Tail.judged_vote" ZeT Zbm)
 (Zgm:MF K Zdq "hear" "Tail.hear" Zjg Zdr)
 (ZdZ:MF K CA.rtail "__init__" "ReadTail.__init__" Zf9 Zc0)
 (ZdS:MF K CA.stail "__init__" "SpeakTail.__init__" ZfZ ZcF)
 (Zfs:MF K CA.count "__init__" "Count.__init__" Zip Zd3)
 (ZdP:MF K CA.count "is_quiet" "Count.is_quiet" ZfW ZcC)
 (Zeo:MF K CA.count "is_off" "Count.is_off" ZgT Zdd)
 (Zep:MF K CA.count "number" "Count.number" ZgU Zde)
 (Zft:MF K CA.count "move" "Count.move" Ziq Zd4)
 (ZeU:MF K CA.count "fault" "Count.fault" Zhz Zdt)
 (Zfr:MF K CA.count "good" "Count.good" Zio Zd2)
 (Zgc:MF K CA.free "__init__" "Free.__init__" Zi6 ZeB)
 (Ze7:MF K CA.speaks "__init__" "Speaks.__init__" ZhM ZdG)
 (Zfw:MF K CA.reads "__init__" "Reads.__init__" Zit Zd7)
 (ZeV:MF K CA.intail "__init__" "InTail.__init__" ZhA Zdu)
 (ZdX:MF K CA.flag "__init__" "Flagging.__init__" Zf7 ZcY)
 (Zeu:MF K CA.settles "__init__" "Settles.__init__" ZgZ Zdj)
 (Zfz:MF K CA.rests "__init__" "Rests.__init__" Ziw Zea)
 (ZdY:MF K CA.post "is_quiet" "Post.is_quiet" Zf8 ZcZ)
 (ZeZ:MF K CA.post "is_off" "Post.is_off" ZhE Zdy)
 (ZeY:MF K CA.post "faults" "Post.faults" ZhD Zdx)
 (ZdQ:MF K CA.post "has_frame" "Post.has_frame" ZfX ZcD)
 (ZcA:MF K CA.post "foremost_wire" "Post.foremost_wire" Zem ZbK)
 (Zcz:MF K CA.post "drop_foremost" "Post.drop_foremost" Zel ZbJ)
 (Zeq:MF K CA.post "hand_up" "Post.hand_up" ZgV Zdf)
 (Zgf:MF K CA.post "hand" "Post.hand" Zi9 ZeE)
 (Zfu:MF K CA.post "waits" "Post.waits" Zir Zd5)
 (Zg3:MF K CA.post "got" "Post.got" ZjS Zfl)
 (Zgh:MF K CA.post "__init__" "Post.__init__" Zjb ZeG)
 (Ze6:MF K CA.rests "shown" "Rests.shown" ZhL ZdF)
 (Zgd:MF K CA.free "says" "Free.says" Zi7 ZeC)
 (Ze8:MF K CA.speaks "says" "Speaks.says" ZhN ZdH)
 (Zfx:MF K CA.reads "says" "Reads.says" Ziu Zd8)
 (ZeW:MF K CA.intail "says" "InTail.says" ZhB Zdv)
 (Zge:MF K CA.free "step" "Free.step" Zi8 ZeD)
 (Zfy:MF K CA.reads "step" "Reads.step" Ziv Zd9)
 (Ze9:MF K CA.speaks "step" "Speaks.step" ZhO ZdI)
 (ZeX:MF K CA.intail "step" "InTail.step" ZhC Zdw)
 (Ze0:MF K CA.post "stance" "Post.stance" ZhF Zdz)
 (Zgi:MF K CA.post "says" "Post.says" Zjc ZeH)
 (Zgg:MF K CA.post "hear" "Post.hear" Zja ZeF)
 (Zer:MF K Zm "post_at" "Rail.post_at" ZgW Zdg)
 (Zgl:MF K Zm "__init__" "Rail.__init__" Zjf ZeK)
 (Zgk:MF K Zm "hand" "Rail.hand" Zje ZeJ)
 (ZdR:MF K Zm "make_turn" "Rail.make_turn" ZfY ZcE)
 (Ze1:MF K Zm "events" "Rail.events" ZhG ZdA)
 (Ze3:MF K Zm "stance" "Rail.stance" ZhI ZdC)
 (Zfv:MF K Zm "waits" "Rail.waits" Zis Zd6)
 (Zg4:MF K Zm "got" "Rail.got" ZjT Zfm)
 (Ze2:MF K Zm "faults" "Rail.faults" ZhH ZdB)
 (Zgj:MF K Zm "bits" "Rail.bits" Zjd ZeI)
 (Zg5:MF K Zm "run" "Rail.run" ZjU Zfn)
 :∃fd:FuncData,(∀(s:Shared)(v:Value),BindsTo s fd ⟨[v], []⟩ [("_law_script",v)])/\∀base:Heap,K.In base->base.Ns mainGlobals mg->FnOk l.prog w K mg base CX0 15 fa fd ["_law_script"] (spLaw54 K):=by
 obtain⟨_,ZfE⟩:=ZfE
 obtain⟨_,ZhV⟩:=ZhV
 obtain⟨_,Zgv⟩:=Zgv
 obtain⟨_,Zgt⟩:=Zgt
 obtain⟨_,ZhW⟩:=ZhW
 obtain⟨_,ZhY⟩:=ZhY
 obtain⟨_,Zg7⟩:=Zg7
 obtain⟨_,ZhX⟩:=ZhX
 obtain⟨_,Zjs⟩:=Zjs
 obtain⟨_,Zfc⟩:=Zfc
 obtain⟨_,ZfD⟩:=ZfD
 obtain⟨_,ZhZ⟩:=ZhZ
 obtain⟨_,Zgw⟩:=Zgw
 obtain⟨_,Zfe⟩:=Zfe
 obtain⟨_,ZfF⟩:=ZfF
 obtain⟨_,Zew⟩:=Zew
 obtain⟨_,Zgu⟩:=Zgu
 obtain⟨_,Zjr⟩:=Zjr
 obtain⟨_,ZfH⟩:=ZfH
 obtain⟨_,Zg8⟩:=Zg8
 obtain⟨_,ZfG⟩:=ZfG
 obtain⟨_,Zfd⟩:=Zfd
 obtain⟨_,Zex⟩:=Zex
 obtain⟨_,Zgq⟩:=Zgq
 obtain⟨_,Zgp⟩:=Zgp
 obtain⟨_,Zgs⟩:=Zgs
 obtain⟨_,ZfC⟩:=ZfC
 obtain⟨_,Zfb⟩:=Zfb
 obtain⟨_,Zev⟩:=Zev
 obtain⟨_,Zgr⟩:=Zgr
 obtain⟨_,Zg6⟩:=Zg6
 obtain⟨_,ZfB⟩:=ZfB
 obtain⟨d0,ZjA⟩:=ZjA
 obtain⟨_,_,Zfa⟩:=Zfa
 obtain⟨_,_,Zdp⟩:=Zdp
 obtain⟨_,_,ZdT⟩:=ZdT
 obtain⟨_,_,ZcB⟩:=ZcB
 obtain⟨_,_,Ze5⟩:=Ze5
 obtain⟨_,_,Zd0⟩:=Zd0
 obtain⟨_,_,Ze4⟩:=Ze4
 obtain⟨_,_,Zet⟩:=Zet
 obtain⟨_,_,Zes⟩:=Zes
 obtain⟨_,_,Zgn⟩:=Zgn
 obtain⟨_,_,Zgo⟩:=Zgo
 obtain⟨_,_,ZfA⟩:=ZfA
 obtain⟨_,_,Zd1⟩:=Zd1
 obtain⟨_,_,Zc5⟩:=Zc5
 obtain⟨_,_,Zgm⟩:=Zgm
 obtain⟨_,_,ZdZ⟩:=ZdZ
 obtain⟨_,_,ZdS⟩:=ZdS
 obtain⟨_,_,Zfs⟩:=Zfs
 obtain⟨_,_,ZdP⟩:=ZdP
 obtain⟨_,_,Zeo⟩:=Zeo
 obtain⟨_,_,Zep⟩:=Zep
 obtain⟨_,_,Zft⟩:=Zft
 obtain⟨_,_,ZeU⟩:=ZeU
 obtain⟨_,_,Zfr⟩:=Zfr
 obtain⟨_,_,Zgc⟩:=Zgc
 obtain⟨_,_,Ze7⟩:=Ze7
 obtain⟨_,_,Zfw⟩:=Zfw
 obtain⟨_,_,ZeV⟩:=ZeV
 obtain⟨_,_,ZdX⟩:=ZdX
 obtain⟨_,_,Zeu⟩:=Zeu
 obtain⟨_,_,Zfz⟩:=Zfz
 obtain⟨_,_,ZdY⟩:=ZdY
 obtain⟨_,_,ZeZ⟩:=ZeZ
 obtain⟨_,_,ZeY⟩:=ZeY
 obtain⟨_,_,ZdQ⟩:=ZdQ
 obtain⟨_,_,ZcA⟩:=ZcA
 obtain⟨_,_,Zcz⟩:=Zcz
 obtain⟨_,_,Zeq⟩:=Zeq
 obtain⟨_,_,Zgf⟩:=Zgf
 obtain⟨_,_,Zfu⟩:=Zfu
 obtain⟨_,_,Zg3⟩:=Zg3
 obtain⟨_,_,Zgh⟩:=Zgh
 obtain⟨_,_,Ze6⟩:=Ze6
 obtain⟨_,_,Zgd⟩:=Zgd
 obtain⟨_,_,Ze8⟩:=Ze8
 obtain⟨_,_,Zfx⟩:=Zfx
 obtain⟨_,_,ZeW⟩:=ZeW
 obtain⟨_,_,Zge⟩:=Zge
 obtain⟨_,_,Zfy⟩:=Zfy
 obtain⟨_,_,Ze9⟩:=Ze9
 obtain⟨_,_,ZeX⟩:=ZeX
 obtain⟨_,_,Ze0⟩:=Ze0
 obtain⟨_,_,Zgi⟩:=Zgi
 obtain⟨_,_,Zgg⟩:=Zgg
 obtain⟨_,_,Zer⟩:=Zer
 obtain⟨_,_,Zgl⟩:=Zgl
 obtain⟨_,_,Zgk⟩:=Zgk
 obtain⟨_,_,ZdR⟩:=ZdR
 obtain⟨_,_,Ze1⟩:=Ze1
 obtain⟨_,_,Ze3⟩:=Ze3
 obtain⟨_,_,Zfv⟩:=Zfv
 obtain⟨_,_,Zg4⟩:=Zg4
 obtain⟨_,_,Ze2⟩:=Ze2
 obtain⟨_,_,Zgj⟩:=Zgj
 obtain⟨_,_,Zg5⟩:=Zg5
 cases hfa.symm.trans ZjA.m
 refine⟨d0,fun s v=>?_,fun base _ _=>?_⟩
 ·obtain⟨_,_,_,_,_,_,_,_,_,rfl,_⟩:=ZjA.F.ex
  exact .of_eq rfl
 have ZaX:=ZkJ l.prog w mg base  ZfE
 have Zat:=Zkf l.prog w mg base (CA:=CA) Zh Z8 Zt Zfa
 have ZS:=Zin l.prog w mg base (CA:=CA) Zh Z8 Zt Zdp
 have ZI:=ZiK l.prog w mg base (CA:=CA) ZbZ Zh Zt ZdT
 have Zax:=ZgS l.prog w mg base (CA:=CA) ZbZ Zh Zt ZcB
 have ZU:=ZlF l.prog w mg base Zam ZB Zc2 ZhV
 have Zu:=Zlh l.prog w mg base  Zgv
 have Zac:=Zlf l.prog w mg base Zdn ZkS Zgt
 have Zcv:=ZlG l.prog w mg base ZG Zdk ZhW
 have Z1:=ZlI l.prog w mg base ZG ZkQ Zu Zcv ZhY
 have Zci:=Zlv l.prog w mg base Zam ZG Zbo ZaD ZU Z1 Zg7
 have Zcw:=ZlH l.prog w mg base Zdo ZhX
 have Zc6:=ZlN l.prog w mg base (CA:=CA) ZdW Zh Zbb ZR ZA Zat ZS ZI Zjs
 have Zv:=Zkh l.prog w mg base Zn Zei Zx Z0 Zac Zcw Zfc
 have Zbj:=ZkI l.prog w mg base Zam ZG Zn ZeO ZeP ZaI Zx ZU Zci Zv ZfD
 have Zcx:=ZlJ l.prog w mg base Zam ZG Zn Zc6 Zbj ZhZ
 have Zad:=Zli l.prog w mg base Zc8 Zbp Zu Zgw
 have ZZ:=Zkj l.prog w mg base Zbo ZaI Zbp Zx Zad Zfe
 have Zbk:=ZkK l.prog w mg base ZG Zn ZaI Zc8 Zbp ZB Z0 Zu Z1 Zad ZZ ZfF
 have Zcd:=Zka l.prog w mg base (CA:=CA) ZdW Zbb Ze Zw Zp ZE Zat Ze5
 have Zbt:=Zjy l.prog w mg base (CA:=CA) ZG Zh Ze ZA ZaB Zw Zp ZI Zax Z1 ZZ Zd0
 have ZY:=Zj9 l.prog w mg base (CA:=CA) ZG Zh Ze ZR ZA Za4 Zw Zp ZE ZS ZI Zbt Ze4
 have ZbW:=ZjN l.prog w mg base (CA:=CA) ZaD Ze Zp Zet
 have ZbV:=ZjM l.prog w mg base (CA:=CA) ZG Zn Ze Zp ZE Zbk Zes
 have ZaV:=Zk9 l.prog w mg base (CA:=CA) Zg Zf Zgn
 have ZcV:=Zla l.prog w mg base (CA:=CA) Zcn Zg Zf Zgo
 have Zh0:=ZkF l.prog w mg base (CA:=CA) Zg Zf ZfA
 have Zbu:=Zjz l.prog w mg base (CA:=CA) Zcn Zg Zf Zd1
 have ZaL:=ZhU l.prog w mg base (CA:=CA) ZcL Zg Zf Zc5
 have ZcU:=Zk8 l.prog w mg base (CA:=CA) ZcL Zg Zf ZaR ZaK ZaC Zan Zbu ZaL Zgm
 have Zbs:=Zjx l.prog w mg base (CA:=CA) Zc9 Zg Zf Z9 ZaV ZdZ
 have Za8:=ZiJ l.prog w mg base (CA:=CA) Zc9 Zg Zf Z9 ZaV ZdS
 have Zcr:=Zkx l.prog w mg base (CA:=CA) Zd Zo Zfs
 have Za5:=ZiG l.prog w mg base (CA:=CA) Zek Zd Zo ZdP
 have Zah:=ZjI l.prog w mg base (CA:=CA) Zfp Zd Zo Zeo
 have ZbT:=ZjJ l.prog w mg base (CA:=CA) Zd Zo Zep
 have ZaE:=Zky l.prog w mg base (CA:=CA) ZkU Zd Z5 Zo Zah Zft
 have Zaq:=ZjZ l.prog w mg base (CA:=CA) ZdM ZdO Zd Zae ZaE ZeU
 have Zcq:=Zkw l.prog w mg base (CA:=CA) Zd Zae ZaE Zfr
 have Z2:=ZjQ l.prog w mg base (CA:=CA) ZG Zn Zhc Ze Zdl ZO Zcd ZY Zew
 have ZaS:=ZkY l.prog w mg base (CA:=CA) ZL ZW Zgc
 have Zas:=Zkc l.prog w mg base (CA:=CA) Zi ZF ZQ Zz Ze7
 have Z3:=ZkB l.prog w mg base (CA:=CA) ZC ZV Zao Zfw
 have Zar:=Zj0 l.prog w mg base (CA:=CA) Zq Zy Zaf ZeV
 have Zbq:=Zjv l.prog w mg base (CA:=CA) ZbI ZbG ZaJ ZdX
 have ZbX:=ZjO l.prog w mg base (CA:=CA) ZcH ZaQ Zeu
 have Zbg:=ZkE l.prog w mg base (CA:=CA) Zai Zap Zfz
 have Zbr:=Zjw l.prog w mg base (CA:=CA) Zd Za ZaY Zk Za5 ZdY
 have Zb8:=Zj4 l.prog w mg base (CA:=CA) Zd Za Z5 Zk Zah ZeZ
 have Zb7:=Zj3 l.prog w mg base (CA:=CA) Zd Za Zbc Zk ZbT ZeY
 have Za6:=ZiH l.prog w mg base (CA:=CA) Zx Za Zj ZdQ
 have Zaw:=ZgR l.prog w mg base (CA:=CA) Zam ZG Zn Za Zj Zcx ZcA
 have Zav:=ZgQ l.prog w mg base (CA:=CA) Za Zj Zcz
 have ZbS:=Zlg l.prog w mg base  Zgu
 have ZbU:=ZjK l.prog w mg base (CA:=CA) Za Zal ZH ZbS Zeq
 have ZcO:=Zk1 l.prog w mg base (CA:=CA) Zn ZaD Za Zj Zv Zgf
 have ZaW:=ZlM l.prog w mg base ZaD Zjr
 have Zcs:=Zkz l.prog w mg base (CA:=CA) Za Zj ZaW Zfu
 have Zda:=Zlr l.prog w mg base (CA:=CA) Za ZH ZaW Zg3
 have Z4:=ZkM l.prog w mg base (CA:=CA) ZkR Za Zby Zeh Zb8 ZfH
 have Zs:=Zlw l.prog w mg base (CA:=CA) Zfo ZeN Zd Za ZcI Zaa Zk Zaq Zbq Z4 Zg8
 have Zbl:=ZkL l.prog w mg base (CA:=CA) Zf6 Zd Za Zc4 Zaa Zk Zaq ZbX Z4 ZfG
 have Za2:=Zki l.prog w mg base ZcX ZK Zdm ZT Zfd
 have ZaN:=ZjR l.prog w mg base ZK ZT Zac Zex
 have ZcQ:=Zk3 l.prog w mg base (CA:=CA) ZcX ZK ZiF ZfV Za ZdL ZbY Zk Zj Zal ZH ZX ZJ Zcr ZaS Za2 ZaN Zgh
 have Zce:=Zkb l.prog w mg base (CA:=CA) Zai Zap Ze6
 have ZaT:=ZkZ l.prog w mg base (CA:=CA) ZdN ZL Za ZaZ Za3 ZW Zbr Za6 Zgd
 have Zcf:=Zkd l.prog w mg base (CA:=CA) Zi ZF Zz Ze8
 have Zct:=ZkC l.prog w mg base (CA:=CA)  Zfx
 have Zb5:=Zj1 l.prog w mg base (CA:=CA) Zg Zf Zq ZaP ZaH Zy ZcV ZeW
 have ZcN:=Zk0 l.prog w mg base (CA:=CA) Zam ZG Zn ZfV ZdV ZcW ZL Za ZbY Zba Zau Zaj Zaz ZW Z2 ZaS Zas Z3 Zaw Zs ZaT Zge
 have Zcu:=ZkD l.prog w mg base (CA:=CA) ZG Zn Zc9 ZcW ZdU Zfq Ze ZC Za Zau Za9 ZcJ ZO Zbe ZV Zao ZX ZY ZbV Zbs Z3 Zar Zs Zfy
 have Zcg:=Zke l.prog w mg base (CA:=CA) ZG Zn Zc9 ZdV ZcW ZdU ZeM ZeQ Zx Ze Zi Za Zba Zau Za9 Zcp ZO Zbf ZF ZQ Zz ZX ZY ZbW Za8 Zas Z3 Zar Zs Ze9
 have Zb6:=Zj2 l.prog w mg base (CA:=CA) ZgP Zc7 Zg Zf Zd Zq Za ZcM ZbM Zay Zbd ZaO ZaG Zy Zaf Zk ZcU Zcq Zbg Zav ZbU Zs Zbl ZeX
 have Zb9:=Zj5 l.prog w mg base (CA:=CA) Zai Za ZbD ZJ Zce Ze0
 have ZcR:=Zk4 l.prog w mg base (CA:=CA) ZL Zi ZC Zq Za Zaj ZbE ZbO Zbv ZJ ZaT Zcf Zct Zb5 Zgi
 have ZcP:=Zk2 l.prog w mg base (CA:=CA) Zam ZG Zn ZL Zi ZC Zq Za Zb0 ZbF ZbP Zbw ZJ ZcN Zcu Zcg Zb6 Zgg
 have Zr:=ZjL l.prog w mg base (CA:=CA) ZK Z6 Zx Zb ZD ZT Zer
 have ZcT:=Zk7 l.prog w mg base (CA:=CA) ZcX ZK Z6 Zej ZjH Zx Zb Zef ZD Z7 ZM Zag Zab ZP ZT ZcQ Zgl
 have ZaU:=Zk6 l.prog w mg base (CA:=CA) Zn ZK Z6 ZcK Za Zb Zl Zb1 Z7 Zc3 Zv ZcO Zr Zgk
 have Za7:=ZiI l.prog w mg base (CA:=CA) Zam ZG Zn Z6 ZB Zx Zhd ZeR Za Zb Zb3 Zb2 ZD ZM Zag Zab ZP ZaX ZcR ZcP ZdR
 have Zca:=Zj6 l.prog w mg base (CA:=CA) Z6 ZaD Zb ZP Ze1
 have Zcc:=Zj8 l.prog w mg base (CA:=CA) ZK Z6 Za Zb Zl Zbz Zb9 Zr Ze3
 have ZaF:=ZkA l.prog w mg base (CA:=CA) ZK Z6 Za Zb Zl ZbN Zcs Zr Zfv
 have Zdb:=Zls l.prog w mg base (CA:=CA) ZK Z6 Za Zb Zl Zck Zda Zr Zg4
 have Zcb:=Zj7 l.prog w mg base (CA:=CA) ZK Z6 Za Zb Zl Zbx Zb7 Zr Ze2
 have ZcS:=Zk5 l.prog w mg base (CA:=CA) Z6 ZaD Zb ZM Zgj
 have Zdc:=Zlt l.prog w mg base (CA:=CA) Z6 ZB Zee Zb Za0 ZaX Za7 Zg5
 have Zc:=Zlc l.prog w mg base Zx Zgq
 have ZN:=Zlb l.prog w mg base ZB Zgp
 have ZbR:=Zle l.prog w mg base Zx ZN Zgs
 have Zbi:=ZkH l.prog w mg base ZB Zc ZfC
 have Za1:=Zkg l.prog w mg base ZB Zx Zc Zfb
 have ZaM:=ZjP l.prog w mg base ZB Zx Zc Zev
 have ZbQ:=Zld l.prog w mg base  Zgr
 have Zch:=Zlu l.prog w mg base ZB Zx ZkT ZbQ Zg6
 have Zbh:=ZkG l.prog w mg base (CA:=CA) Zn ZK Z6 ZcK Zb Zak ZdK ZaU ZfB
 exact(ZlS l.prog w mg base (CA:=CA) Zn ZcX ZK Z6 ZcK ZB ZaD Zx Zhd Zb Zeg Zak Zb4 Zcm ZbA ZbB ZaA Zcl ZbC ZcT ZaU Zca Zcc ZaF Zdb Zcb ZcS Zdc Zc ZbR Zbi Za1 ZaM Zch Zbh ZjA).1
end
theorem tupI_VOTES {K:W.Frag}{a:Addr}{od:Option Addr}{sl:Array (Option Value)}{n:Nat}{t0 t1 t2:Tok}(h:K.lookup a=some ⟨.type "tuple",od,.seq #[.int 1 t0,.int 3 t1,.int 5 t2] n,sl⟩):TupK K a [1,3,5]:=TupK.of h (aK rfl) (.cons ⟨_,rfl⟩ (.cons ⟨_,rfl⟩ (.cons ⟨_,rfl⟩ .nil)))
abbrev csI {x_post x_count x_free x_speaks x_reads x_intail x_flag x_settles x_rests x_off x_reader x_streak x_rtail x_stail:Addr}:Cs:=⟨x_post,x_count,x_free,x_speaks,x_reads,x_intail,x_flag,x_settles,x_rests,x_off,x_reader,x_streak,x_rtail,x_stail⟩
theorem walk {l:W.OpenLaw}{q:Program}{loose:List Str}{XP:(Str->Option Value)->Heap->Prop}{YP:World->Heap->Prop}{d:DefRec}{K:Params->W.Frag}(hn:l.most=some 63)(hdf:d.params.defaults= [])
  (hY:∀(w:World)(h:Heap),YP w h->(K w.params).In h)
  (F :∀(w:World)(mg:Str->Option Value)(fa:Addr)(h:Heap),(K w.params).In h->h.Ns mainGlobals mg->mg d.name=some (.ref fa)->
   ∃fd:FuncData,(∀(s:Shared)(u:Value),BindsTo s fd ⟨[u], []⟩ [("_law_script",u)])/\∀base:Heap,(K w.params).In base->base.Ns mainGlobals mg->FnOk l.prog w (K w.params) mg base CX0 15 fa fd ["_law_script"] (spLaw (K w.params))) :
  W.WalkO q loose XP YP l.row.toRowW d [] (fun f vs=>PySem.call f vs):=
 L2.walk_of (n:=63) (k:=15) (x:="_law_script") (CX:=fun _=>CX0) (sp:=fun w=>spLaw (K w.params)) hn (by decide) hdf ⟨rfl,by decide,by decide⟩ hY F (fun _ _ a ns hl _ hS=>⟨a,ns,rfl,hS,hl,fun _=>rfl⟩) fun _ _ _ _ _ z=>z
end My
open PySem PySem.W PyProof.Rows
set_option maxRecDepth 100000 in
set_option maxHeartbeats 0 in
theorem PySem.Challenge.cw_bitrail_k54_whole_the_least_name_speaks_holds : PySem.Challenge.rw_bitrail_k54_whole_the_least_name_speaks.Holds := by
 w_on;o_law
 refine holds_open (q:=Hd.qv) (loose:=Hd.loose) (XP:=XL Hd.qv []) (YP:=InK Hd.K) (d:=Hd.dl) (kwd:=[]) Hd.left (InK.of Hd.K_as) InK.keeps (fun s e=>xl_of s e) XL.keeps Hd.dl_1 Hd.dl_2 rfl (fun s _=>recFacts_nil rfl) rfl
  (by assumption) (by decide +kernel) ⟨rfl,rfl,rfl,rfl,rfl,by decide +kernel⟩ ?hw ?hc
 case hw=>w_witness2
 k_fill
 refine My.walk (l:=PySem.Challenge.rw_bitrail_k54_whole_the_least_name_speaks) rfl rfl (fun w h Y=>Y) ?F
 case F=>
  intro w mg fa h KX G hmg
  refine' My.all_mk w mg (CA:=My.csI) ?m0 ?m1 ?m2 ?m3 ?m4 ?m5 ?m6 ?m7 ?m8 ?m9 ?m10 ?m11 ?m12 ?m13 ?m14 ?m15 ?m16 ?m17 ?m18 ?m19 ?m20 ?m21 ?m22 ?m23 ?m24 ?m25 ?m26 ?m27 ?m28 ?m29 ?m30 ?m31 ?m32 ?m33 ?m34 ?m35 ?m36 ?m37 ?m38 ?m39 ?m40 ?m41 ?m42 ?m43 ?m44 ?m45 ?m46 ?m47 ?m48 ?m49 ?m50 ?m51 ?m52 ?m53 ?m54 ?m55 ?m56 ?m57 ?m58 ?m59 ?m60 ?m61 ?m62 ?m63 ?m64 ?m65 ?m66 ?m67 ?m68 ?m69 ?m70 ?m71 ?m72 ?m73 ?m74 ?m75 ?m76 ?m77 ?m78 ?m79 ?m80 ?m81 ?m82 ?m83 ?m84 ?m85 ?m86 ?m87 ?m88 ?m89 ?m90 ?m91 ?m92 ?m93 ?m94 ?m95 ?m96 ?m97 ?m98 ?m99 ?m100 ?m101 ?m102 ?m103 ?m104 ?m105 ?m106 ?m107 ?m108 ?m109 ?m110 ?m111 ?m112 ?m113 ?m114 ?m115 ?m116 ?m117 ?m118 ?m119 ?m120 ?m121 ?m122 ?m123 ?m124 ?m125 ?m126 ?m127 ?m128 ?m129 ?m130 ?m131 ?m132 ?m133 ?m134 ?m135 ?m136 ?m137 ?m138 ?m139 ?m140 ?m141 ?m142 ?m143 ?m144 ?m145 ?m146 ?m147 ?m148 ?m149 ?m150 ?m151 ?m152 ?m153 ?m154 ?m155 ?m156 ?m157 ?m158 ?m159 ?m160 ?m161 ?m162 ?m163 ?m164 ?m165 ?m166 ?m167 ?m168 ?m169 ?m170 ?m171 ?m172 hmg ?f0 ?f5 ?f6 ?f7 ?f8 ?f9 ?f10 ?f11 ?f12 ?f13 ?f14 ?f15 ?f16 ?f17 ?f18 ?f39 ?f53 ?f56 ?f59 ?f60 ?f61 ?f62 ?f63 ?f88 ?f89 ?f90 ?f91 ?f92 ?f93 ?f94 ?f95 ?f96 ?f97 ?f1 ?f2 ?f3 ?f4 ?f19 ?f20 ?f21 ?f22 ?f23 ?f24 ?f25 ?f26 ?f27 ?f28 ?f29 ?f30 ?f31 ?f32 ?f33 ?f34 ?f35 ?f36 ?f37 ?f38 ?f40 ?f41 ?f42 ?f43 ?f44 ?f45 ?f46 ?f47 ?f48 ?f49 ?f50 ?f51 ?f52 ?f54 ?f55 ?f57 ?f58 ?f64 ?f65 ?f66 ?f67 ?f68 ?f69 ?f70 ?f71 ?f72 ?f73 ?f74 ?f75 ?f76 ?f77 ?f78 ?f79 ?f80 ?f81 ?f82 ?f83 ?f84 ?f85 ?f86 ?f87
  all_goals try dsimp only[My.csI]
  case m0 | m1 | m2 | m3 | m4 | m5 | m6 | m7 | m8 | m9 | m10 | m11 | m12 | m13 | m14 | m15 | m16 | m17 | m18 | m19 | m20 | m21 | m22 | m23 | m24 | m25 | m26 | m27 | m28 | m29 | m30 | m31 | m32 | m33 | m34 | m35 | m36 | m37 | m38 | m39 | m40 | m41 | m42 | m43=>refine' PySem.W.mg_of KX G ?_;k_is
  case m44 | m45 | m46 | m47 | m48 | m49 | m50 | m51=>refine' PySem.W.mg_none_of KX G ?_;k_is
  case f0 | f5 | f6 | f7 | f8 | f9 | f10 | f11 | f12 | f13 | f14 | f15 | f16 | f17 | f18 | f39 | f53 | f56 | f59 | f60 | f61 | f62 | f63 | f88 | f89 | f90 | f91 | f92 | f93 | f94 | f95 | f96 | f97=>(refine' My.gf_mk KX G ?a ?l ?c ?k;(case a=>show _=_;k_is);(case l=>show _=_;k_is);(case c=>show _=_;k_is);(case k=>show _=_;k_is))
  case f1 | f2 | f3 | f4 | f19 | f20 | f21 | f22 | f23 | f24 | f25 | f26 | f27 | f28 | f29 | f30 | f31 | f32 | f33 | f34 | f35 | f36 | f37 | f38 | f40 | f41 | f42 | f43 | f44 | f45 | f46 | f47 | f48 | f49 | f50 | f51 | f52 | f54 | f55 | f57 | f58 | f64 | f65 | f66 | f67 | f68 | f69 | f70 | f71 | f72 | f73 | f74 | f75 | f76 | f77 | f78 | f79 | f80 | f81 | f82 | f83 | f84 | f85 | f86 | f87=>(refine' My.mf_mk ?a ?l ?c ?k;(case a=>show _=_;k_is);(case l=>show _=_;k_is);(case c=>show _=_;k_is);(case k=>show _=_;k_is))
  case m52=>(refine' My.tupI_VOTES ?a;(case a=>k_is))
  case m53=>(exact⟨_,_,_,_,rfl⟩)
  case m54 | m55=>(refine⟨?_,?_,?_,?_,?_⟩;(refine⟨?_,?_,?_,?_⟩ <;> k_is);all_goals (show PySem.W.findIn _ _ _=_;k_is))
  case m56 | m57 | m58 | m59 | m60 | m61 | m62 | m63 | m64 | m65 | m66 | m67 | m68 | m69 | m70 | m71 | m72 | m73 | m74 | m75 | m76 | m77 | m78 | m79 | m80 | m81 | m82=>(refine⟨?_,?_,?_,?_⟩ <;> k_is)
  case m83 | m84 | m85 | m86 | m87 | m88 | m89 | m90 | m91 | m92 | m93 | m94 | m95 | m96 | m97 | m98 | m99 | m100 | m101 | m102 | m103 | m104 | m105 | m106 | m107 | m108 | m109 | m110 | m111 | m112 | m113 | m114 | m115 | m116 | m117 | m118 | m119 | m120 | m121 | m122 | m123 | m124 | m125 | m126 | m127 | m128 | m129 | m130 | m131 | m132 | m133 | m134 | m135 | m136=>(refine⟨?_,?_,?_⟩ <;> k_is)
  case m137 | m138 | m139 | m140 | m141 | m142 | m143 | m144 | m145 | m146 | m147 | m148 | m149 | m150 | m151 | m152 | m153 | m154 | m155 | m156 | m157 | m158 | m159 | m160 | m161 | m162 | m163 | m164 | m165 | m166=>(show PySem.W.findIn _ _ _=_;k_is)
  case m167 | m168 | m169 | m170 | m171=>k_exc
  case m172=>kts_exm
#print axioms PySem.Challenge.cw_bitrail_k54_whole_the_least_name_speaks_holds
