import PyProof.Rows.All
import Wide.All
import OpenK.AllK
import Wide.FinOn
import PyProof.EqAt
import PyProof.EqKinds
import PyProof.TupleCall
import Lean
import PySem.Challenge.RW_bitrail_k95_whole_taken_is_heard
set_option Elab.async false
def Ya:=@List.length_map
def Yb:=@List.getElem?_eq_getElem
def Yc:=@List.length_append
def Yd:=@Nat.le_refl
def Ye:=@List.getElem?_eq_some_iff
def Yf:=@Nat.lt_of_lt_of_le
def Yg:=@List.getD_eq_getElem?_getD
def Yh:=@List.take_succ_eq_append_getElem
def Yi:=@List.getElem?_map
def Yj:=@List.mem_singleton
def Yk:=@PySem.Heap.get?_push_of_some
def Yl:=@decide_eq_true
def Ym:=@List.take_of_length_le
def Yn:=@List.map_append
def Yo:=@List.length_take
def Yp:=@List.mem_of_getElem?
def Yq:=@Option.some.inj
def Yr:=@PySem.Heap.lt_size
def Ys:=@List.mem_cons_of_mem
def Yt:=@Bool.false_ne_true
def Yu:=@decide_eq_false
def Yv:=@List.getElem?_append_right
def Yw:=@Nat.pow_le_pow_right
def Yx:=@List.getElem?_append_left
def Yy:=@List.length_singleton
def Yz:=@List.size_toArray
def YA:=@List.mem_append
def YB:=@PySem.Heap.get?_push_size
def YC:=@List.append_nil
def YD:=@List.mem_cons_self
def YE:=@List.mem_cons
def YF:=@List.append_assoc
def YG:=@Decidable.byContradiction
def YH:=@PySem.wpAny_bind
def YI:=@Int.toNat_natCast
def YJ:=@Nat.ne_of_lt
def YK:=@Int.eq_ofNat_of_zero_le
def YL:=@List.getElem_mem
def YM:=@List.length_replicate
def YN:=@List.length_cons
def YO:=@Option.map_eq_some_iff
def YQ:=@of_decide_eq_true
def YR:=@PySem.F.excBase_ValueError
def YS:=@List.map_cons
def YT:=@congrArg
def YU:=@List.length_drop
def YV:=@List.mem_append_right
def YW:=@PySem.PassesOwn.never
def YX:=@List.nodup_cons
def YY:=@Nat.testBit_eq_decide_div_mod_eq
def YZ:=@List.mem_filterMap
def Y0:=@Nat.le_trans
def Y1:=@List.mem_map
def Y2:=@Nat.lt_irrefl
def Y3:=@List.foldl_cons
def Y4:=@PySem.mem_of_lookup
def Y5:=@Array.getElem?_eq_some_iff
def Y6:=@Nat.testBit_lt_two_pow
def Y7:=@List.head?_append
def Y8:=@PySem.wpAny_mono
def Y9:=@List.getElem?_set_ne
def Xa:=@PySem.wpAny_pure
def Xb:=@List.getElem_of_mem
def Xc:=@PySem.wpAny_truthy_bool
def Xd:=@PySem.Heap.get?_update_other
def Xe:=@Nat.shiftLeft_eq
def Xf:=@List.mem_of_mem_take
def Xg:=@List.take_append_of_le_length
def Xh:=@List.drop_append_of_le_length
def Xi:=@PySem.wpAny_Call_Name_kw
def Xj:=@PySem.Heap.FunFrames.mem
def Xk:=@List.length_range
def Xl:=@List.getElem?_set
def Xm:=@beq_eq_false_iff_ne
def Xn:=@Int.zero_add
def Xo:=@Nat.xor_assoc
def Xp:=@List.lookup_cons
def Xq:=@List.length_filter_le
def Xr:=@List.mem_append_left
def Xs:=@Nat.zero_le
def Xu:=@List.foldl_append
def Xv:=@Nat.xor_zero
def Xw:=@List.getElem?_take_of_lt
def Xx:=@PySem.W.methodCall_KW
def Xy:=@List.replicate_succ
def Xz:=@List.getElem_map
def XA:=@List.eq_nil_of_length_eq_zero
def XB:=@Nat.testBit_xor
def XC:=@List.length_set
def XD:=@PyProof.Rows.callWith_type1
def XE:=@List.flatten_cons
def XF:=@PySem.wpAny_passesOwn
def XG:=@Nat.mod_two_eq_zero_or_one
def XH:=@List.not_mem_nil
def XI:=@Nat.le_of_lt
def XJ:=@Bool.and_eq_true
def XM:=@Nat.pow_succ
def XN:=@List.all_eq_true
def XO:=@Nat.sub_self
def XQ:=@List.mem_or_eq_of_mem_set
def XR:=@Array.length_toList
def XS:=@List.all_cons
def XT:=@List.find?_cons
def XU:=@Nat.two_pow_pos
def XV:=@beq_iff_eq
def XW:=@PySem.W.kia_one
def XX:=@Nat.lt_of_le_of_lt
def XY:=@Nat.xor_comm
def XZ:=@PySem.Obj.data_mapFields
def X0:=@PySem.wpAny_field
def X1:=@Nat.testBit_shiftLeft
def X2:=@Nat.lt_succ_self
def X3:=@List.any_cons
def X4:=@List.sum_cons
def X5:=@PySem.codeAny_mono
def X6:=@PySem.W.callWith_K
def X7:=@Nat.le_succ
def X8:=@List.mem_of_mem_drop
def X9:=@Bool.eq_iff_iff
def Ja:=@List.of_mem_zip
def Jb:=@Option.map_some
def Jc:=@Nat.div_eq_of_lt_le
def Jd:=@List.getElem?_range
def Je:=@Nat.zero_xor
def Jf:=@Nat.add_zero
def Jg:=@Array.append_assoc
def Jh:=@Int.emod_lt_of_pos
def Ji:=@List.take_zero
def Jj:=@Nat.xor_lt_two_pow
def Jk:=@List.nodup_nil
def Jl:=@PySem.wpAny_setField
namespace Hd
open PySem PyProof.Rows
open PySem.W PySem.Calls
theorem b8Q (t:Thread):(endAt 0 t).isSome=through t:=by
 obtain⟨cur,code,pos,st⟩:=t
 cases st with
 | nil=>cases cur with
  |pure f=>cases f <;> rfl
  |_=>rfl
 |cons a l=>cases cur <;> rfl
theorem pN {tb:String->Option Builtin}{p:Program}{w:World}{m:Nat}{ann:Option Value}:∀{n:Nat}{s s':Shared}{t:Thread}{f:Flow}{c:Code}{x:Pos},
  segRun tb p w m ann 0 n s t=some (f,s',c,x)->topRun tb p w m ann n s t=some s'
 |0,_,_,_,_,_,_,h=>by simp[segRun]at h
 | n + 1,s,s',t,f,c,x,h=>by
  unfold segRun at h
  unfold topRun
  rw[<-b8Q t]
  cases he:endAt 0 t with
  |some g=>rw[he]at h;cases h;rfl
  | none=>
   rw[he]at h
   dsimp only[Option.isSome]at h ⊢
   cases k:stepOk m ann t with
   |false=>rw[k]at h;cases h
   | true=>
    rw[k]at h
    dsimp only at h ⊢
    cases g:step (denote tb) p w s t with
    |halt o z=>rw[g]at h;cases h
    |go z t'=>rw[g]at h;exact pN h
def zO (T:BT)(n a:Nat):Option Obj:=match Nat.blt a n with
 |true=>(match T.get a with | some o=>alive o | none=>none)
 |false=>none
theorem a1S {T:BT}{n a:Nat}{life:Life}{o:Obj}(h:zO T n a=some o):(absHeap T n life).get? a=some o:=by
 unfold zO at h
 cases c:Nat.blt a n with
 |false=>rw[c]at h;cases h
 | true=>
  rw[c]at h
  dsimp only at h
  cases g:T.get a with
  |none=>rw[g]at h;cases h
  | some x=>
   rw[g]at h
   rw[abs_get (Nat.le_of_ble_eq_true c) g]
   exact h
theorem rW {T:BT}{n:Nat}{life:Life}:∀{as:List Addr}{os:List Obj},as.map (zO T n)=os.map some->as.map (absHeap T n life).get? =os.map some
 |[], [],_=>rfl
 |[],_::_,h=>by cases h
 |_::_, [],h=>by cases h
 | a::as,o::os,h=>by
  rw[YS,YS]at h
  injection h with h1 h2
  rw[YS,YS,rW h2]
  exact YT (·::os.map some) (a1S h1)
abbrev look (p q:Program)(loose:List Str)(Xt:Shared->Bool)(as:List Addr)(h:Heap)(s:SharedT):=
 (staticsOk (importedModules p.main.body) h s.abs.heap && namesBound p s.abs.heap && gensDone s.abs && laidKept h s.abs.heap,openSeen q loose (importedModules p.main.body) Xt true s.abs,as.map (zO s.tree s.n))
theorem xN {p q:Program}{loose:List Str}{Xt:Shared->Bool}{as:List Addr}{os_:World->List Obj}{N m:Nat}{ann:Option Value}(S:World->OsState->SharedT)
  (op:∀w:World,(fencedOpening treeTable p w N).map (fun s=>(s.heap,s.gens,s.drawn,s.toks))=some (boot_heap w.params,Array.mk [],boot_drawn,boot_toks))
  (size : ∀ w : World, ((boot_heap w.params).isNs mainGlobals, (boot_heap w.params).objs.size, (boot_heap w.params).nsMap mainGlobals "__annotations__") = (true, m, ann))
  (abs:∀w os,(S w os).abs=⟨boot_heap w.params,Array.mk [],boot_drawn,boot_toks,os⟩)
  (whole:∀w:World,(fun os=>(segRunT treeTable p w m ann 0 N (S w os) (topStub p)).map fun r=>look p q loose Xt as (boot_heap w.params) r.2.1)=fun _=>some (true,openGood q loose,(os_ w).map some)):LeftO p q loose Xt (fun s=>as.map s.heap.get?) (fun w=>(os_ w).map some) N:=fun w=>by
 obtain⟨⟨h,gs,d,k,os⟩,e,e'⟩:=YO.mp (op w)
 obtain⟨rfl,rfl,rfl,rfl⟩:h=boot_heap w.params/\gs=Array.mk []/\d=boot_drawn/\k=boot_toks:=by simpa using e'
 obtain⟨y1,y2,y3⟩:_/\_/\_:=by simpa only[Prod.mk.injEq] using size w
 obtain⟨⟨f,s',c,x⟩,r1,r2⟩:=YO.mp (congrFun (whole w) os)
 obtain⟨l1,l2,l3⟩:_/\_/\_:=by simpa only[look,Prod.mk.injEq] using r2
 have l4:as.map s'.abs.heap.get? =(os_ w).map some:=rW l3
 have r:=pN (segRun_of r1)
 rw[abs]at r
 have t:topFrom treeTable p w N ⟨boot_heap w.params,Array.mk [],boot_drawn,boot_toks,os⟩=some s'.abs:=by
  unfold topFrom
  dsimp only
  rw[y1,y2,y3,r]
  show (match staticsOk (importedModules p.main.body) (boot_heap w.params) s'.abs.heap && namesBound p s'.abs.heap && gensDone s'.abs && laidKept (boot_heap w.params) s'.abs.heap with | true=>_ | false=>_)=_
  rw[l1]
 unfold openEnds
 rw[e]
 refine(YT (Option.map _) t).trans ?_
 exact YT some (by show (_,as.map s'.abs.heap.get?)=(_,(os_ w).map some);rw[l2,l4])
abbrev r (a:Addr):Value:= .ref a
abbrev s (x:Str)(t:Tok):Value:= .str x t
abbrev i (x:Int)(t:Tok):Value:= .int x t
abbrev t (x:String):Value:= .type x
abbrev b (x:String):Value:= .builtin x
abbrev tp (l:List Value):Obj:=⟨.type "tuple",none,.seq l.toArray 0, #[]⟩
abbrev co (l:List Value):Obj:=⟨.type "code",none,.fields l.toArray, #[]⟩
abbrev fi (c:Value)(l:List Value):Obj:=⟨c,none,.fields l.toArray, #[]⟩
abbrev di (c:Value)(l:List DictEntry)(n:Nat):Obj:=⟨c,none,.dict l.toArray n, #[]⟩
abbrev e (P:Params)(x:Str)(t:Tok)(v:Value):DictEntry:=⟨PyData.keyHash P x,.str x t,v⟩
abbrev cl (c:ClassData)(l:List (Option Value)):Obj:=⟨.type "type",none,.cls c,l.toArray⟩
abbrev o (v:Value):Option Value:=some v
abbrev sf (p:Program)(k:Nat):Stmt:=p.main.body.getD k default
def sub (k:Nat):Stmt->Stmt
 |.ClassDef _ _ _ b _ _ _ _ _ _ _=>b.getD k default
 |x=>x
def fn (q:Str)(d kw doc md:Value)(c bl:Addr):Stmt->Obj
 |.FunctionDef n a b _ _ _ sc _ _ _=>⟨.type "function",none,.func { name:=n,qualname:=q,params:=a,body:= .stmts b,scope:=sc,globals:=3,closure:=[],defaults:=d,kwdefaults:=kw,doc:=doc,pyModule:=md,code:= .ref c,builtins:=bl }, #[]⟩
 |_=>default
def dr:Stmt->DefRec
 |.FunctionDef n a b _ _ _ sc _ _ x=>⟨n,a,b,sc,x⟩
 |_=>⟨"",⟨[], [],none, [], [],none, []⟩, [],default,default⟩
abbrev cc (nm qn:Str)(t l a fl x tb:Nat)(d v f:Value)(z n t':Nat):Obj:=co [s nm t,s qn (t+1),s "/claim/cut.py" (t+2),i l 0,i a 0,i 0 0,i 0 0,i fl 0,r x,.bool true,i 181 0,r tb,d,v,f,r z,i n 0,i l 0,s "/claim/cut.py" t']
abbrev fo (q md:Str)(t:Tok)(c:Addr)(x:Stmt):Obj:=fn q .none .none .none (s md t) c 0 x
noncomputable def tree (P:Params):BT:=(.node (boot_o_0 P) (.node (boot_o_1 P) (.node (boot_o_3 P) (.node (boot_o_7 P) .nil .nil) .nil) (.node (boot_o_5 P) (.node (boot_o_9 P) .nil .nil) .nil)) (.node (boot_o_2 P) (.node (boot_o_4 P) (.node (boot_o_8 P) .nil .nil) .nil) (.node (boot_o_6 P) (.node (boot_o_10 P) .nil .nil) .nil)))
noncomputable def S (w:World)(os:OsState):SharedT:=⟨tree w.params,11,(boot_heap w.params).life,Array.mk [],boot_drawn,boot_toks,os⟩
theorem b6V (w:World)(os:OsState):(S w os).abs=⟨boot_heap w.params,Array.mk [],boot_drawn,boot_toks,os⟩:=by kernel_rfl
end Hd
namespace Hd
open PySem PyProof.Rows
open PySem.W PySem.Calls
set_option maxRecDepth 100000
noncomputable section
abbrev p:Program:=PySem.Challenge.pw_bitrail_k95_whole_taken_is_heard
noncomputable def o2:Obj:=di .none [] 0
noncomputable def o3 (P : Params) : Obj := di (t "dict") [e P "__name__" 165 (s "law_bitrail_k95_whole_taken_is_heard" 1575), e P "__doc__" 166 .none, e P "__package__" 167 .none, e P "__loader__" 168 (b "__main__.__loader__#opaque"), e P "__spec__" 169 .none, e P "__annotations__" 170 (r 6), e P "__builtins__" 171 (r 4), e P "__file__" 173 (s "/claim/cut.py" 172), e P "__cached__" 174 .none, e P "_wall" 193 (r 21), e P "RailError" 213 (r 31), e P "NoBits" 229 (r 44), e P "NoName" 245 (r 56), e P "NoKey" 261 (r 68), e P "NoFrame" 277 (r 80), e P "NoPost" 293 (r 92), e P "HIGHEST_BYTE" 297 (i 255 296), e P "bits_of" 303 (r 99), e P "number_of" 312 (r 106), e P "are_bytes" 318 (r 111), e P "divided" 331 (r 118), e P "KEY" 335 (i 64647 334), e P "CHECK_BITS" 337 (i 15 336), e P "rest_of" 344 (r 125), e P "check_of" 351 (r 132), e P "NAME_BITS" 355 (i 8 354), e P "HIGHEST_NAME" 357 (i 255 356), e P "is_name" 364 (r 139), e P "is_wanted" 372 (r 146), e P "MOST_ALIKE" 376 (i 5 375), e P "Streak" 427 (r 184), e P "put_in" 437 (r 195), e P "SIZE_AT" 441 (i 9 440), e P "SIZE_BITS" 443 (i 3 442), e P "DATA_AT" 445 (i 12 444), e P "BYTE_BITS" 447 (i 8 446), e P "MOST_BYTES" 449 (i 7 448), e P "check_frame" 457 (r 202), e P "frame_bits" 467 (r 209), e P "is_complete" 474 (r 216), e P "told_size" 481 (r 223), e P "read_frame" 487 (r 228), e P "wire_of" 495 (r 235), e P "GREAT_FAULT" 499 (i 8 498), e P "SMALL_FAULT" 501 (i 1 500), e P "QUIET_FROM" 503 (i 12 502), e P "OFF_FROM" 505 (i 18 504), e P "Count" 584 (r 301), e P "Reader" 646 (r 350), e P "ANSWER_AT" 650 (i 1 649), e P "VOTES_AT" 652 (i 9 651), e P "Tail" 725 (r 406), e P "ReadTail" 749 (r 427), e P "SpeakTail" 773 (r 446), e P "FLAG_BITS" 777 (i 6 776), e P "REST_TURNS" 779 (i 3 778), e P "QUIET_TURNS" 781 (i 8 780), e P "DUEL_BITS" 783 (i 9 782), e P "begun_reader" 790 (r 455), e P "unless_off" 799 (r 462), e P "fault_of" 807 (r 469), e P "refusal_of" 815 (r 476), e P "blame_of" 822 (r 483), e P "Free" 876 (r 521), e P "Speaks" 935 (r 563), e P "Reads" 991 (r 605), e P "InTail" 1047 (r 647), e P "Flagging" 1102 (r 689), e P "Settles" 1155 (r 731), e P "Rests" 1208 (r 773), e P "Off" 1252 (r 808), e P "VOTES" 1258 (r 813), e P "check_votes" 1265 (r 820), e P "check_choice" 1272 (r 827), e P "copies" 1278 (r 832), e P "Post" 1409 (r 940), e P "MOST_POSTS" 1413 (i 5 1412), e P "Rail" 1574 (r 1069), e P "_law_draw" 1587 (r 1080), e P "_law_wire" 1601 (r 1087), e P "_law_frames" 1615 (r 1094), e P "_law_choice" 1625 (r 1101), e P "_law_heard_whole" 1631 (r 1106), e P "_law_some" 1637 (r 1111), e P "_law_borne" 1643 (r 1116), e P "law" 1649 (r 1121)] 86
noncomputable def o30 (P:Params):Obj:=di (t "dict") [e P "__module__" 203 (s "bitrail.errors" 194),e P "__firstlineno__" 207 (i 5 206),e P "__static_attributes__" 208 (r 29),e P "__weakref__" 210 (r 32),e P "__doc__" 211 .none] 3
noncomputable def o31:Obj:=cl { name:="RailError",bases:=[t "ValueError"],mro:=[r 31,t "ValueError",t "Exception",t "BaseException",t "object"],ns:=30,qualname:="RailError",hasDict:=true,subclasses:=[r 44,r 56,r 68,r 80,r 92] } [o (r 22),.none,o (s "RailError" 196),o (s "RailError" 204),o (b "ValueError.__new__"),o (.bool true)]
noncomputable def o43 (P:Params):Obj:=di (t "dict") [e P "__module__" 221 (s "bitrail.errors" 194),e P "__firstlineno__" 225 (i 7 224),e P "__static_attributes__" 226 (r 42),e P "__doc__" 227 .none] 2
noncomputable def o44:Obj:=cl { name:="NoBits",bases:=[r 31],mro:=[r 44,r 31,t "ValueError",t "Exception",t "BaseException",t "object"],ns:=43,qualname:="NoBits",hasDict:=true,subclasses:=[] } [o (r 35),.none,o (s "NoBits" 214),o (s "NoBits" 222),o (b "ValueError.__new__"),o (.bool true)]
noncomputable def o55 (P:Params):Obj:=di (t "dict") [e P "__module__" 237 (s "bitrail.errors" 194),e P "__firstlineno__" 241 (i 9 240),e P "__static_attributes__" 242 (r 54),e P "__doc__" 243 .none] 2
noncomputable def o56:Obj:=cl { name:="NoName",bases:=[r 31],mro:=[r 56,r 31,t "ValueError",t "Exception",t "BaseException",t "object"],ns:=55,qualname:="NoName",hasDict:=true,subclasses:=[] } [o (r 47),.none,o (s "NoName" 230),o (s "NoName" 238),o (b "ValueError.__new__"),o (.bool true)]
noncomputable def o67 (P:Params):Obj:=di (t "dict") [e P "__module__" 253 (s "bitrail.errors" 194),e P "__firstlineno__" 257 (i 11 256),e P "__static_attributes__" 258 (r 66),e P "__doc__" 259 .none] 2
noncomputable def o68:Obj:=cl { name:="NoKey",bases:=[r 31],mro:=[r 68,r 31,t "ValueError",t "Exception",t "BaseException",t "object"],ns:=67,qualname:="NoKey",hasDict:=true,subclasses:=[] } [o (r 59),.none,o (s "NoKey" 246),o (s "NoKey" 254),o (b "ValueError.__new__"),o (.bool true)]
noncomputable def o79 (P:Params):Obj:=di (t "dict") [e P "__module__" 269 (s "bitrail.errors" 194),e P "__firstlineno__" 273 (i 13 272),e P "__static_attributes__" 274 (r 78),e P "__doc__" 275 .none] 2
noncomputable def o80:Obj:=cl { name:="NoFrame",bases:=[r 31],mro:=[r 80,r 31,t "ValueError",t "Exception",t "BaseException",t "object"],ns:=79,qualname:="NoFrame",hasDict:=true,subclasses:=[] } [o (r 71),.none,o (s "NoFrame" 262),o (s "NoFrame" 270),o (b "ValueError.__new__"),o (.bool true)]
noncomputable def o91 (P:Params):Obj:=di (t "dict") [e P "__module__" 285 (s "bitrail.errors" 194),e P "__firstlineno__" 289 (i 15 288),e P "__static_attributes__" 290 (r 90),e P "__doc__" 291 .none] 2
noncomputable def o92:Obj:=cl { name:="NoPost",bases:=[r 31],mro:=[r 92,r 31,t "ValueError",t "Exception",t "BaseException",t "object"],ns:=91,qualname:="NoPost",hasDict:=true,subclasses:=[] } [o (r 83),.none,o (s "NoPost" 278),o (s "NoPost" 286),o (b "ValueError.__new__"),o (.bool true)]
noncomputable def o98:Obj:=cc "bits_of" "bits_of" 298 19 2 3 95 96 .none .none .none 97 301 302
noncomputable def o99:Obj:=fo "bits_of" "bitrail.bits" 294 98 (sf p 10)
noncomputable def o105:Obj:=cc "number_of" "number_of" 304 23 1 3 100 101 .none (r 102) (r 103) 104 310 311
noncomputable def o106:Obj:=fo "number_of" "bitrail.bits" 294 105 (sf p 11)
noncomputable def o110:Obj:=cc "are_bytes" "are_bytes" 313 28 1 3 107 108 .none .none .none 109 316 317
noncomputable def o111:Obj:=fo "are_bytes" "bitrail.bits" 294 110 (sf p 12)
noncomputable def o117:Obj:=cc "divided" "divided" 321 31 2 3 112 113 .none (r 114) (r 115) 116 329 330
noncomputable def o118:Obj:=fo "divided" "bitrail.keys" 319 117 (sf p 14)
noncomputable def o124:Obj:=cc "rest_of" "rest_of" 338 44 1 3 119 120 .none (r 121) (r 122) 123 342 343
noncomputable def o125:Obj:=fo "rest_of" "bitrail.checks" 332 124 (sf p 18)
noncomputable def o131:Obj:=cc "check_of" "check_of" 345 46 1 3 126 127 .none (r 128) (r 129) 130 349 350
noncomputable def o132:Obj:=fo "check_of" "bitrail.checks" 332 131 (sf p 19)
noncomputable def o138:Obj:=cc "is_name" "is_name" 358 51 1 3 133 134 .none (r 135) (r 136) 137 362 363
noncomputable def o139:Obj:=fo "is_name" "bitrail.names" 352 138 (sf p 23)
noncomputable def o145:Obj:=cc "is_wanted" "is_wanted" 365 53 2 3 140 141 .none (r 142) (r 143) 144 370 371
noncomputable def o146:Obj:=fo "is_wanted" "bitrail.names" 352 145 (sf p 24)
noncomputable def o159:Obj:=cc "__init__" "Streak.__init__" 389 59 1 3 154 155 .none (r 156) (r 157) 158 393 394
noncomputable def o160:Obj:=fo "Streak.__init__" "bitrail.putting" 373 159 (sub 0 (sf p 27))
noncomputable def o166:Obj:=cc "lengthen" "Streak.lengthen" 396 63 2 3 161 162 .none (r 163) (r 164) 165 401 402
noncomputable def o167:Obj:=fo "Streak.lengthen" "bitrail.putting" 373 166 (sub 1 (sf p 27))
noncomputable def o173:Obj:=cc "is_full" "Streak.is_full" 404 67 1 3 168 169 .none (r 170) (r 171) 172 408 409
noncomputable def o174:Obj:=fo "Streak.is_full" "bitrail.putting" 373 173 (sub 2 (sf p 27))
noncomputable def o180:Obj:=cc "is_too_long" "Streak.is_too_long" 411 70 1 3 175 176 .none (r 177) (r 178) 179 415 416
noncomputable def o181:Obj:=fo "Streak.is_too_long" "bitrail.putting" 373 180 (sub 3 (sf p 27))
noncomputable def o183 (P:Params):Obj:=di (t "dict") [e P "__module__" 384 (s "bitrail.putting" 373),e P "__firstlineno__" 388 (i 57 387),e P "__init__" 395 (r 160),e P "lengthen" 403 (r 167),e P "is_full" 410 (r 174),e P "is_too_long" 417 (r 181),e P "__static_attributes__" 420 (r 182),e P "__dict__" 422 (r 185),e P "__weakref__" 424 (r 186),e P "__doc__" 425 .none] 4
noncomputable def o184:Obj:=cl { name:="Streak",bases:=[t "object"],mro:=[r 184,t "object"],ns:=183,qualname:="Streak",hasDict:=true,subclasses:=[] } [.none,.none,o (s "Streak" 377),o (s "Streak" 385),o (b "object.__new__"),o (.bool true)]
noncomputable def o194:Obj:=cc "put_in" "put_in" 428 72 1 3 189 190 .none (r 191) (r 192) 193 435 436
noncomputable def o195:Obj:=fo "put_in" "bitrail.putting" 373 194 (sf p 28)
noncomputable def o201:Obj:=cc "check_frame" "check_frame" 450 88 2 3 196 197 .none (r 198) (r 199) 200 455 456
noncomputable def o202:Obj:=fo "check_frame" "bitrail.frames" 438 201 (sf p 35)
noncomputable def o208:Obj:=cc "frame_bits" "frame_bits" 458 95 2 3 203 204 .none (r 205) (r 206) 207 465 466
noncomputable def o209:Obj:=fo "frame_bits" "bitrail.frames" 438 208 (sf p 36)
noncomputable def o215:Obj:=cc "is_complete" "is_complete" 468 101 1 3 210 211 .none (r 212) (r 213) 214 472 473
noncomputable def o216:Obj:=fo "is_complete" "bitrail.frames" 438 215 (sf p 37)
noncomputable def o222:Obj:=cc "told_size" "told_size" 475 103 1 3 217 218 .none (r 219) (r 220) 221 479 480
noncomputable def o223:Obj:=fo "told_size" "bitrail.frames" 438 222 (sf p 38)
noncomputable def o227:Obj:=cc "read_frame" "read_frame" 482 105 1 3 224 225 .none .none .none 226 485 486
noncomputable def o228:Obj:=fo "read_frame" "bitrail.frames" 438 227 (sf p 39)
noncomputable def o234:Obj:=cc "wire_of" "wire_of" 488 114 2 3 229 230 .none (r 231) (r 232) 233 493 494
noncomputable def o235:Obj:=fo "wire_of" "bitrail.frames" 438 234 (sf p 40)
noncomputable def o248:Obj:=cc "__init__" "Count.__init__" 518 123 1 3 243 244 .none (r 245) (r 246) 247 522 523
noncomputable def o249:Obj:=fo "Count.__init__" "bitrail.counts" 496 248 (sub 0 (sf p 46))
noncomputable def o255:Obj:=cc "fault" "Count.fault" 525 126 2 3 250 251 .none (r 252) (r 253) 254 530 531
noncomputable def o256:Obj:=fo "Count.fault" "bitrail.counts" 496 255 (sub 1 (sf p 46))
noncomputable def o262:Obj:=cc "blame" "Count.blame" 533 129 1 3 257 258 .none (r 259) (r 260) 261 537 538
noncomputable def o263:Obj:=fo "Count.blame" "bitrail.counts" 496 262 (sub 2 (sf p 46))
noncomputable def o269:Obj:=cc "good" "Count.good" 540 132 1 3 264 265 .none (r 266) (r 267) 268 544 545
noncomputable def o270:Obj:=fo "Count.good" "bitrail.counts" 496 269 (sub 3 (sf p 46))
noncomputable def o276:Obj:=cc "move" "Count.move" 547 135 2 3 271 272 .none (r 273) (r 274) 275 552 553
noncomputable def o277:Obj:=fo "Count.move" "bitrail.counts" 496 276 (sub 4 (sf p 46))
noncomputable def o283:Obj:=cc "number" "Count.number" 555 139 1 3 278 279 .none (r 280) (r 281) 282 559 560
noncomputable def o284:Obj:=fo "Count.number" "bitrail.counts" 496 283 (sub 5 (sf p 46))
noncomputable def o290:Obj:=cc "is_quiet" "Count.is_quiet" 562 142 1 3 285 286 .none (r 287) (r 288) 289 566 567
noncomputable def o291:Obj:=fo "Count.is_quiet" "bitrail.counts" 496 290 (sub 6 (sf p 46))
noncomputable def o297:Obj:=cc "is_off" "Count.is_off" 569 145 1 3 292 293 .none (r 294) (r 295) 296 573 574
noncomputable def o298:Obj:=fo "Count.is_off" "bitrail.counts" 496 297 (sub 7 (sf p 46))
noncomputable def o300 (P:Params):Obj:=di (t "dict") [e P "__module__" 513 (s "bitrail.counts" 496),e P "__firstlineno__" 517 (i 121 516),e P "__init__" 524 (r 249),e P "fault" 532 (r 256),e P "blame" 539 (r 263),e P "good" 546 (r 270),e P "move" 554 (r 277),e P "number" 561 (r 284),e P "is_quiet" 568 (r 291),e P "is_off" 575 (r 298),e P "__static_attributes__" 577 (r 299),e P "__dict__" 579 (r 302),e P "__weakref__" 581 (r 303),e P "__doc__" 582 .none] 4
noncomputable def o301:Obj:=cl { name:="Count",bases:=[t "object"],mro:=[r 301,t "object"],ns:=300,qualname:="Count",hasDict:=true,subclasses:=[] } [.none,.none,o (s "Count" 506),o (s "Count" 514),o (b "object.__new__"),o (.bool true)]
noncomputable def o318:Obj:=cc "__init__" "Reader.__init__" 599 150 1 3 313 314 .none (r 315) (r 316) 317 603 604
noncomputable def o319:Obj:=fo "Reader.__init__" "bitrail.readers" 585 318 (sub 0 (sf p 48))
noncomputable def o325:Obj:=cc "hear" "Reader.hear" 606 155 2 3 320 321 .none (r 322) (r 323) 324 612 613
noncomputable def o326:Obj:=fo "Reader.hear" "bitrail.readers" 585 325 (sub 1 (sf p 48))
noncomputable def o332:Obj:=cc "judged" "Reader.judged" 615 163 1 3 327 328 .none (r 329) (r 330) 331 619 620
noncomputable def o333:Obj:=fo "Reader.judged" "bitrail.readers" 585 332 (sub 2 (sf p 48))
noncomputable def o339:Obj:=cc "plain" "Reader.plain" 622 170 1 3 334 335 .none (r 336) (r 337) 338 626 627
noncomputable def o340:Obj:=fo "Reader.plain" "bitrail.readers" 585 339 (sub 3 (sf p 48))
noncomputable def o346:Obj:=cc "frame" "Reader.frame" 629 173 1 3 341 342 .none (r 343) (r 344) 345 633 634
noncomputable def o347:Obj:=fo "Reader.frame" "bitrail.readers" 585 346 (sub 4 (sf p 48))
noncomputable def o349 (P:Params):Obj:=di (t "dict") [e P "__module__" 594 (s "bitrail.readers" 585),e P "__firstlineno__" 598 (i 148 597),e P "__init__" 605 (r 319),e P "hear" 614 (r 326),e P "judged" 621 (r 333),e P "plain" 628 (r 340),e P "frame" 635 (r 347),e P "__static_attributes__" 639 (r 348),e P "__dict__" 641 (r 351),e P "__weakref__" 643 (r 352),e P "__doc__" 644 .none] 4
noncomputable def o350:Obj:=cl { name:="Reader",bases:=[t "object"],mro:=[r 350,t "object"],ns:=349,qualname:="Reader",hasDict:=true,subclasses:=[] } [.none,.none,o (s "Reader" 587),o (s "Reader" 595),o (b "object.__new__"),o (.bool true)]
noncomputable def o367:Obj:=cc "__init__" "Tail.__init__" 665 180 3 3 362 363 .none (r 364) (r 365) 366 671 672
noncomputable def o368:Obj:=fo "Tail.__init__" "bitrail.tails" 647 367 (sub 0 (sf p 52))
noncomputable def o374:Obj:=cc "says" "Tail.says" 674 186 1 3 369 370 .none (r 371) (r 372) 373 678 679
noncomputable def o375:Obj:=fo "Tail.says" "bitrail.tails" 647 374 (sub 1 (sf p 52))
noncomputable def o381:Obj:=cc "hear" "Tail.hear" 681 189 2 3 376 377 .none (r 378) (r 379) 380 687 688
noncomputable def o382:Obj:=fo "Tail.hear" "bitrail.tails" 647 381 (sub 2 (sf p 52))
noncomputable def o388:Obj:=cc "is_fault" "Tail.is_fault" 690 196 3 3 383 384 .none (r 385) (r 386) 387 696 697
noncomputable def o389:Obj:=fo "Tail.is_fault" "bitrail.tails" 647 388 (sub 3 (sf p 52))
noncomputable def o395:Obj:=cc "judged_vote" "Tail.judged_vote" 699 201 2 3 390 391 .none (r 392) (r 393) 394 704 705
noncomputable def o396:Obj:=fo "Tail.judged_vote" "bitrail.tails" 647 395 (sub 4 (sf p 52))
noncomputable def o402:Obj:=cc "place" "Tail.place" 707 208 1 3 397 398 .none (r 399) (r 400) 401 711 712
noncomputable def o403:Obj:=fo "Tail.place" "bitrail.tails" 647 402 (sub 5 (sf p 52))
noncomputable def o405 (P:Params):Obj:=di (t "dict") [e P "__module__" 660 (s "bitrail.tails" 647),e P "__firstlineno__" 664 (i 178 663),e P "__init__" 673 (r 368),e P "says" 680 (r 375),e P "hear" 689 (r 382),e P "is_fault" 698 (r 389),e P "judged_vote" 706 (r 396),e P "place" 713 (r 403),e P "__static_attributes__" 718 (r 404),e P "__dict__" 720 (r 407),e P "__weakref__" 722 (r 408),e P "__doc__" 723 .none] 4
noncomputable def o406:Obj:=cl { name:="Tail",bases:=[t "object"],mro:=[r 406,t "object"],ns:=405,qualname:="Tail",hasDict:=true,subclasses:=[r 427,r 446] } [.none,.none,o (s "Tail" 653),o (s "Tail" 661),o (b "object.__new__"),o (.bool true)]
noncomputable def o423:Obj:=cc "__init__" "ReadTail.__init__" 738 212 2 3 418 419 .none (r 420) (r 421) 422 743 744
noncomputable def o424:Obj:=fo "ReadTail.__init__" "bitrail.tails" 647 423 (sub 0 (sf p 53))
noncomputable def o426 (P:Params):Obj:=di (t "dict") [e P "__module__" 733 (s "bitrail.tails" 647),e P "__firstlineno__" 737 (i 210 736),e P "__init__" 745 (r 424),e P "__static_attributes__" 746 (r 425),e P "__doc__" 747 .none] 2
noncomputable def o427:Obj:=cl { name:="ReadTail",bases:=[r 406],mro:=[r 427,r 406,t "object"],ns:=426,qualname:="ReadTail",hasDict:=true,subclasses:=[] } [o (r 411),.none,o (s "ReadTail" 726),o (s "ReadTail" 734),o (b "object.__new__"),o (.bool true)]
noncomputable def o442:Obj:=cc "__init__" "SpeakTail.__init__" 762 216 2 3 437 438 .none (r 439) (r 440) 441 767 768
noncomputable def o443:Obj:=fo "SpeakTail.__init__" "bitrail.tails" 647 442 (sub 0 (sf p 54))
noncomputable def o445 (P:Params):Obj:=di (t "dict") [e P "__module__" 757 (s "bitrail.tails" 647),e P "__firstlineno__" 761 (i 214 760),e P "__init__" 769 (r 443),e P "__static_attributes__" 770 (r 444),e P "__doc__" 771 .none] 2
noncomputable def o446:Obj:=cl { name:="SpeakTail",bases:=[r 406],mro:=[r 446,r 406,t "object"],ns:=445,qualname:="SpeakTail",hasDict:=true,subclasses:=[] } [o (r 430),.none,o (s "SpeakTail" 750),o (s "SpeakTail" 758),o (b "object.__new__"),o (.bool true)]
noncomputable def o454:Obj:=cc "begun_reader" "begun_reader" 784 223 0 3 449 450 .none (r 451) (r 452) 453 788 789
noncomputable def o455:Obj:=fo "begun_reader" "bitrail.stances" 774 454 (sf p 60)
noncomputable def o461:Obj:=cc "unless_off" "unless_off" 791 227 3 3 456 457 .none (r 458) (r 459) 460 797 798
noncomputable def o462:Obj:=fo "unless_off" "bitrail.stances" 774 461 (sf p 61)
noncomputable def o468:Obj:=cc "fault_of" "fault_of" 800 229 2 3 463 464 .none (r 465) (r 466) 467 805 806
noncomputable def o469:Obj:=fo "fault_of" "bitrail.stances" 774 468 (sf p 62)
noncomputable def o475:Obj:=cc "refusal_of" "refusal_of" 808 232 2 3 470 471 .none (r 472) (r 473) 474 813 814
noncomputable def o476:Obj:=fo "refusal_of" "bitrail.stances" 774 475 (sf p 63)
noncomputable def o482:Obj:=cc "blame_of" "blame_of" 816 235 1 3 477 478 .none (r 479) (r 480) 481 820 821
noncomputable def o483:Obj:=fo "blame_of" "bitrail.stances" 774 482 (sf p 64)
noncomputable def o496:Obj:=cc "__init__" "Free.__init__" 835 240 2 3 491 492 .none (r 493) (r 494) 495 840 841
noncomputable def o497:Obj:=fo "Free.__init__" "bitrail.stances" 774 496 (sub 0 (sf p 65))
noncomputable def o510:Obj:=cc "says" "Free.says" 850 246 2 3 505 506 .none (r 507) (r 508) 509 855 856
noncomputable def o511:Obj:=fo "Free.says" "bitrail.stances" 774 510 (sub 2 (sf p 65))
noncomputable def o517:Obj:=cc "step" "Free.step" 858 251 3 3 512 513 .none (r 514) (r 515) 516 865 866
noncomputable def o518:Obj:=fo "Free.step" "bitrail.stances" 774 517 (sub 3 (sf p 65))
noncomputable def o520 (P:Params):Obj:=di (t "dict") [e P "__module__" 830 (s "bitrail.stances" 774),e P "__firstlineno__" 834 (i 238 833),e P "__init__" 842 (r 497),e P "shown" 849 (r 504),e P "says" 857 (r 511),e P "step" 867 (r 518),e P "__static_attributes__" 869 (r 519),e P "__dict__" 871 (r 522),e P "__weakref__" 873 (r 523),e P "__doc__" 874 .none] 4
noncomputable def o521:Obj:=cl { name:="Free",bases:=[t "object"],mro:=[r 521,t "object"],ns:=520,qualname:="Free",hasDict:=true,subclasses:=[] } [.none,.none,o (s "Free" 823),o (s "Free" 831),o (b "object.__new__"),o (.bool true)]
noncomputable def o538:Obj:=cc "__init__" "Speaks.__init__" 889 262 4 3 533 534 .none (r 535) (r 536) 537 896 897
noncomputable def o539:Obj:=fo "Speaks.__init__" "bitrail.stances" 774 538 (sub 0 (sf p 66))
noncomputable def o552:Obj:=cc "says" "Speaks.says" 906 270 2 3 547 548 .none (r 549) (r 550) 551 911 912
noncomputable def o553:Obj:=fo "Speaks.says" "bitrail.stances" 774 552 (sub 2 (sf p 66))
noncomputable def o559:Obj:=cc "step" "Speaks.step" 914 273 3 3 554 555 .none (r 556) (r 557) 558 922 923
noncomputable def o560:Obj:=fo "Speaks.step" "bitrail.stances" 774 559 (sub 3 (sf p 66))
noncomputable def o562 (P:Params):Obj:=di (t "dict") [e P "__module__" 884 (s "bitrail.stances" 774),e P "__firstlineno__" 888 (i 260 887),e P "__init__" 898 (r 539),e P "shown" 905 (r 546),e P "says" 913 (r 553),e P "step" 924 (r 560),e P "__static_attributes__" 928 (r 561),e P "__dict__" 930 (r 564),e P "__weakref__" 932 (r 565),e P "__doc__" 933 .none] 4
noncomputable def o563:Obj:=cl { name:="Speaks",bases:=[t "object"],mro:=[r 563,t "object"],ns:=562,qualname:="Speaks",hasDict:=true,subclasses:=[] } [.none,.none,o (s "Speaks" 877),o (s "Speaks" 885),o (b "object.__new__"),o (.bool true)]
noncomputable def o580:Obj:=cc "__init__" "Reads.__init__" 948 287 3 3 575 576 .none (r 577) (r 578) 579 954 955
noncomputable def o581:Obj:=fo "Reads.__init__" "bitrail.stances" 774 580 (sub 0 (sf p 67))
noncomputable def o594:Obj:=cc "says" "Reads.says" 964 294 2 3 589 590 .none (r 591) (r 592) 593 969 970
noncomputable def o595:Obj:=fo "Reads.says" "bitrail.stances" 774 594 (sub 2 (sf p 67))
noncomputable def o601:Obj:=cc "step" "Reads.step" 972 297 3 3 596 597 .none (r 598) (r 599) 600 979 980
noncomputable def o602:Obj:=fo "Reads.step" "bitrail.stances" 774 601 (sub 3 (sf p 67))
noncomputable def o604 (P:Params):Obj:=di (t "dict") [e P "__module__" 943 (s "bitrail.stances" 774),e P "__firstlineno__" 947 (i 285 946),e P "__init__" 956 (r 581),e P "shown" 963 (r 588),e P "says" 971 (r 595),e P "step" 981 (r 602),e P "__static_attributes__" 984 (r 603),e P "__dict__" 986 (r 606),e P "__weakref__" 988 (r 607),e P "__doc__" 989 .none] 4
noncomputable def o605:Obj:=cl { name:="Reads",bases:=[t "object"],mro:=[r 605,t "object"],ns:=604,qualname:="Reads",hasDict:=true,subclasses:=[] } [.none,.none,o (s "Reads" 936),o (s "Reads" 944),o (b "object.__new__"),o (.bool true)]
noncomputable def o622:Obj:=cc "__init__" "InTail.__init__" 1004 306 3 3 617 618 .none (r 619) (r 620) 621 1010 1011
noncomputable def o623:Obj:=fo "InTail.__init__" "bitrail.stances" 774 622 (sub 0 (sf p 68))
noncomputable def o636:Obj:=cc "says" "InTail.says" 1020 313 2 3 631 632 .none (r 633) (r 634) 635 1025 1026
noncomputable def o637:Obj:=fo "InTail.says" "bitrail.stances" 774 636 (sub 2 (sf p 68))
noncomputable def o643:Obj:=cc "step" "InTail.step" 1028 316 3 3 638 639 .none (r 640) (r 641) 642 1035 1036
noncomputable def o644:Obj:=fo "InTail.step" "bitrail.stances" 774 643 (sub 3 (sf p 68))
noncomputable def o646 (P:Params):Obj:=di (t "dict") [e P "__module__" 999 (s "bitrail.stances" 774),e P "__firstlineno__" 1003 (i 304 1002),e P "__init__" 1012 (r 623),e P "shown" 1019 (r 630),e P "says" 1027 (r 637),e P "step" 1037 (r 644),e P "__static_attributes__" 1040 (r 645),e P "__dict__" 1042 (r 648),e P "__weakref__" 1044 (r 649),e P "__doc__" 1045 .none] 4
noncomputable def o647:Obj:=cl { name:="InTail",bases:=[t "object"],mro:=[r 647,t "object"],ns:=646,qualname:="InTail",hasDict:=true,subclasses:=[] } [.none,.none,o (s "InTail" 992),o (s "InTail" 1000),o (b "object.__new__"),o (.bool true)]
noncomputable def o664:Obj:=cc "__init__" "Flagging.__init__" 1060 332 3 3 659 660 .none (r 661) (r 662) 663 1066 1067
noncomputable def o665:Obj:=fo "Flagging.__init__" "bitrail.stances" 774 664 (sub 0 (sf p 69))
noncomputable def o678:Obj:=cc "says" "Flagging.says" 1076 339 2 3 673 674 .none (r 675) (r 676) 677 1081 1082
noncomputable def o679:Obj:=fo "Flagging.says" "bitrail.stances" 774 678 (sub 2 (sf p 69))
noncomputable def o685:Obj:=cc "step" "Flagging.step" 1084 342 3 3 680 681 .none (r 682) (r 683) 684 1090 1091
noncomputable def o686:Obj:=fo "Flagging.step" "bitrail.stances" 774 685 (sub 3 (sf p 69))
noncomputable def o688 (P:Params):Obj:=di (t "dict") [e P "__module__" 1055 (s "bitrail.stances" 774),e P "__firstlineno__" 1059 (i 330 1058),e P "__init__" 1068 (r 665),e P "shown" 1075 (r 672),e P "says" 1083 (r 679),e P "step" 1092 (r 686),e P "__static_attributes__" 1095 (r 687),e P "__dict__" 1097 (r 690),e P "__weakref__" 1099 (r 691),e P "__doc__" 1100 .none] 4
noncomputable def o689:Obj:=cl { name:="Flagging",bases:=[t "object"],mro:=[r 689,t "object"],ns:=688,qualname:="Flagging",hasDict:=true,subclasses:=[] } [.none,.none,o (s "Flagging" 1048),o (s "Flagging" 1056),o (b "object.__new__"),o (.bool true)]
noncomputable def o706:Obj:=cc "__init__" "Settles.__init__" 1115 348 2 3 701 702 .none (r 703) (r 704) 705 1120 1121
noncomputable def o707:Obj:=fo "Settles.__init__" "bitrail.stances" 774 706 (sub 0 (sf p 70))
noncomputable def o720:Obj:=cc "says" "Settles.says" 1130 354 2 3 715 716 .none (r 717) (r 718) 719 1135 1136
noncomputable def o721:Obj:=fo "Settles.says" "bitrail.stances" 774 720 (sub 2 (sf p 70))
noncomputable def o727:Obj:=cc "step" "Settles.step" 1138 357 3 3 722 723 .none (r 724) (r 725) 726 1144 1145
noncomputable def o728:Obj:=fo "Settles.step" "bitrail.stances" 774 727 (sub 3 (sf p 70))
noncomputable def o730 (P:Params):Obj:=di (t "dict") [e P "__module__" 1110 (s "bitrail.stances" 774),e P "__firstlineno__" 1114 (i 346 1113),e P "__init__" 1122 (r 707),e P "shown" 1129 (r 714),e P "says" 1137 (r 721),e P "step" 1146 (r 728),e P "__static_attributes__" 1148 (r 729),e P "__dict__" 1150 (r 732),e P "__weakref__" 1152 (r 733),e P "__doc__" 1153 .none] 4
noncomputable def o731:Obj:=cl { name:="Settles",bases:=[t "object"],mro:=[r 731,t "object"],ns:=730,qualname:="Settles",hasDict:=true,subclasses:=[] } [.none,.none,o (s "Settles" 1103),o (s "Settles" 1111),o (b "object.__new__"),o (.bool true)]
noncomputable def o748:Obj:=cc "__init__" "Rests.__init__" 1168 365 2 3 743 744 .none (r 745) (r 746) 747 1173 1174
noncomputable def o749:Obj:=fo "Rests.__init__" "bitrail.stances" 774 748 (sub 0 (sf p 71))
noncomputable def o762:Obj:=cc "says" "Rests.says" 1183 371 2 3 757 758 .none (r 759) (r 760) 761 1188 1189
noncomputable def o763:Obj:=fo "Rests.says" "bitrail.stances" 774 762 (sub 2 (sf p 71))
noncomputable def o769:Obj:=cc "step" "Rests.step" 1191 374 3 3 764 765 .none (r 766) (r 767) 768 1197 1198
noncomputable def o770:Obj:=fo "Rests.step" "bitrail.stances" 774 769 (sub 3 (sf p 71))
noncomputable def o772 (P:Params):Obj:=di (t "dict") [e P "__module__" 1163 (s "bitrail.stances" 774),e P "__firstlineno__" 1167 (i 363 1166),e P "__init__" 1175 (r 749),e P "shown" 1182 (r 756),e P "says" 1190 (r 763),e P "step" 1199 (r 770),e P "__static_attributes__" 1201 (r 771),e P "__dict__" 1203 (r 774),e P "__weakref__" 1205 (r 775),e P "__doc__" 1206 .none] 4
noncomputable def o773:Obj:=cl { name:="Rests",bases:=[t "object"],mro:=[r 773,t "object"],ns:=772,qualname:="Rests",hasDict:=true,subclasses:=[] } [.none,.none,o (s "Rests" 1156),o (s "Rests" 1164),o (b "object.__new__"),o (.bool true)]
noncomputable def o797:Obj:=cc "says" "Off.says" 1228 383 2 3 792 793 .none (r 794) (r 795) 796 1233 1234
noncomputable def o798:Obj:=fo "Off.says" "bitrail.stances" 774 797 (sub 1 (sf p 72))
noncomputable def o804:Obj:=cc "step" "Off.step" 1236 386 3 3 799 800 .none (r 801) (r 802) 803 1242 1243
noncomputable def o805:Obj:=fo "Off.step" "bitrail.stances" 774 804 (sub 2 (sf p 72))
noncomputable def o807 (P:Params):Obj:=di (t "dict") [e P "__module__" 1216 (s "bitrail.stances" 774),e P "__firstlineno__" 1220 (i 378 1219),e P "shown" 1227 (r 791),e P "says" 1235 (r 798),e P "step" 1244 (r 805),e P "__static_attributes__" 1245 (r 806),e P "__dict__" 1247 (r 809),e P "__weakref__" 1249 (r 810),e P "__doc__" 1250 .none] 4
noncomputable def o808:Obj:=cl { name:="Off",bases:=[t "object"],mro:=[r 808,t "object"],ns:=807,qualname:="Off",hasDict:=true,subclasses:=[] } [.none,.none,o (s "Off" 1209),o (s "Off" 1217),o (b "object.__new__"),o (.bool true)]
noncomputable def o813:Obj:=tp [i 1 1255,i 3 1256,i 5 1257]
noncomputable def o819:Obj:=cc "check_votes" "check_votes" 1259 390 1 3 814 815 .none (r 816) (r 817) 818 1263 1264
noncomputable def o820:Obj:=fo "check_votes" "bitrail.posts" 1253 819 (sf p 75)
noncomputable def o826:Obj:=cc "check_choice" "check_choice" 1266 393 1 3 821 822 .none (r 823) (r 824) 825 1270 1271
noncomputable def o827:Obj:=fo "check_choice" "bitrail.posts" 1253 826 (sf p 76)
noncomputable def o831:Obj:=cc "copies" "copies" 1273 396 1 3 828 829 .none .none .none 830 1276 1277
noncomputable def o832:Obj:=fo "copies" "bitrail.posts" 1253 831 (sf p 77)
noncomputable def o845:Obj:=cc "__init__" "Post.__init__" 1291 400 3 3 840 841 .none (r 842) (r 843) 844 1297 1298
noncomputable def o846:Obj:=fo "Post.__init__" "bitrail.posts" 1253 845 (sub 0 (sf p 78))
noncomputable def o852:Obj:=cc "hand" "Post.hand" 1300 410 3 3 847 848 .none (r 849) (r 850) 851 1306 1307
noncomputable def o853:Obj:=fo "Post.hand" "bitrail.posts" 1253 852 (sub 1 (sf p 78))
noncomputable def o859:Obj:=cc "says" "Post.says" 1309 414 1 3 854 855 .none (r 856) (r 857) 858 1313 1314
noncomputable def o860:Obj:=fo "Post.says" "bitrail.posts" 1253 859 (sub 2 (sf p 78))
noncomputable def o866:Obj:=cc "hear" "Post.hear" 1316 417 2 3 861 862 .none (r 863) (r 864) 865 1322 1323
noncomputable def o867:Obj:=fo "Post.hear" "bitrail.posts" 1253 866 (sub 3 (sf p 78))
noncomputable def o887:Obj:=cc "got" "Post.got" 1339 428 1 3 882 883 .none (r 884) (r 885) 886 1343 1344
noncomputable def o888:Obj:=fo "Post.got" "bitrail.posts" 1253 887 (sub 6 (sf p 78))
noncomputable def o901:Obj:=cc "is_quiet" "Post.is_quiet" 1353 434 1 3 896 897 .none (r 898) (r 899) 900 1357 1358
noncomputable def o902:Obj:=fo "Post.is_quiet" "bitrail.posts" 1253 901 (sub 8 (sf p 78))
noncomputable def o908:Obj:=cc "is_off" "Post.is_off" 1360 437 1 3 903 904 .none (r 905) (r 906) 907 1364 1365
noncomputable def o909:Obj:=fo "Post.is_off" "bitrail.posts" 1253 908 (sub 9 (sf p 78))
noncomputable def o915:Obj:=cc "has_frame" "Post.has_frame" 1367 440 1 3 910 911 .none (r 912) (r 913) 914 1371 1372
noncomputable def o916:Obj:=fo "Post.has_frame" "bitrail.posts" 1253 915 (sub 10 (sf p 78))
noncomputable def o922:Obj:=cc "foremost_wire" "Post.foremost_wire" 1374 443 1 3 917 918 .none (r 919) (r 920) 921 1378 1379
noncomputable def o923:Obj:=fo "Post.foremost_wire" "bitrail.posts" 1253 922 (sub 11 (sf p 78))
noncomputable def o929:Obj:=cc "drop_foremost" "Post.drop_foremost" 1381 446 1 3 924 925 .none (r 926) (r 927) 928 1385 1386
noncomputable def o930:Obj:=fo "Post.drop_foremost" "bitrail.posts" 1253 929 (sub 12 (sf p 78))
noncomputable def o936:Obj:=cc "hand_up" "Post.hand_up" 1388 449 2 3 931 932 .none (r 933) (r 934) 935 1393 1394
noncomputable def o937:Obj:=fo "Post.hand_up" "bitrail.posts" 1253 936 (sub 13 (sf p 78))
noncomputable def o939 (P:Params):Obj:=di (t "dict") [e P "__module__" 1286 (s "bitrail.posts" 1253),e P "__firstlineno__" 1290 (i 398 1289),e P "__init__" 1299 (r 846),e P "hand" 1308 (r 853),e P "says" 1315 (r 860),e P "hear" 1324 (r 867),e P "stance" 1331 (r 874),e P "waits" 1338 (r 881),e P "got" 1345 (r 888),e P "faults" 1352 (r 895),e P "is_quiet" 1359 (r 902),e P "is_off" 1366 (r 909),e P "has_frame" 1373 (r 916),e P "foremost_wire" 1380 (r 923),e P "drop_foremost" 1387 (r 930),e P "hand_up" 1395 (r 937),e P "__static_attributes__" 1402 (r 938),e P "__dict__" 1404 (r 941),e P "__weakref__" 1406 (r 942),e P "__doc__" 1407 .none] 4
noncomputable def o940:Obj:=cl { name:="Post",bases:=[t "object"],mro:=[r 940,t "object"],ns:=939,qualname:="Post",hasDict:=true,subclasses:=[] } [.none,.none,o (s "Post" 1279),o (s "Post" 1287),o (b "object.__new__"),o (.bool true)]
noncomputable def o955:Obj:=cc "__init__" "Rail.__init__" 1426 456 3 3 952 953 .none .none .none 954 1429 1430
noncomputable def o956:Obj:=fo "Rail.__init__" "bitrail.rails" 1410 955 (sub 0 (sf p 81))
noncomputable def o962:Obj:=cc "hand" "Rail.hand" 1432 466 4 3 957 958 .none (r 959) (r 960) 961 1440 1441
noncomputable def o963:Obj:=fo "Rail.hand" "bitrail.rails" 1410 962 (sub 1 (sf p 81))
noncomputable def o969:Obj:=cc "turn" "Rail.turn" 1443 474 2 3 964 965 .none (r 966) (r 967) 968 1450 1451
noncomputable def o970:Obj:=fo "Rail.turn" "bitrail.rails" 1410 969 (sub 2 (sf p 81))
noncomputable def o981:Obj:=cc "make_turn" "Rail.make_turn" 1462 483 2 3 978 979 .none .none .none 980 1465 1466
noncomputable def o982:Obj:=fo "Rail.make_turn" "bitrail.rails" 1410 981 (sub 4 (sf p 81))
noncomputable def o988:Obj:=cc "post_at" "Rail.post_at" 1468 496 2 3 983 984 .none (r 985) (r 986) 987 1473 1474
noncomputable def o989:Obj:=fo "Rail.post_at" "bitrail.rails" 1410 988 (sub 5 (sf p 81))
noncomputable def o1002:Obj:=cc "bits" "Rail.bits" 1483 504 1 3 997 998 .none (r 999) (r 1000) 1001 1487 1488
noncomputable def o1003:Obj:=fo "Rail.bits" "bitrail.rails" 1410 1002 (sub 7 (sf p 81))
noncomputable def o1009:Obj:=cc "said" "Rail.said" 1490 507 2 3 1004 1005 .none (r 1006) (r 1007) 1008 1495 1496
noncomputable def o1010:Obj:=fo "Rail.said" "bitrail.rails" 1410 1009 (sub 8 (sf p 81))
noncomputable def o1016:Obj:=cc "heard" "Rail.heard" 1498 511 2 3 1011 1012 .none (r 1013) (r 1014) 1015 1503 1504
noncomputable def o1017:Obj:=fo "Rail.heard" "bitrail.rails" 1410 1016 (sub 9 (sf p 81))
noncomputable def o1023:Obj:=cc "events" "Rail.events" 1506 515 1 3 1018 1019 .none (r 1020) (r 1021) 1022 1510 1511
noncomputable def o1024:Obj:=fo "Rail.events" "bitrail.rails" 1410 1023 (sub 10 (sf p 81))
noncomputable def o1044:Obj:=cc "got" "Rail.got" 1529 524 2 3 1039 1040 .none (r 1041) (r 1042) 1043 1534 1535
noncomputable def o1045:Obj:=fo "Rail.got" "bitrail.rails" 1410 1044 (sub 13 (sf p 81))
noncomputable def o1068 (P:Params):Obj:=di (t "dict") [e P "__module__" 1421 (s "bitrail.rails" 1410),e P "__firstlineno__" 1425 (i 454 1424),e P "__init__" 1431 (r 956),e P "hand" 1442 (r 963),e P "turn" 1452 (r 970),e P "run" 1461 (r 977),e P "make_turn" 1467 (r 982),e P "post_at" 1475 (r 989),e P "turns" 1482 (r 996),e P "bits" 1489 (r 1003),e P "said" 1497 (r 1010),e P "heard" 1505 (r 1017),e P "events" 1512 (r 1024),e P "stance" 1520 (r 1031),e P "waits" 1528 (r 1038),e P "got" 1536 (r 1045),e P "faults" 1544 (r 1052),e P "is_quiet" 1552 (r 1059),e P "is_off" 1560 (r 1066),e P "__static_attributes__" 1567 (r 1067),e P "__dict__" 1569 (r 1070),e P "__weakref__" 1571 (r 1071),e P "__doc__" 1572 .none] 4
noncomputable def o1069:Obj:=cl { name:="Rail",bases:=[t "object"],mro:=[r 1069,t "object"],ns:=1068,qualname:="Rail",hasDict:=true,subclasses:=[] } [.none,.none,o (s "Rail" 1414),o (s "Rail" 1422),o (b "object.__new__"),o (.bool true)]
noncomputable def o1079:Obj:=cc "_law_draw" "_law_draw" 1577 536 3 3 1074 1075 .none (r 1076) (r 1077) 1078 1585 1586
noncomputable def o1080:Obj:=fo "_law_draw" "law_bitrail_k95_whole_taken_is_heard" 1575 1079 (sf p 83)
noncomputable def o1086:Obj:=cc "_law_wire" "_law_wire" 1588 540 2 3 1081 1082 .none (r 1083) (r 1084) 1085 1599 1600
noncomputable def o1087:Obj:=fo "_law_wire" "law_bitrail_k95_whole_taken_is_heard" 1575 1086 (sf p 84)
noncomputable def o1093:Obj:=cc "_law_frames" "_law_frames" 1602 555 2 3 1088 1089 .none (r 1090) (r 1091) 1092 1613 1614
noncomputable def o1094:Obj:=fo "_law_frames" "law_bitrail_k95_whole_taken_is_heard" 1575 1093 (sf p 85)
noncomputable def o1100:Obj:=cc "_law_choice" "_law_choice" 1616 566 2 3 1095 1096 .none (r 1097) (r 1098) 1099 1623 1624
noncomputable def o1101:Obj:=fo "_law_choice" "law_bitrail_k95_whole_taken_is_heard" 1575 1100 (sf p 86)
noncomputable def o1105:Obj:=cc "_law_heard_whole" "_law_heard_whole" 1626 572 3 3 1102 1103 .none .none .none 1104 1629 1630
noncomputable def o1106:Obj:=fo "_law_heard_whole" "law_bitrail_k95_whole_taken_is_heard" 1575 1105 (sf p 87)
noncomputable def o1110:Obj:=cc "_law_some" "_law_some" 1632 590 3 3 1107 1108 .none .none .none 1109 1635 1636
noncomputable def o1111:Obj:=fo "_law_some" "law_bitrail_k95_whole_taken_is_heard" 1575 1110 (sf p 88)
noncomputable def o1115:Obj:=cc "_law_borne" "_law_borne" 1638 596 4 3 1112 1113 .none .none .none 1114 1641 1642
noncomputable def o1116:Obj:=fo "_law_borne" "law_bitrail_k95_whole_taken_is_heard" 1575 1115 (sf p 89)
noncomputable def o1120:Obj:=cc "law" "law" 1644 609 1 3 1117 1118 .none .none .none 1119 1647 1648
noncomputable def o1121:Obj:=fo "law" "law_bitrail_k95_whole_taken_is_heard" 1575 1120 (sf p 90)
noncomputable def o4:Obj:=⟨.type "module",some builtinsNs,.plain, #[]⟩
noncomputable def o965:Obj:=fi .none []
noncomputable def K (P:Params):Frag:=(nat_lit 2,o2)::(nat_lit 3,o3 P)::(nat_lit 4,o4)::(nat_lit 30,o30 P)::(nat_lit 31,o31)::(nat_lit 43,o43 P)::(nat_lit 44,o44)::(nat_lit 55,o55 P)::(nat_lit 56,o56)::(nat_lit 67,o67 P)::(nat_lit 68,o68)::(nat_lit 79,o79 P)::(nat_lit 80,o80)::(nat_lit 91,o91 P)::(nat_lit 92,o92)::(nat_lit 98,o98)::(nat_lit 99,o99)::(nat_lit 105,o105)::(nat_lit 106,o106)::(nat_lit 110,o110)::(nat_lit 111,o111)::(nat_lit 117,o117)::(nat_lit 118,o118)::(nat_lit 124,o124)::(nat_lit 125,o125)::(nat_lit 131,o131)::(nat_lit 132,o132)::(nat_lit 138,o138)::(nat_lit 139,o139)::(nat_lit 145,o145)::(nat_lit 146,o146)::(nat_lit 159,o159)::(nat_lit 160,o160)::(nat_lit 166,o166)::(nat_lit 167,o167)::(nat_lit 173,o173)::(nat_lit 174,o174)::(nat_lit 180,o180)::(nat_lit 181,o181)::(nat_lit 183,o183 P)::(nat_lit 184,o184)::(nat_lit 194,o194)::(nat_lit 195,o195)::(nat_lit 201,o201)::(nat_lit 202,o202)::(nat_lit 208,o208)::(nat_lit 209,o209)::(nat_lit 215,o215)::(nat_lit 216,o216)::(nat_lit 222,o222)::(nat_lit 223,o223)::(nat_lit 227,o227)::(nat_lit 228,o228)::(nat_lit 234,o234)::(nat_lit 235,o235)::(nat_lit 248,o248)::(nat_lit 249,o249)::(nat_lit 255,o255)::(nat_lit 256,o256)::(nat_lit 262,o262)::(nat_lit 263,o263)::(nat_lit 269,o269)::(nat_lit 270,o270)::(nat_lit 276,o276)::(nat_lit 277,o277)::(nat_lit 283,o283)::(nat_lit 284,o284)::(nat_lit 290,o290)::(nat_lit 291,o291)::(nat_lit 297,o297)::(nat_lit 298,o298)::(nat_lit 300,o300 P)::(nat_lit 301,o301)::(nat_lit 318,o318)::(nat_lit 319,o319)::(nat_lit 325,o325)::(nat_lit 326,o326)::(nat_lit 332,o332)::(nat_lit 333,o333)::(nat_lit 339,o339)::(nat_lit 340,o340)::(nat_lit 346,o346)::(nat_lit 347,o347)::(nat_lit 349,o349 P)::(nat_lit 350,o350)::(nat_lit 367,o367)::(nat_lit 368,o368)::(nat_lit 374,o374)::(nat_lit 375,o375)::(nat_lit 381,o381)::(nat_lit 382,o382)::(nat_lit 388,o388)::(nat_lit 389,o389)::(nat_lit 395,o395)::(nat_lit 396,o396)::(nat_lit 402,o402)::(nat_lit 403,o403)::(nat_lit 405,o405 P)::(nat_lit 406,o406)::(nat_lit 423,o423)::(nat_lit 424,o424)::(nat_lit 426,o426 P)::(nat_lit 427,o427)::(nat_lit 442,o442)::(nat_lit 443,o443)::(nat_lit 445,o445 P)::(nat_lit 446,o446)::(nat_lit 454,o454)::(nat_lit 455,o455)::(nat_lit 461,o461)::(nat_lit 462,o462)::(nat_lit 468,o468)::(nat_lit 469,o469)::(nat_lit 475,o475)::(nat_lit 476,o476)::(nat_lit 482,o482)::(nat_lit 483,o483)::(nat_lit 496,o496)::(nat_lit 497,o497)::(nat_lit 510,o510)::(nat_lit 511,o511)::(nat_lit 517,o517)::(nat_lit 518,o518)::(nat_lit 520,o520 P)::(nat_lit 521,o521)::(nat_lit 538,o538)::(nat_lit 539,o539)::(nat_lit 552,o552)::(nat_lit 553,o553)::(nat_lit 559,o559)::(nat_lit 560,o560)::(nat_lit 562,o562 P)::(nat_lit 563,o563)::(nat_lit 580,o580)::(nat_lit 581,o581)::(nat_lit 594,o594)::(nat_lit 595,o595)::(nat_lit 601,o601)::(nat_lit 602,o602)::(nat_lit 604,o604 P)::(nat_lit 605,o605)::(nat_lit 622,o622)::(nat_lit 623,o623)::(nat_lit 636,o636)::(nat_lit 637,o637)::(nat_lit 643,o643)::(nat_lit 644,o644)::(nat_lit 646,o646 P)::(nat_lit 647,o647)::(nat_lit 664,o664)::(nat_lit 665,o665)::(nat_lit 678,o678)::(nat_lit 679,o679)::(nat_lit 685,o685)::(nat_lit 686,o686)::(nat_lit 688,o688 P)::(nat_lit 689,o689)::(nat_lit 706,o706)::(nat_lit 707,o707)::(nat_lit 720,o720)::(nat_lit 721,o721)::(nat_lit 727,o727)::(nat_lit 728,o728)::(nat_lit 730,o730 P)::(nat_lit 731,o731)::(nat_lit 748,o748)::(nat_lit 749,o749)::(nat_lit 762,o762)::(nat_lit 763,o763)::(nat_lit 769,o769)::(nat_lit 770,o770)::(nat_lit 772,o772 P)::(nat_lit 773,o773)::(nat_lit 797,o797)::(nat_lit 798,o798)::(nat_lit 804,o804)::(nat_lit 805,o805)::(nat_lit 807,o807 P)::(nat_lit 808,o808)::(nat_lit 813,o813)::(nat_lit 819,o819)::(nat_lit 820,o820)::(nat_lit 826,o826)::(nat_lit 827,o827)::(nat_lit 831,o831)::(nat_lit 832,o832)::(nat_lit 845,o845)::(nat_lit 846,o846)::(nat_lit 852,o852)::(nat_lit 853,o853)::(nat_lit 859,o859)::(nat_lit 860,o860)::(nat_lit 866,o866)::(nat_lit 867,o867)::(nat_lit 887,o887)::(nat_lit 888,o888)::(nat_lit 901,o901)::(nat_lit 902,o902)::(nat_lit 908,o908)::(nat_lit 909,o909)::(nat_lit 915,o915)::(nat_lit 916,o916)::(nat_lit 922,o922)::(nat_lit 923,o923)::(nat_lit 929,o929)::(nat_lit 930,o930)::(nat_lit 936,o936)::(nat_lit 937,o937)::(nat_lit 939,o939 P)::(nat_lit 940,o940)::(nat_lit 955,o955)::(nat_lit 956,o956)::(nat_lit 962,o962)::(nat_lit 963,o963)::(nat_lit 969,o969)::(nat_lit 970,o970)::(nat_lit 981,o981)::(nat_lit 982,o982)::(nat_lit 988,o988)::(nat_lit 989,o989)::(nat_lit 1002,o1002)::(nat_lit 1003,o1003)::(nat_lit 1009,o1009)::(nat_lit 1010,o1010)::(nat_lit 1016,o1016)::(nat_lit 1017,o1017)::(nat_lit 1023,o1023)::(nat_lit 1024,o1024)::(nat_lit 1044,o1044)::(nat_lit 1045,o1045)::(nat_lit 1068,o1068 P)::(nat_lit 1069,o1069)::(nat_lit 1079,o1079)::(nat_lit 1080,o1080)::(nat_lit 1086,o1086)::(nat_lit 1087,o1087)::(nat_lit 1093,o1093)::(nat_lit 1094,o1094)::(nat_lit 1100,o1100)::(nat_lit 1101,o1101)::(nat_lit 1105,o1105)::(nat_lit 1106,o1106)::(nat_lit 1110,o1110)::(nat_lit 1111,o1111)::(nat_lit 1115,o1115)::(nat_lit 1116,o1116)::(nat_lit 1120,o1120)::(nat_lit 1121,o1121)::[]
noncomputable def KA (P:Params):Frag:=(nat_lit 965,o965)::K P
noncomputable def as:List Addr:=965::2::3::4::30::31::43::44::55::56::67::68::79::80::91::92::98::99::105::106::110::111::117::118::124::125::131::132::138::139::145::146::159::160::166::167::173::174::180::181::183::184::194::195::201::202::208::209::215::216::222::223::227::228::234::235::248::249::255::256::262::263::269::270::276::277::283::284::290::291::297::298::300::301::318::319::325::326::332::333::339::340::346::347::349::350::367::368::374::375::381::382::388::389::395::396::402::403::405::406::423::424::426::427::442::443::445::446::454::455::461::462::468::469::475::476::482::483::496::497::510::511::517::518::520::521::538::539::552::553::559::560::562::563::580::581::594::595::601::602::604::605::622::623::636::637::643::644::646::647::664::665::678::679::685::686::688::689::706::707::720::721::727::728::730::731::748::749::762::763::769::770::772::773::797::798::804::805::807::808::813::819::820::826::827::831::832::845::846::852::853::859::860::866::867::887::888::901::902::908::909::915::916::922::923::929::930::936::937::939::940::955::956::962::963::969::970::981::982::988::989::1002::1003::1009::1010::1016::1017::1023::1024::1044::1045::1068::1069::1079::1080::1086::1087::1093::1094::1100::1101::1105::1106::1110::1111::1115::1116::1120::1121::[]
noncomputable def g0 (P:Params):List (Nat×Obj):=(2,o2)::(3,o3 P)::(4,o4)::(30,o30 P)::(31,o31)::(43,o43 P)::(44,o44)::[]
noncomputable def g1 (P:Params):List (Nat×Obj):=(55,o55 P)::(56,o56)::(67,o67 P)::(68,o68)::(79,o79 P)::(80,o80)::(91,o91 P)::(92,o92)::[]
noncomputable def g2 (P:Params):List (Nat×Obj):=(98,o98)::(99,o99)::(105,o105)::(106,o106)::(110,o110)::(111,o111)::(117,o117)::(118,o118)::[]
noncomputable def g3 (P:Params):List (Nat×Obj):=(124,o124)::(125,o125)::(131,o131)::(132,o132)::(138,o138)::(139,o139)::[]
noncomputable def g4 (P:Params):List (Nat×Obj):=(145,o145)::(146,o146)::(159,o159)::(160,o160)::(166,o166)::(167,o167)::[]
noncomputable def g5 (P:Params):List (Nat×Obj):=(173,o173)::(174,o174)::(180,o180)::(181,o181)::(183,o183 P)::(184,o184)::[]
noncomputable def g6 (P:Params):List (Nat×Obj):=(194,o194)::(195,o195)::(201,o201)::(202,o202)::(208,o208)::(209,o209)::(215,o215)::[]
noncomputable def g7 (P:Params):List (Nat×Obj):=(216,o216)::(222,o222)::(223,o223)::(227,o227)::(228,o228)::(234,o234)::(235,o235)::[]
noncomputable def g8 (P:Params):List (Nat×Obj):=(248,o248)::(249,o249)::(255,o255)::(256,o256)::(262,o262)::(263,o263)::[]
noncomputable def g9 (P:Params):List (Nat×Obj):=(269,o269)::(270,o270)::(276,o276)::(277,o277)::(283,o283)::(284,o284)::(290,o290)::[]
noncomputable def g10 (P:Params):List (Nat×Obj):=(291,o291)::(297,o297)::(298,o298)::(300,o300 P)::(301,o301)::(318,o318)::(319,o319)::[]
noncomputable def g11 (P:Params):List (Nat×Obj):=(325,o325)::(326,o326)::(332,o332)::(333,o333)::(339,o339)::(340,o340)::[]
noncomputable def g12 (P:Params):List (Nat×Obj):=(346,o346)::(347,o347)::(349,o349 P)::(350,o350)::(367,o367)::(368,o368)::[]
noncomputable def g13 (P:Params):List (Nat×Obj):=(374,o374)::(375,o375)::(381,o381)::(382,o382)::(388,o388)::(389,o389)::[]
noncomputable def g14 (P:Params):List (Nat×Obj):=(395,o395)::(396,o396)::(402,o402)::(403,o403)::(405,o405 P)::(406,o406)::[]
noncomputable def g15 (P:Params):List (Nat×Obj):=(423,o423)::(424,o424)::(426,o426 P)::(427,o427)::(442,o442)::(443,o443)::(445,o445 P)::(446,o446)::[]
noncomputable def g16 (P:Params):List (Nat×Obj):=(454,o454)::(455,o455)::(461,o461)::(462,o462)::(468,o468)::(469,o469)::[]
noncomputable def g17 (P:Params):List (Nat×Obj):=(475,o475)::(476,o476)::(482,o482)::(483,o483)::(496,o496)::(497,o497)::[]
noncomputable def g18 (P:Params):List (Nat×Obj):=(510,o510)::(511,o511)::(517,o517)::(518,o518)::(520,o520 P)::(521,o521)::[]
noncomputable def g19 (P:Params):List (Nat×Obj):=(538,o538)::(539,o539)::(552,o552)::(553,o553)::[]
noncomputable def g20 (P:Params):List (Nat×Obj):=(559,o559)::(560,o560)::(562,o562 P)::(563,o563)::(580,o580)::(581,o581)::[]
noncomputable def g21 (P:Params):List (Nat×Obj):=(594,o594)::(595,o595)::(601,o601)::(602,o602)::(604,o604 P)::(605,o605)::[]
noncomputable def g22 (P:Params):List (Nat×Obj):=(622,o622)::(623,o623)::(636,o636)::[]
noncomputable def g23 (P:Params):List (Nat×Obj):=(637,o637)::(643,o643)::(644,o644)::(646,o646 P)::(647,o647)::(664,o664)::(665,o665)::[]
noncomputable def g24 (P:Params):List (Nat×Obj):=(678,o678)::(679,o679)::(685,o685)::(686,o686)::[]
noncomputable def g25 (P:Params):List (Nat×Obj):=(688,o688 P)::(689,o689)::(706,o706)::(707,o707)::[]
noncomputable def g26 (P:Params):List (Nat×Obj):=(720,o720)::(721,o721)::(727,o727)::(728,o728)::(730,o730 P)::(731,o731)::[]
noncomputable def g27 (P:Params):List (Nat×Obj):=(748,o748)::(749,o749)::(762,o762)::(763,o763)::(769,o769)::[]
noncomputable def g28 (P:Params):List (Nat×Obj):=(770,o770)::(772,o772 P)::(773,o773)::(797,o797)::(798,o798)::[]
noncomputable def g29 (P:Params):List (Nat×Obj):=(804,o804)::(805,o805)::(807,o807 P)::(808,o808)::(813,o813)::(819,o819)::(820,o820)::[]
noncomputable def g30 (P:Params):List (Nat×Obj):=(826,o826)::(827,o827)::(831,o831)::(832,o832)::(845,o845)::(846,o846)::[]
noncomputable def g31 (P:Params):List (Nat×Obj):=(852,o852)::(853,o853)::(859,o859)::(860,o860)::(866,o866)::(867,o867)::[]
noncomputable def g32 (P:Params):List (Nat×Obj):=(887,o887)::(888,o888)::[]
noncomputable def g33 (P:Params):List (Nat×Obj):=(901,o901)::(902,o902)::(908,o908)::(909,o909)::(915,o915)::(916,o916)::[]
noncomputable def g34 (P:Params):List (Nat×Obj):=(922,o922)::(923,o923)::(929,o929)::(930,o930)::(936,o936)::(937,o937)::(939,o939 P)::[]
noncomputable def g35 (P:Params):List (Nat×Obj):=(940,o940)::(955,o955)::(956,o956)::(962,o962)::(963,o963)::(969,o969)::(970,o970)::[]
noncomputable def g36 (P:Params):List (Nat×Obj):=(981,o981)::(982,o982)::(988,o988)::(989,o989)::[]
noncomputable def g37 (P:Params):List (Nat×Obj):=(1002,o1002)::(1003,o1003)::(1009,o1009)::(1010,o1010)::(1016,o1016)::[]
noncomputable def g38 (P:Params):List (Nat×Obj):=(1017,o1017)::(1023,o1023)::(1024,o1024)::[]
noncomputable def g39 (P:Params):List (Nat×Obj):=(1044,o1044)::(1045,o1045)::[]
noncomputable def g40 (P:Params):List (Nat×Obj):=(1068,o1068 P)::(1069,o1069)::(1079,o1079)::(1080,o1080)::[]
noncomputable def g41 (P:Params):List (Nat×Obj):=(1086,o1086)::(1087,o1087)::(1093,o1093)::(1094,o1094)::(1100,o1100)::(1101,o1101)::(1105,o1105)::(1106,o1106)::[]
noncomputable def g42 (P:Params):List (Nat×Obj):=(1110,o1110)::(1111,o1111)::(1115,o1115)::(1116,o1116)::(1120,o1120)::(1121,o1121)::[]
noncomputable def L (P:Params):List (Nat×Obj):=(965,o965)::g0 P++(g1 P++(g2 P++(g3 P++(g4 P++(g5 P++(g6 P++(g7 P++(g8 P++(g9 P++(g10 P++(g11 P++(g12 P++(g13 P++(g14 P++(g15 P++(g16 P++(g17 P++(g18 P++(g19 P++(g20 P++(g21 P++(g22 P++(g23 P++(g24 P++(g25 P++(g26 P++(g27 P++(g28 P++(g29 P++(g30 P++(g31 P++(g32 P++(g33 P++(g34 P++(g35 P++(g36 P++(g37 P++(g38 P++(g39 P++(g40 P++(g41 P++(g42 P))))))))))))))))))))))))))))))))))))))))))
theorem K_L (P:Params):KA P=L P:=by kernel_rfl
theorem K_as (P:Params):as=(KA P).map (·.1):=by kernel_rfl
def qv:Program:=view p [90]
def loose:List Str:="_wall"::"RailError"::"NoBits"::"NoName"::"NoKey"::"NoFrame"::"NoPost"::"HIGHEST_BYTE"::"bits_of"::"number_of"::"are_bytes"::"divided"::"KEY"::"CHECK_BITS"::"rest_of"::"check_of"::"NAME_BITS"::"HIGHEST_NAME"::"is_name"::"is_wanted"::"MOST_ALIKE"::"Streak"::"put_in"::"SIZE_AT"::"SIZE_BITS"::"DATA_AT"::"BYTE_BITS"::"MOST_BYTES"::"check_frame"::"frame_bits"::"is_complete"::"told_size"::"read_frame"::"wire_of"::"GREAT_FAULT"::"SMALL_FAULT"::"QUIET_FROM"::"OFF_FROM"::"Count"::"Reader"::"ANSWER_AT"::"VOTES_AT"::"Tail"::"ReadTail"::"SpeakTail"::"FLAG_BITS"::"REST_TURNS"::"QUIET_TURNS"::"DUEL_BITS"::"begun_reader"::"unless_off"::"fault_of"::"refusal_of"::"blame_of"::"Free"::"Speaks"::"Reads"::"InTail"::"Flagging"::"Settles"::"Rests"::"Off"::"VOTES"::"check_votes"::"check_choice"::"copies"::"Post"::"MOST_POSTS"::"Rail"::"_law_draw"::"_law_wire"::"_law_frames"::"_law_choice"::"_law_heard_whole"::"_law_some"::"_law_borne"::[]
abbrev N:Nat:=8440
theorem b2L:∀w:World,(fencedOpening treeTable p w N).map (fun s=>(s.heap,s.gens,s.drawn,s.toks))=some (boot_heap w.params,Array.mk [],boot_drawn,boot_toks):=boot_open (by kernel_rfl) (by decide) (fun s=>by kernel_rfl)
def ann:Option Value:=some (.ref 6)
def whole (w:World)(os:OsState):=(segRunT treeTable p w 11 ann 0 N (S w os) (topStub p)).map fun r=>look p qv loose (xlAt qv []) as (boot_heap w.params) r.2.1
def good (w:World)(_:OsState):=some (true,openGood qv loose,((L w.params).map fun p=>p.2).map some)
def sz (w : World) := ((boot_heap w.params).isNs mainGlobals, (boot_heap w.params).objs.size, (boot_heap w.params).nsMap mainGlobals "__annotations__")
def sg (_:World):=(true,11,ann)
theorem a7D:whole=whole:=rfl
theorem b3O:good=good:=rfl
theorem b7V:sz=sz:=rfl
noncomputable def _root_.PySem.W.Fast.tw10578030669018157735:Program:=PySem.Challenge.pw_bitrail_k95_whole_taken_is_heard
theorem _root_.PySem.W.Fast.te10578030669018157735:PySem.Challenge.pw_bitrail_k95_whole_taken_is_heard=PySem.W.Fast.tw10578030669018157735:=rfl
noncomputable def _root_.PySem.W.Fast.tw9891509732614156967:Params->Obj:=Hd.o3
theorem _root_.PySem.W.Fast.te9891509732614156967:Hd.o3=PySem.W.Fast.tw9891509732614156967:=rfl
noncomputable def _root_.PySem.W.Fast.tw7625976266985363445:List Str:=Hd.loose
theorem _root_.PySem.W.Fast.te7625976266985363445:Hd.loose=PySem.W.Fast.tw7625976266985363445:=rfl
name_quick wq for whole by a7D
name_quick gq for good by b3O
name_quick zq for sz by b7V
theorem z_g (w:World):PySem.W.Fast.zq w=sg w:=by kernel_rfl
theorem w_g (w:World):PySem.W.Fast.wq w=PySem.W.Fast.gq w:=by kernel_rfl
theorem b6D:LeftO p qv loose (xlAt qv []) (fun s=>as.map s.heap.get?) (fun w=>((L w.params).map fun p=>p.2).map some) N:=xN S b2L (fun w=>(congrFun PySem.W.Fast.zq_eq w).trans (z_g w)) b6V fun w=>((congrFun PySem.W.Fast.wq_eq w).trans (w_g w)).trans (congrFun PySem.W.Fast.gq_eq w).symm
theorem left:LeftO p qv loose (xlAt qv []) (fun s=>as.map s.heap.get?) (fun w=>(KA w.params).map fun p=>some p.2) N:=fun w=>(b6D w).trans (by show some (_,((L w.params).map _).map _)=some (_,(KA w.params).map _);rw[K_L,List.map_map];rfl)
def tc:List (Addr×Addr):=[(969,965)]
theorem tabs (w:World)(h:Heap)(Y:InK KA w h):(K w.params).In h/\∀q∈tc,(K w.params).lookup q.2=none/\h.get? q.2=some (tabObj #[])/\codeHdIn (K w.params) q.1 q.2=true:=by
 have n965:(K w.params).lookup 965=none:=by kernel_rfl
 have t965:h.get? 965=some (tabObj #[]):=Y 965 _ (by kernel_rfl)
 have c965:codeHdIn (K w.params) 969 965=true:=by kernel_rfl
 refine⟨fun a o e=>Y a o ?_,fun q hq=>?_⟩
 ·show List.lookup a (((965:Nat),o965)::K w.params)=some o
  rw[Xp]
  have e965:(a == 965)=false:=Xm.mpr fun z=>by rw[z,n965]at e;cases e
  rw[e965]
  exact e
 ·have hq:q∈([(969,965)]:List (Addr×Addr)):=hq
  simp only[YE,XH,or_false]at hq
  subst hq
  exact⟨n965,t965,c965⟩
def dl:DefRec:=dr (sf p 90)
def da:=(defOf qv "law",p.theDef "law")
def db:=(some (dl,([]:List (Str×PySem.Expr))),some (dl.params,dl.body,dl.scope))
theorem b8S:da=da:=rfl
theorem b8R:db=db:=rfl
name_quick daq for da by b8S
name_quick dbq for db by b8R
theorem d_q:PySem.W.Fast.daq=PySem.W.Fast.dbq:=by kernel_rfl
theorem d_e:da=db:=PySem.W.Fast.daq_eq.trans (d_q.trans PySem.W.Fast.dbq_eq.symm)
theorem dl_1:defOf qv "law"=some (dl, []):=YT Prod.fst d_e
theorem dl_2:p.theDef "law"=some (dl.params,dl.body,dl.scope):=YT Prod.snd d_e
end
end Hd
set_option Elab.async false
set_option linter.all false
set_option maxRecDepth 100000
namespace L2
open PySem PySem.Spec PyProof.Rows
abbrev Key:=Sum Int Str
def rZ:Key->Value->Bool
 |.inl k,v=>Value.isInt k v
 |.inr x,v=>Value.isStrOf x v
def b8L (w:World):Key->Int
 |.inl k=>hashInt k
 |.inr x=>hashStr w x
theorem dD:∀{k:Key}{v:Value},rZ k v=true->(∃i t,k=Sum.inl i/\v=Value.int i t)\/(∃x t,k=Sum.inr x/\v=Value.str x t)
 | .inl i,v,h=>by
  obtain⟨t,e⟩:=Value.isInt_shape (k:=i) (v:=v) h
  exact .inl ⟨i,t,rfl,e⟩
 | .inr x,v,h=>by
  obtain⟨t,e⟩:=Value.isStrOf_shape (x:=x) (v:=v) h
  exact .inr ⟨x,t,rfl,e⟩
theorem a1X (i:Int)(t:Tok):rZ (.inl i) (.int i t)=true:=by simp[rZ,Value.isInt]
theorem a1W (x:Str)(t:Tok):rZ (.inr x) (.str x t)=true:=by simp[rZ,Value.isStrOf]
theorem b3I (a b:Int):decide ((Sum.inl a:Key)=Sum.inl b)=(a == b):=by
 by_cases e:a=b
 ·subst e;simp
 ·have h:¬ (Sum.inl a:Key)=Sum.inl b:=fun q=>e (Sum.inl.inj q)
  rw[Yu h]
  exact(Xm.mpr e).symm
theorem b3F (a b:Str):decide ((Sum.inr a:Key)=Sum.inr b)=decide (a=b):=by
 by_cases e:a=b
 ·subst e;simp
 ·have h:¬ (Sum.inr a:Key)=Sum.inr b:=fun q=>e (Sum.inr.inj q)
  rw[Yu h,Yu e]
theorem b3H (a:Int)(b:Str):decide ((Sum.inl a:Key)=Sum.inr b)=false:=Yu (fun q=>nomatch q)
theorem b3G (a:Str)(b:Int):decide ((Sum.inr a:Key)=Sum.inl b)=false:=Yu (fun q=>nomatch q)
def dR (prog:Program)(w:World):PySem.KeyKind prog w Key where
 is:=rZ
 hash:=b8L w
 inj :=fun v a b ha hb=>by
  rcases dD ha with ⟨i,t,rfl,rfl⟩ | ⟨x,t,rfl,rfl⟩
  ·rcases dD hb with ⟨j,u,rfl,e⟩ | ⟨y,u,rfl,e⟩
   ·injection e with e1 _;rw[e1]
   ·exact nomatch e
  ·rcases dD hb with ⟨j,u,rfl,e⟩ | ⟨y,u,rfl,e⟩
   ·exact nomatch e
   ·injection e with e1 _;rw[e1]
 byValue:=fun k v h=>by
  rcases dD h with ⟨i,t,rfl,rfl⟩ | ⟨x,t,rfl,rfl⟩ <;> rfl
 pyHash:=fun hv h=>by
  rcases dD hv with ⟨i,t,rfl,rfl⟩ | ⟨x,t,rfl,rfl⟩
  ·exact wpAny_pyHash_int h
  ·exact wpAny_pyHash_str h
 eqBool:=fun hu hv h=>by
  rcases dD hu with ⟨i,t,rfl,rfl⟩ | ⟨x,t,rfl,rfl⟩
  ·rcases dD hv with ⟨j,u,rfl,rfl⟩ | ⟨y,u,rfl,rfl⟩
   ·rw[b3I]at h;exact wpAny_eqBool_int h
   ·rw[b3H]at h;exact SeqAt.EqAt.int_str i t y u _ _ _ _ h
  ·rcases dD hv with ⟨j,u,rfl,rfl⟩ | ⟨y,u,rfl,rfl⟩
   ·rw[b3G]at h;exact SeqAt.EqAt.str_int x t j u _ _ _ _ h
   ·rw[b3F]at h;exact wpAny_eqBool_str h
 «strs»:=fun k x t v h=>by
  rcases dD h with ⟨i,u,rfl,e⟩ | ⟨y,u,rfl,e⟩
  ·exact nomatch e
  ·injection e with e1 _
   subst e1
   cases v <;> rfl
theorem vJ (prog:Program)(w:World)(i:Int)(t:Tok):(dR prog w).is (.inl i) (.int i t)=true:=a1X i t
theorem vH (prog:Program)(w:World)(x:Str)(t:Tok):(dR prog w).is (.inr x) (.str x t)=true:=a1W x t
end L2
namespace L2
open PySem PySem.Spec PyProof.Rows
inductive V where
 |non | bl (b:Bool) | int (i:Int) | str (x:Str) | byt (b:Array UInt8) | flt (b:UInt64) | ref (a:Addr) | ty (n:String)
 deriving DecidableEq
def RelV:V->Value->Prop
 |.non,u=>u=Value.none
 |.bl b,u=>u=Value.bool b
 |.int i,u=>∃t,u=Value.int i t
 |.str x,u=>∃t,u=Value.str x t
 |.byt b,u=>∃t,u=Value.bytes b t
 |.flt b,u=>∃t,u=Value.float b t
 |.ref a,u=>u=Value.ref a
 |.ty n,u=>u=Value.type n
abbrev Vals:List V->List Value->Prop:=Paired RelV
theorem Vals.length {xs:List V}{us:List Value}(r:Vals xs us):xs.length=us.length:=Paired.length r
theorem Vals.get:∀{xs:List V}{us:List Value}{i:Nat}{x:V},Vals xs us->xs[i]? =some x->∃u,us[i]? =some u/\RelV x u
 |_,_,_,_,.nil,e=>by simp at e
 |_,_,0,_,.cons r _,e=>by simp at e;subst e;exact⟨_,rfl,r⟩
 | _,_,i+1,x,.cons _ t,e=>by
  obtain⟨u,h1,h2⟩:=Vals.get (i:=i) (x:=x) t (by simpa using e)
  exact⟨u,by simpa using h1,h2⟩
theorem Vals.set {x:V}{u:Value}(r:RelV x u):∀{xs:List V}{us:List Value}(i:Nat),Vals xs us->Vals (xs.set i x) (us.set i u)
 |_,_,_,.nil=> .nil
 |_,_,0,.cons _ t=> .cons r t
 |_,_,i+1,.cons q t=> .cons q (Vals.set r i t)
theorem Vals.append:∀{xs ys:List V}{us ws:List Value},Vals xs us->Vals ys ws->Vals (xs++ys) (us++ws)
 |_,_,_,_,.nil,s=>s
 |_,_,_,_,.cons r t,s=> .cons r (Vals.append t s)
theorem Vals.take:∀{xs:List V}{us:List Value}(n:Nat),Vals xs us->Vals (xs.take n) (us.take n)
 |_,_,0,_=> .nil
 |_,_,_+1,.nil=> .nil
 |_,_,n+1,.cons r t=> .cons r (Vals.take n t)
theorem Vals.drop:∀{xs:List V}{us:List Value}(n:Nat),Vals xs us->Vals (xs.drop n) (us.drop n)
 |_,_,0,r=>r
 |_,_,_+1,.nil=> .nil
 |_,_,n+1,.cons _ t=>Vals.drop n t
def lH:Option V->Option Value->Prop
 |some v,some u=>RelV v u
 |none,none=>True
 |_,_=>False
def KV {κ:Type}:List (κ×V)->List (κ×Value)->Prop:=Paired fun (p:κ×V) (q:κ×Value)=>p.1=q.1/\RelV p.2 q.2
def kV:Key->V
 |.inl i=> .int i
 |.inr x=> .str x
inductive HO where
  |lst (xs:List V)
  |tup (xs:List V)
  |dK (kvs:List (Key×V)) | dT (kvs:List (List Key×V))
  |set (S:Int->Bool) (n:Nat)
  |ins (C dx:Addr) (fs:List (Str×V))
  |own (x:Addr)
  |xd (fs:List (Str×V))
  |met (f x:Addr)
  |rng (lo hi:Int)
  |frz (o:Obj) (u:HO)
  |tbl (ps:Array Value)
  |ext (φ:Heap->Prop)
abbrev Hp:=Addr->Option HO
def upd (H:Hp)(a:Addr)(o:HO):Hp:=fun b=>if b=a then some o else H b
theorem aB {H:Hp}{a:Addr}{o:HO}:upd H a o a=some o:=by unfold upd;rw[if_pos rfl]
theorem aK {H:Hp}{a b:Addr}{o:HO}(h:b≠a):upd H a o b=H b:=by unfold upd;rw[if_neg h]
theorem b5U {H:Hp}{a b:Addr}{o u:HO}(h:H a=some o)(h':H b=some u)(d:o≠u):a≠b:=by
 intro e;subst e;rw[h]at h';exact d (Yq h')
theorem aQ {H:Hp}{a b:Addr}{o:HO}(h:H a=some o)(h':H b=none):a≠b:=by
 intro e;subst e;rw[h]at h';cases h'
section
variable (P:Program)(w:World)
def dG (H:Hp)(h:Heap)(a:Addr):HO->Prop
  |.lst xs=>xs.length<=sizeLine/\∃(its:List Value)(n:Nat),Vals xs its/\h.get? a=some { cls:= .type "list",data:= .seq its.toArray n }
  |.tup xs=>xs.length<=sizeLine/\∃its:List Value,Vals xs its/\IsTup h a its.toArray
  |.dK kvs=>kvs.length<=sizeLine/\(a == sysModules)=false/\∃vs,KV kvs vs/\h.DictOf (dR P w) a vs
  | .dT kvs=>kvs.length<=sizeLine/\(a == sysModules)=false/\∃xs:List (List Key×Addr×Value),
      Paired (fun (p:List Key×V) (q:List Key×Addr×Value)=>p.1=q.1/\H q.2.1=some (.tup (p.1.map kV))/\RelV p.2 q.2.2) kvs xs/\
      ∃o es ep,h.get? a=some o/\o.ExactDict/\o.data= .dict es ep/\es.toList=xs.map (entryOfKey (tupleKind (dR P w)))/\(xs.map (·.1)).Nodup
  |.set S n=>h.SetOf (intKind P w) a S n
  | .ins C dx fs=>H dx=some (.own a)/\fs.length<=1000/\dx≠a/\h.get? a=some (W.instObj C dx)/\
      ∃mA,h.Ns1 dx mA/\(∀f,lH (fs.lookup f) (mA f))/\PySem.Within mA (fs.map (·.1))
  |.own _=>∃o,h.get? a=some o
  |.xd fs=>∃mA,h.Ns1 a mA/\∀f,lH (fs.lookup f) (mA f)
  |.rng lo hi=>∃t u v,h.get? a=some { cls:= .type "range",data:= .fields #[.int lo t,.int hi u,.int 1 v] }
  |.frz o u=>h.get? a=some o/\dG H h a u
  |.tbl ps=>h.get? a=some { cls:= .none,data:= .fields ps }
  |.met f x=>h.get? a=some (W.methodObj (.ref f) (.ref x))
  |.ext φ=>φ h/\(∃o,h.get? a=some o)/\∀h1 h2:Heap,φ h1->(∀o,h1.get? a=some o->h2.get? a=some o)->φ h2
def HOk (H:Hp)(h:Heap):Prop:=∀a o,H a=some o->dG P w H h a o
end
section
variable {P:Program}{w:World}{H H':Hp}{h h':Heap}{a:Addr}{o:HO}
theorem dG.lt (x:dG P w H h a o):a<h.objs.size:=by
 cases o with
 |lst xs=>obtain⟨_,_,_,_,e⟩:=x;exact Yr e
 |tup xs=>obtain⟨_,_,_,p⟩:=x;exact p.lt
 |dK kvs=>obtain⟨_,_,_,_,o,_,_,e,_⟩:=x;exact Yr e
 |dT kvs=>obtain⟨_,_,_,_,o,_,_,e,_⟩:=x;exact Yr e
 |set S n=>obtain⟨o,_,_,_,e,_⟩:=x;exact Yr e
 |ins C dx fs=>obtain⟨_,_,_,e,_⟩:=x;exact Yr e
 |own y=>obtain⟨_,e⟩:=x;exact Yr e
 |xd fs=>obtain⟨_,⟨_,_,_,e,_⟩,_⟩:=x;exact Yr e
 |rng lo hi=>obtain⟨_,_,_,e⟩:=x;exact Yr e
 |frz ob u=>obtain⟨e,_⟩:=x;exact Yr e
 |tbl ps=>exact Yr (show h.get? a=some _ from x)
 |met f y=>exact Yr (show h.get? a=some _ from x)
 |ext φ=>obtain⟨_,⟨_,e⟩,_⟩:=x;exact Yr e
theorem Paired.mapP {α β:Type}{F G:α->β->Prop}:∀{l₁:List α}{l₂:List β},Paired F l₁ l₂->(∀a b,F a b->G a b)->Paired G l₁ l₂
 |_,_,.nil,_=> .nil
 |_,_,.cons r t,f=> .cons (f _ _ r) (Paired.mapP t f)
theorem dG.stay (x:dG P w H h a o)(k:∀b u,(b=a\/H b=some (.own a))->h.get? b=some u->h'.get? b=some u)
  (ho:∀b,H b=some (.own a)->H' b=some (.own a)) (ht:∀b xs,H b=some (.tup xs)->H' b=some (.tup xs)):dG P w H' h' a o:=by
 induction o with
 |lst xs=>obtain⟨z,its,n,r,e⟩:=x;exact⟨z,its,n,r,k _ _ (.inl rfl) e⟩
 |tup xs=>obtain⟨z,its,r,ob,e,c⟩:=x;exact⟨z,its,r,ob,k _ _ (.inl rfl) e,c⟩
 |dK kvs=>obtain⟨z,y,vs,r,ob,es,ep,e,c⟩:=x;exact⟨z,y,vs,r,ob,es,ep,k _ _ (.inl rfl) e,c⟩
 | dT kvs=>
  obtain⟨z,y,xs,r,ob,es,ep,e,c⟩:=x
  exact⟨z,y,xs,Paired.mapP r fun p q z=>⟨z.1,ht _ _ z.2.1,z.2.2⟩,ob,es,ep,k _ _ (.inl rfl) e,c⟩
 |set S n=>obtain⟨ob,es,ep,t,e,c⟩:=x;exact⟨ob,es,ep,t,k _ _ (.inl rfl) e,c⟩
 | ins C dx fs=>
  obtain⟨d,z,ne,e,mA,⟨od,es,ep,e2,c⟩,r⟩:=x
  exact⟨ho _ d,z,ne,k _ _ (.inl rfl) e,mA,⟨od,es,ep,k _ _ (.inr d) e2,c⟩,r⟩
 |own y=>obtain⟨ob,e⟩:=x;exact⟨ob,k _ _ (.inl rfl) e⟩
 |xd fs=>obtain⟨mA,⟨od,es,ep,e,c⟩,r⟩:=x;exact⟨mA,⟨od,es,ep,k _ _ (.inl rfl) e,c⟩,r⟩
 |rng lo hi=>obtain⟨t,u,v,e⟩:=x;exact⟨t,u,v,k _ _ (.inl rfl) e⟩
 |frz ob u ih=>obtain⟨e,q⟩:=x;exact⟨k _ _ (.inl rfl) e,ih q⟩
 | tbl ps=>
  have e:h.get? a=some { cls:= .none,data:= .fields ps }:=x
  show h'.get? a=some { cls:= .none,data:= .fields ps }
  exact k a _ (.inl rfl) e
 | met f y=>
  have e:h.get? a=some (W.methodObj (.ref f) (.ref y)):=x
  show h'.get? a=some (W.methodObj (.ref f) (.ref y))
  exact k a _ (.inl rfl) e
 |ext φ=>obtain⟨p,⟨o,e⟩,st⟩:=x;exact⟨st _ _ p fun o q=>k _ _ (.inl rfl) q,⟨o,k _ _ (.inl rfl) e⟩,st⟩
theorem HOk.lt (x:HOk P w H h)(e:H a=some o):a<h.objs.size:=(x a o e).lt
theorem HOk.fresh (x:HOk P w H h)(e:h.objs.size<=a):H a=none:=by
 cases q:H a with
 |none=>rfl
 |some u=>exact absurd (Yf (x.lt q) e) (Y2 _)
theorem HOk.kept (x:HOk P w H h)(k:∀b u,h.get? b=some u->h'.get? b=some u):HOk P w H h':=fun a o e=>
 (x a o e).stay (fun b u _ q=>k b u q) (fun _ q=>q) fun _ _ q=>q
theorem HOk.laid (x:HOk P w H h)(k:∀b u,h.get? b=some u->h'.get? b=some u)(hp:h.objs.size<=a)(new:dG P w (upd H a o) h' a o):HOk P w (upd H a o) h':=fun b u e=>by
 have hn:=x.fresh hp
 by_cases hb:b=a
 ·subst hb;rw[aB]at e;cases e;exact new
 ·rw[aK hb]at e
  exact(x b u e).stay (fun c v _ q=>k c v q) (fun c q=>by rw[aK (aQ q hn)];exact q) fun c xs q=>by rw[aK (aQ q hn)];exact q
end
def Rd (H:Hp)(a:Addr)(u:HO):Prop:=H a=some u\/∃o,H a=some (.frz o u)
theorem Rd.ok {P:Program}{w:World}{H:Hp}{h:Heap}{a:Addr}{u:HO}(r:Rd H a u)(x:HOk P w H h):dG P w H h a u:=by
 rcases r with r | ⟨o,r⟩
 ·exact x a u r
 ·obtain⟨_,q⟩:=x a _ r
  exact q
def Mut:Option HO->Prop
 |some (.lst _)=>True
 |some (.dK _)=>True
 |some (.dT _)=>True
 |some (.set _ _)=>True
 |some (.ins _ _ _)=>True
 |some (.ext _)=>True
 |_=>False
section
variable {P:Program}{w:World}{H:Hp}{h h':Heap}{x e:Addr}{o':HO}
theorem HOk.write (ok:HOk P w H h)(mu:Mut (H x))(he:e=x\/H e=some (.own x))(k:∀b u,b≠e->h.get? b=some u->h'.get? b=some u)(heo:∃u,h'.get? e=some u)
  (new:dG P w (upd H x o') h' x o'):HOk P w (upd H x o') h':=fun b u q=>by
 have nown:∀c y,H c=some (.own y)->c≠x:=fun c y r z=>by subst z;rw[r]at mu;exact mu
 have ntup:∀c xs,H c=some (.tup xs)->c≠x:=fun c xs r z=>by subst z;rw[r]at mu;exact mu
 by_cases hb:b=x
 ·subst hb;rw[aB]at q;cases q;exact new
 ·rw [aK hb]at q
  by_cases hbe:b=e
  ·have q':H b=some (.own x):=by
    rcases he with z | z
    ·exact absurd (hbe.trans z) hb
    ·rw[hbe];exact z
   rw[q]at q';cases q'
   obtain⟨v,hv⟩:=heo
   exact⟨v,by rw[hbe];exact hv⟩
  ·refine(ok b u q).stay (fun c v hc r=>k c v ?_ r) (fun c r=>by rw[aK (nown c b r)];exact r) fun c xs r=>by rw[aK (ntup c xs r)];exact r
   rcases hc with rfl | hc
   ·exact hbe
   ·rintro rfl
    rcases he with z | z
    ·exact nown c b hc z
    ·rw[hc]at z;cases z;exact hb rfl
end
structure Un (fs ex:List Addr)(H H':Hp)(h h':Heap):Prop where
 keep:∀b o,h.get? b=some o->H b=none->b∉fs->b∉ex->h'.get? b=some o
 slot:∀b o,h.get? b=some o->H b=none->b∈fs->b∉ex->∃sl,h'.get? b=some { o with slots:=sl }
 free:∀b o,h.get? b=some o->H b=none->b∉ex->H' b=none
 there:∀b o,h.get? b=some o->b∉ex->∃o',h'.get? b=some o'
 tups:∀b xs,H b=some (.tup xs)->H' b=some (.tup xs)
 frzs:∀b o u,H b=some (.frz o u)->H' b=some (.frz o u)
 tbls:∀b ps,H b=some (.tbl ps)->∃more,H' b=some (.tbl (ps++more))
section
variable {fs fs' ex ex':List Addr}{H H1 H2:Hp}{h h1 h2 h':Heap}{a x e:Addr}{o:HO}
theorem Un.any (u:Un fs ex H H1 h h1){b:Addr}{ob:Obj}(q:h.get? b=some ob)(n:H b=none)(hx:b∉ex):∃sl,h1.get? b=some { ob with slots:=sl }:=by
 by_cases hb:b∈fs
 ·exact u.slot b ob q n hb hx
 ·exact⟨ob.slots,u.keep b ob q n hb hx⟩
theorem Un.kept (k:∀b u,h.get? b=some u->h'.get? b=some u):Un fs ex H H h h':=
 ⟨fun b ob q _ _ _=>k b ob q,fun b ob q _ _ _=>⟨ob.slots,k b ob q⟩,fun _ _ _ n _=>n,fun b ob q _=>⟨ob,k b ob q⟩,fun _ _ q=>q,fun _ _ _ q=>q,fun _ ps q=>⟨#[],by rw[q];simp⟩⟩
theorem Un.refl:Un fs ex H H h h:=Un.kept fun _ _ q=>q
theorem Un.laid (k:∀b u,h.get? b=some u->h'.get? b=some u)(hp:h.objs.size<=a)(hn:H a=none):Un fs ex H (upd H a o) h h' where
 keep:=fun b u q _ _ _=>k b u q
 slot:=fun b u q _ _ _=>⟨u.slots,k b u q⟩
 free:=fun b u q n _=>by rw[aK (YJ (Yf (Yr q) hp))];exact n
 there:=fun b u q _=>⟨u,k b u q⟩
 tups:=fun b xs q=>by rw[aK (aQ q hn)];exact q
 frzs:=fun b u xs q=>by rw[aK (aQ q hn)];exact q
 tbls:=fun b ps q=>⟨#[],by rw[aK (aQ q hn),q];simp⟩
theorem Un.write (mu:Mut (H x))(he:e=x\/H e=some (.own x))(k:∀b u,b≠e->h.get? b=some u->h'.get? b=some u)(heo:∃u,h'.get? e=some u):Un fs ex H (upd H x o) h h':=by
 have hx:∀b,H b=none->b≠x:=fun b n z=>by subst z;rw[n]at mu;exact mu
 have hb:∀b,H b=none->b≠e:=fun b n z=>by
  subst z
  rcases he with r | r
  ·exact hx b n r
  ·rw[n]at r;cases r
 have hm:∀b u,H b=some u->¬ Mut (some u)->b≠x:=fun b u q nm z=>by subst z;rw[q]at mu;exact nm mu
 refine⟨fun b u q n _ _=>k b u (hb b n) q,fun b u q n _ _=>⟨u.slots,k b u (hb b n) q⟩,fun b u q n _=>by rw[aK (hx b n)];exact n,fun b u q _=>?_,
  fun b xs q=>by rw[aK (hm b _ q fun z=>z)];exact q,fun b u xs q=>by rw[aK (hm b _ q fun z=>z)];exact q,fun b ps q=>⟨#[],by rw[aK (hm b _ q fun z=>z),q];simp⟩⟩
 by_cases hbe:b=e
 ·subst hbe;exact heo
 ·exact⟨u,k b u hbe q⟩
end
def trk (h:Heap)(H:Hp):List Addr:=(List.range h.objs.size).filter fun a=>(H a).isSome
def lZ (h:Heap)(H:Hp):Heap:=W.hideAll h (trk h H)
theorem sH (h:Heap)(H:Hp):(lZ h H).objs.size=h.objs.size:=W.hideAll_size _ _
theorem vU {h:Heap}{H:Hp}{b:Addr}{o:Obj}(e:h.get? b=some o)(n:H b=none):(lZ h H).get? b=some o:=
 W.hideAll_get _ e fun hm=>by
  have q:(H b).isSome=true:=(List.mem_filter.mp hm).2
  rw[n]at q;simp at q
theorem zG {h:Heap}{H:Hp}{b:Addr}{o:Obj}(e:(lZ h H).get? b=some o):h.get? b=some o/\H b=none:=by
 have e':h.get? b=some o:=W.of_hideAll (trk h H) e
 refine⟨e',?_⟩
 cases q:H b with
 |none=>rfl
 | some x=>
  have hm:b∈trk h H:=List.mem_filter.mpr ⟨List.mem_range.mpr (Yr e'),by simp[q]⟩
  have z:(lZ h H).get? b=none:=W.hideAll_none (trk h H) hm
  rw[z]at e;cases e
def a9U (g h:Heap)(L:Addr):List (Addr×Obj):=(List.range h.objs.size).filterMap fun a=>if a=L\/(g.get? a).isSome=true then none else (h.get? a).map fun o=>(a,o)
def rest (g h:Heap)(L d:Addr):List (Addr×Obj):=(a9U g h L).filter fun p=>decide (p.1≠d)
end L2
namespace L2
open PySem PySem.Spec PyProof.Rows
structure Mod (K:W.Frag)(mg:Str->Option Value)(base:Heap):Prop where
 kin:K.In base
 glob:base.Ns mainGlobals mg
 blt:∃mb,base.Ns builtinsNs mb/\∀x:Str,x≠"__name__"->mb x=bootBuiltins x
 nolimit:base.NoLimit
structure Cx where
 prog:Program
 w:World
 K:W.Frag
 mg:Str->Option Value
 base:Heap
 A:Around
 N:List Str
 s₀:Shared
 H₀:Hp
 env:Env
 outer:List Env
 stack:List Env
 ex:List Addr
 fn:Str->Bool
 calm:Bool
 pn:List (Addr×Obj)
 xe:Value->Shared->Prop
def frs (l:List Env):List Addr:=l.filterMap (·.frame)
abbrev Cx.fs (X:Cx):List Addr:=frs X.outer
def Vis (sc:Scope)(x:Str):Prop:=sc.names.lookup x=some .local\/sc.names.lookup x=some .cell\/sc.names.lookup x=some .free
def Loc (sc:Scope)(x:Str):Prop:=sc.names.lookup x=some .local\/sc.names.lookup x=some .cell
def Look (env:Env)(h:Heap)(m:Str->Option Value)(x:Str)(u:Value):Prop:=
 (env.kindOf x=some .local/\m x=some u)\/((env.kindOf x=some .cell\/env.kindOf x=some .free)/\∃c,env.cells.lookup x=some c/\h.IsCell c (some u))
structure Cx.Ok (X:Cx):Prop where
 mod:Mod X.K X.mg X.base
 kind:X.env.scope.kind= .function
 glob:X.env.globals=mainGlobals
 blt:X.env.builtins=builtinsNs
 above:X.s₀.heap.objs.size<=X.env.locals
 inj:∀x y c,X.env.cells.lookup x=some c->X.env.cells.lookup y=some c->x=y
 has:∀x,(X.env.kindOf x=some .cell\/X.env.kindOf x=some .free)->∃c,X.env.cells.lookup x=some c
 cab:∀x c,X.fn x=true->X.env.cells.lookup x=some c->X.s₀.heap.objs.size<=c
 hd:X.calm=true->X.A.handled=none
 frames:X.A.frames=some X.stack
 stk:X.stack=X.outer\/(X.stack=X.env::X.outer/\X.env.frame=some X.env.locals)
 exf:∀b∈X.ex,b≠X.env.locals/\∀x c,X.env.cells.lookup x=some c->c≠b
 bs:∀b o,X.base.get? b=some o->X.s₀.heap.get? b=some o/\X.H₀ b=none
 bsz:X.base.objs.size<=X.s₀.heap.objs.size
 noex:∀b o,X.base.get? b=some o->b∉X.ex
 exfs:∀b∈X.ex,b∉X.fs
 funs:X.s₀.heap.FunFrames X.base X.outer
 frf:∀b∈X.fs,X.H₀ b=none
structure Inv (X:Cx)(pins:List (Addr×Obj))(σ:List (Option V))(H:Hp)(s:Shared):Prop where
 ok:X.Ok
 os:s.os=X.s₀.os
 bare:AllBare s.gens
 base:Un X.fs X.ex X.H₀ H X.s₀.heap s.heap
 loc:∃m,s.heap.Ns X.env.locals m/\∀(i:Nat)(x:Str)(v:V),X.N[i]? =some x->σ[i]? =some (some v)->Vis X.env.scope x->∃u,RelV v u/\Look X.env s.heap m x u
 cell:∀x c,X.env.cells.lookup x=some c->∃v,s.heap.IsCell c v
 free:H X.env.locals=none
 freeC:∀x c,X.env.cells.lookup x=some c->H c=none
 pin:∀p∈X.pn++pins,s.heap.get? p.1=some p.2/\H p.1=none/\p.1≠X.env.locals/\p.1∉X.fs/\∀v,p.2.data≠ .cell v
 hok:HOk X.prog X.w H s.heap
 len:σ.length=X.N.length
section
variable {X:Cx}{pins:List (Addr×Obj)}{σ:List (Option V)}{H H':Hp}{s:Shared}{h':Heap}
theorem Cx.Ok.nofr (ok:X.Ok){b:Addr}{o:Obj}(e:X.base.get? b=some o):b∉X.fs:=fun hb=>by
 have:=(ok.funs.mem hb).1
 rw[e]at this;cases this
theorem Inv.bs (I:Inv X pins σ H s):∀b o,X.base.get? b=some o->s.heap.get? b=some o/\H b=none:=fun b o e=>
 ⟨I.base.keep b o (I.ok.bs b o e).1 (I.ok.bs b o e).2 (I.ok.nofr e) (I.ok.noex b o e),I.base.free b o (I.ok.bs b o e).1 (I.ok.bs b o e).2 (I.ok.noex b o e)⟩
theorem Inv.bk (I:Inv X pins σ H s):∀b o,X.base.get? b=some o->s.heap.get? b=some o:=fun b o e=>(I.bs b o e).1
theorem Inv.mod (I:Inv X pins σ H s):Mod X.K X.mg X.base:=I.ok.mod
theorem Inv.kIn (I:Inv X pins σ H s):X.K.In s.heap:=I.ok.mod.kin.keeps I.bk
theorem Inv.fr (I:Inv X pins σ H s):∃m,Fr X.base X.env.locals s.heap m:=
 let ⟨m,hn,_⟩:=I.loc
 ⟨m,hn,I.bk,Y0 I.ok.bsz I.ok.above⟩
theorem Inv.lt (I:Inv X pins σ H s):X.env.locals<s.heap.objs.size:=let ⟨_,hn,_⟩:=I.loc;hn.lt
theorem Inv.sz (I:Inv X pins σ H s):X.s₀.heap.objs.size<=s.heap.objs.size:=Y0 I.ok.above (XI I.lt)
theorem Inv.nofs (I:Inv X pins σ H s){a:Addr}(h:s.heap.objs.size<=a):a∉X.fs:=fun hb=>by
 obtain⟨_,o,ho,_⟩:=I.ok.funs.mem hb
 exact absurd (Yf (Yr ho) (Y0 I.sz h)) (Y2 _)
theorem Inv.cne (I:Inv X pins σ H s):∀x c,X.env.cells.lookup x=some c->c≠X.env.locals:=fun x c e z=>by
 obtain⟨v,o,ho,hd⟩:=I.cell x c e
 obtain⟨m,⟨o',es,ep,ho',hd',_⟩,_⟩:=I.loc
 rw[z,ho']at ho;cases ho;rw[hd']at hd;cases hd
theorem Inv.funs (I:Inv X pins σ H s):s.heap.FunFrames X.base X.outer:=by
 have all:∀(l:List Env),(∀b∈frs l,b∈X.fs)->X.s₀.heap.FunFrames X.base l->s.heap.FunFrames X.base l:=by
  intro l
  induction l with
  |nil=>intro _ _;trivial
  | cons env r ih=>
   intro hs hl
   obtain⟨hk,⟨L,o,hf,hn,ho,hd⟩,hr⟩:=hl
   have hL:L∈X.fs:=hs L (by unfold frs;rw[List.filterMap_cons,hf];exact YD)
   obtain⟨sl,e⟩:=I.base.slot L o ho (I.ok.frf L hL) hL fun z=>I.ok.exfs L z hL
   exact⟨hk,⟨L,_,hf,hn,e,hd⟩,ih (fun b hb=>hs b (by unfold frs;rw[List.filterMap_cons,hf];exact Ys _ hb)) hr⟩
 exact all X.outer (fun _ hb=>hb) I.ok.funs
theorem Inv.stack (I:Inv X pins σ H s):s.heap.FunFrames X.base X.stack:=by
 rcases I.ok.stk with e | ⟨e,hf⟩
 ·rw[e];exact I.funs
 ·rw[e]
  obtain⟨m,hn,_⟩:=I.loc
  refine .cons (by rw[I.ok.kind];decide) hf hn ?_ I.funs
  exact Heap.get?_none_of_le (Y0 I.ok.bsz I.ok.above)
theorem Inv.stkSub (I:Inv X pins σ H s):∀b∈frs X.stack,b∈X.env.locals::X.fs:=fun b hb=>by
 rcases I.ok.stk with e | ⟨e,hf⟩
 ·rw[e]at hb;exact Ys _ hb
 ·rw[e]at hb
  unfold frs at hb
  rw[List.filterMap_cons,hf]at hb
  exact hb
theorem Inv.stkFree (I:Inv X pins σ H s):∀b∈frs X.stack,H b=none:=fun b hb=>by
 rcases YE.mp (I.stkSub b hb) with e | hb
 ·rw[e];exact I.free
 ·obtain⟨_,o,ho,_⟩:=I.ok.funs.mem hb
  exact I.base.free b o ho (I.ok.frf b hb) fun z=>I.ok.exfs b z hb
theorem Inv.step {g':Array GenState}{t':Nat}{d':Drawn}{ch:List Addr}(I:Inv X pins σ H s)
  (hch:∀b∈ch,(b∈X.ex\/X.s₀.heap.objs.size<=b)/\b≠X.env.locals/\(∀x c,X.env.cells.lookup x=some c->c≠b)/\∀p∈X.pn++pins,p.1≠b)
  (keep:∀b o,b≠X.env.locals->b∉X.fs->b∉ch->s.heap.get? b=some o->H b=none->h'.get? b=some o)
  (slot:∀b o,b≠X.env.locals->b∈X.fs->b∉ch->s.heap.get? b=some o->H b=none->∃sl,h'.get? b=some { o with slots:=sl }) (free:∀b o,b∉ch->s.heap.get? b=some o->H b=none->H' b=none)
  (there:∀b o,b∉ch->s.heap.get? b=some o->∃o',h'.get? b=some o')
  (tups:∀b xs,H b=some (.tup xs)->H' b=some (.tup xs)) (frzs:∀b o u,H b=some (.frz o u)->H' b=some (.frz o u)) (tbls:∀b ps,H b=some (.tbl ps)->∃more,H' b=some (.tbl (ps++more)))
  (ns:∀m,s.heap.Ns X.env.locals m->h'.Ns X.env.locals m) (hok:HOk X.prog X.w H' h') (hg:AllBare g') :
  Inv X pins σ H' { s with heap:=h',gens:=g',drawn:=d',toks:=t' }:=by
 have neL:∀b o,X.s₀.heap.get? b=some o->b≠X.env.locals:=fun b o e=>YJ (Yf (Yr e) I.ok.above)
 have neC:∀b o,X.s₀.heap.get? b=some o->b∉X.ex->b∉ch:=fun b o e hx hb=>by
  rcases (hch b hb).1 with z | z
  ·exact hx z
  ·exact absurd (Yf (Yr e) z) (Y2 _)
 have cellK:∀x c,X.env.cells.lookup x=some c->∀v,s.heap.IsCell c v->h'.IsCell c v:=fun x c e v ⟨o,ho,hd⟩=>by
  have nch:c∉ch:=fun z=>(hch c z).2.2.1 x c e rfl
  by_cases hc:c∈X.fs
  ·obtain⟨sl,q⟩:=slot c o (I.cne x c e) hc nch ho (I.freeC x c e)
   exact⟨_,q,hd⟩
  ·exact⟨o,keep c o (I.cne x c e) hc nch ho (I.freeC x c e),hd⟩
 refine⟨I.ok,I.os,hg,⟨fun b o e n hb hx=>?_,fun b o e n hb hx=>?_,fun b o e n hx=>?_,fun b o e hx=>?_,fun b xs e=>tups b xs (I.base.tups b xs e),fun b o xs e=>frzs b o xs (I.base.frzs b o xs e),fun b ps e=>?_⟩,?_,fun x c e=>?_,?_,fun x c e=>?_,fun p hp=>?_,hok,I.len⟩
 ·exact keep b o (neL b o e) hb (neC b o e hx) (I.base.keep b o e n hb hx) (I.base.free b o e n hx)
 ·obtain⟨sl,e1⟩:=I.base.slot b o e n hb hx
  obtain⟨sl',e2⟩:=slot b _ (neL b o e) hb (neC b o e hx) e1 (I.base.free b o e n hx)
  exact⟨sl',e2⟩
 ·obtain⟨o',e1⟩:=I.base.there b o e hx
  exact free b o' (neC b o e hx) e1 (I.base.free b o e n hx)
 ·obtain⟨o',e1⟩:=I.base.there b o e hx
  exact there b o' (neC b o e hx) e1
 ·obtain⟨m1,e1⟩:=I.base.tbls b ps e
  obtain⟨m2,e2⟩:=tbls b _ e1
  exact⟨m1++m2,by rw[e2,Jg]⟩
 ·obtain⟨m,hn,hl⟩:=I.loc
  refine⟨m,ns m hn,fun i x v e1 e2 e3=>?_⟩
  obtain⟨u,r,l⟩:=hl i x v e1 e2 e3
  refine⟨u,r,?_⟩
  rcases l with l | ⟨k,c,e,z⟩
  ·exact .inl l
  ·exact .inr ⟨k,c,e,cellK x c e _ z⟩
 ·obtain⟨v,z⟩:=I.cell x c e
  exact⟨v,cellK x c e v z⟩
 ·obtain⟨m,⟨o,_,_,ho,_⟩,_⟩:=I.loc
  exact free _ o (fun z=>(hch _ z).2.1 rfl) ho I.free
 ·obtain⟨v,o,ho,hd⟩:=I.cell x c e
  exact free c o (fun z=>(hch c z).2.2.1 x c e rfl) ho (I.freeC x c e)
 ·obtain⟨e,n,ne,nf,d⟩:=I.pin p hp
  have nch:p.1∉ch:=fun z=>(hch p.1 z).2.2.2 p hp rfl
  exact⟨keep p.1 p.2 ne nf nch e n,free p.1 p.2 nch e n,ne,nf,d⟩
theorem Inv.un {t':Nat}(I:Inv X pins σ H s)(u:Un X.fs [] H H' s.heap h')(hok:HOk X.prog X.w H' h'):Inv X pins σ H' { s with heap:=h',toks:=t' }:=by
 obtain⟨m,⟨o,es,ep,ho,r⟩,_⟩:=id I.loc
 obtain⟨sl,hL⟩:=u.any ho I.free (by simp)
 exact I.step (g':=s.gens) (d':=s.drawn) (ch:=[]) (fun _ z=>nomatch z) (fun b o _ hb _ e n=>u.keep b o e n hb (by simp)) (fun b o _ hb _ e n=>u.slot b o e n hb (by simp)) (fun b o _ e n=>u.free b o e n (by simp)) (fun b o _ e=>u.there b o e (by simp)) u.tups u.frzs u.tbls (fun m' hm=>by
  obtain⟨o',es',ep',ho',r'⟩:=hm
  rw[ho]at ho';cases ho'
  exact⟨_,es',ep',hL,r'⟩) hok I.bare
theorem Inv.call {g':Array GenState}{t':Nat}{d':Drawn}{ch:List Addr}(I:Inv X pins σ H s)(u:Un (frs X.stack) ch H H' s.heap h')(hok:HOk X.prog X.w H' h')(hg:AllBare g')
  (hch:∀b∈ch,(b∈X.ex\/X.s₀.heap.objs.size<=b)/\b≠X.env.locals/\(∀x c,X.env.cells.lookup x=some c->c≠b)/\∀p∈X.pn++pins,p.1≠b) :
  Inv X pins σ H' { s with heap:=h',gens:=g',drawn:=d',toks:=t' }:=by
 obtain⟨m,⟨o,es,ep,ho,r⟩,_⟩:=id I.loc
 obtain⟨sl,hL⟩:=u.any ho I.free fun z=>(hch _ z).2.1 rfl
 exact I.step (ch:=ch) hch (fun b o hL hb hc e n=>u.keep b o e n (fun z=>(YE.mp (I.stkSub b z)).elim hL hb) hc) (fun b o _ _ hc e n=>u.any e n hc) (fun b o hc e n=>u.free b o e n hc) (fun b o hc e=>u.there b o e hc) u.tups u.frzs u.tbls (fun m' hm=>by
  obtain⟨o',es',ep',ho',r'⟩:=hm
  rw[ho]at ho';cases ho'
  exact⟨_,es',ep',hL,r'⟩) hok hg
theorem Inv.turned {t':Nat}{it:Addr}(I:Inv X pins σ H s)(k:∀b o,b≠it->s.heap.get? b=some o->h'.get? b=some o)(hn:H it=none)(hL:it≠X.env.locals)
  (h1:it∈X.ex\/X.s₀.heap.objs.size<=it) (h2:∀x c,X.env.cells.lookup x=some c->c≠it) (h3:∀p∈X.pn++pins,p.1≠it):Inv X pins σ H { s with heap:=h',toks:=t' }:=by
 have nit:∀b u,H b=some u->b≠it:=fun b u e z=>by rw[z,hn]at e;cases e
 refine I.step (g':=s.gens) (d':=s.drawn) (ch:=[it]) (fun b hb=>?_) (fun b o _ _ hc e _=>k b o (fun z=>hc (by simp[z])) e) (fun b o _ _ hc e _=>⟨o.slots,k b o (fun z=>hc (by simp[z])) e⟩) (fun _ _ _ _ n=>n)
  (fun b o hc e=>⟨o,k b o (fun z=>hc (by simp[z])) e⟩) (fun _ _ e=>e) (fun _ _ _ e=>e) (fun b ps e=>⟨#[],by rw[e];simp⟩) (fun m hm=>?_) (fun b u e=>?_) I.bare
 ·have e:b=it:=by simpa using hb
  subst e
  exact⟨h1,hL,h2,h3⟩
 ·obtain⟨o,es,ep,ho,r⟩:=hm
  exact⟨o,es,ep,k _ o (Ne.symm hL) ho,r⟩
 ·refine(I.hok b u e).stay (fun c v hc q=>k c v ?_ q) (fun _ q=>q) fun _ _ q=>q
  rcases hc with z | z
  ·rw[z];exact nit b u e
  ·exact nit c _ z
theorem Inv.tok (I:Inv X pins σ H s)(t:Nat):Inv X pins σ H { s with toks:=t }:=I.un (h':=s.heap) (t':=t) Un.refl I.hok
theorem Inv.kept {t':Nat}(I:Inv X pins σ H s)(k:∀b u,s.heap.get? b=some u->h'.get? b=some u):Inv X pins σ H { s with heap:=h',toks:=t' }:=I.un (Un.kept k) (I.hok.kept k)
theorem Inv.laid {a:Addr}{o:HO}{t':Nat}(I:Inv X pins σ H s)(k:∀b u,s.heap.get? b=some u->h'.get? b=some u)(hp:s.heap.objs.size<=a)(new:dG X.prog X.w (upd H a o) h' a o) :
  Inv X pins σ (upd H a o) { s with heap:=h',toks:=t' }:=I.un (Un.laid k hp (I.hok.fresh hp)) (I.hok.laid k hp new)
theorem Inv.write {x e:Addr}{o:HO}{t':Nat}(I:Inv X pins σ H s)(mu:Mut (H x))(he:e=x\/H e=some (.own x))(k:∀b u,b≠e->s.heap.get? b=some u->h'.get? b=some u)(heo:∃u,h'.get? e=some u)
  (new:dG X.prog X.w (upd H x o) h' x o):Inv X pins σ (upd H x o) { s with heap:=h',toks:=t' }:=I.un (Un.write mu he k heo) (I.hok.write mu he k heo new)
theorem Inv.weak {σ':List (Option V)}(I:Inv X pins σ H s)(hl:σ'.length=σ.length)(w:∀(i:Nat) v,σ'[i]? =some (some v)->σ[i]? =some (some v)):Inv X pins σ' H s:=
 ⟨I.ok,I.os,I.bare,I.base,let ⟨m,hn,hl'⟩:=I.loc;⟨m,hn,fun i x v e1 e2 e3=>hl' i x v e1 (w i v e2) e3⟩,I.cell,I.free,I.freeC,I.pin,I.hok,hl.trans I.len⟩
theorem Inv.pins_of {pins':List (Addr×Obj)}(I:Inv X pins σ H s)(h:∀p∈pins',s.heap.get? p.1=some p.2/\H p.1=none/\p.1≠X.env.locals/\p.1∉X.fs/\∀v,p.2.data≠ .cell v):Inv X pins' σ H s:=
 ⟨I.ok,I.os,I.bare,I.base,I.loc,I.cell,I.free,I.freeC,fun p hp=>(YA.mp hp).elim (fun z=>I.pin p (Xr _ z)) (h p),I.hok,I.len⟩
theorem vD {N:List Str}(hN:N.Nodup){i j:Nat}{x:Str}(a:N[i]? =some x)(b:N[j]? =some x):i=j:=by
 obtain⟨h1,e1⟩:=Ye.mp a
 obtain⟨h2,e2⟩:=Ye.mp b
 exact(List.getElem_inj hN).mp (e1.trans e2.symm)
theorem rO {M:Model}{A:Around}{E:Value->Shared->Prop}{i:Nat}{x:Str}{v:V}{u:Value}{Q:Unit->Shared->Prop}(I:Inv X pins σ H s)(hN:X.N.Nodup)(hi:X.N[i]? =some x)(hx:Loc X.env.scope x)(r:RelV v u)
  (h:∀s',Inv X pins (σ.set i (some v)) H s'->(∃a,Heap.SameBut a s.heap s'.heap/\(a=X.env.locals\/X.env.cells.lookup x=some a))->Q () s') (hf:X.fn x=true\/X.env.scope.names.lookup x=some .local:=by first | exact .inl rfl | exact .inr rfl | assumption):wpAny M A (storeName X.env x u) Q E s:=by
 obtain⟨m,hn,hl⟩:=id I.loc
 have hcls:(X.env.scope.kind == .class || (X.env.scope.kind == .module && X.env.locals != X.env.globals))=false:=by rw[I.ok.kind];rfl
 have hiσ:i<σ.length:=by rw[I.len];exact(Ye.mp hi).1
 have cne:=I.cne
 have tracked:∀{a:Addr}{h':Heap},(∃o,s.heap.get? a=some o/\H a=none)->Heap.SameBut a s.heap h'->HOk X.prog X.w H h':=fun {a h'} ha hs b ob e=>by
  obtain⟨_,_,hfree⟩:=ha
  refine(I.hok b ob e).stay (fun c w' hc q=>(hs.2 c ?_).trans q) (fun _ q=>q) fun _ _ q=>q
  rintro rfl
  rcases hc with rfl | hc
  ·rw[hfree]at e;cases e
  ·rw[hfree]at hc;cases hc
 rcases hx with hk | hk
 ·refine wpAny_storeName_local hk hn (fun h' hn' hs=>?_) hcls
  obtain⟨oL,_,_,hoL,_⟩:=id hn
  refine h _ ⟨I.ok,I.os,I.bare,⟨fun b o e n hb hx=>?_,fun b o e n hb hx=>?_,I.base.free,fun b o e hx=>?_,I.base.tups,I.base.frzs,I.base.tbls⟩,⟨_,hn',fun j y v' e1 e2 e3=>?_⟩,fun y c e=>?_,I.free,I.freeC,fun p hp=>?_,tracked ⟨oL,hoL,I.free⟩ hs,by simpa using I.len⟩ ⟨_,hs,.inl rfl⟩
  ·exact(hs.2 b (YJ (Yf (Yr e) I.ok.above))).trans (I.base.keep b o e n hb hx)
  ·obtain⟨sl,e1⟩:=I.base.slot b o e n hb hx
   exact⟨sl,(hs.2 b (YJ (Yf (Yr e) I.ok.above))).trans e1⟩
  ·obtain⟨o',e1⟩:=I.base.there b o e hx
   exact⟨o',(hs.2 b (YJ (Yf (Yr e) I.ok.above))).trans e1⟩
  ·by_cases hj:j=i
   ·subst hj
    rw[hi]at e1;cases e1
    rw[List.getElem?_set_self hiσ]at e2
    cases e2
    exact⟨u,r,.inl ⟨hk,by simp⟩⟩
   ·rw [Y9 (Ne.symm hj)]at e2
    obtain⟨u',r',q⟩:=hl j y v' e1 e2 e3
    refine⟨u',r',?_⟩
    rcases q with ⟨k,e⟩ | ⟨k,c,e,z⟩
    ·refine .inl ⟨k,?_⟩
     have:y≠x:=fun e=>hj (vD hN e1 (e▸hi))
     simp[this,e]
    ·exact .inr ⟨k,c,e,z.sameBut hs (cne y c e)⟩
  ·obtain⟨w',z⟩:=I.cell y c e
   exact⟨w',z.sameBut hs (cne y c e)⟩
  ·obtain⟨e,n,ne,nf,d⟩:=I.pin p hp
   exact⟨(hs.2 p.1 ne).trans e,n,ne,nf,d⟩
 ·have hfn:X.fn x=true:=by
   rcases hf with z | z
   ·exact z
   ·rw[z]at hk;cases hk
  obtain⟨c,hc⟩:=I.ok.has x (.inl hk)
  obtain⟨w',z⟩:=I.cell x c hc
  refine wpAny_storeName_cell I.ok.kind hk hc z (fun h' hc' hs=>?_)
  obtain⟨oc,hoc,hocd⟩:=id z
  refine h { s with heap:=h' } ⟨I.ok,I.os,I.bare,⟨fun b o e n hb hx=>?_,fun b o e n hb hx=>?_,I.base.free,fun b o e hx=>?_,I.base.tups,I.base.frzs,I.base.tbls⟩,⟨m,hn.sameBut hs (Ne.symm (cne x c hc)),fun j y v' e1 e2 e3=>?_⟩,fun y c' e=>?_,I.free,I.freeC,fun p hp=>?_,tracked ⟨oc,hoc,I.freeC x c hc⟩ hs,by simpa using I.len⟩ ⟨c,hs,.inr hc⟩
  ·exact(hs.2 b (YJ (Yf (Yr e) (I.ok.cab x c hfn hc)))).trans (I.base.keep b o e n hb hx)
  ·obtain⟨sl,e1⟩:=I.base.slot b o e n hb hx
   exact⟨sl,(hs.2 b (YJ (Yf (Yr e) (I.ok.cab x c hfn hc)))).trans e1⟩
  ·obtain⟨o',e1⟩:=I.base.there b o e hx
   exact⟨o',(hs.2 b (YJ (Yf (Yr e) (I.ok.cab x c hfn hc)))).trans e1⟩
  ·by_cases hj:j=i
   ·subst hj
    rw[hi]at e1;cases e1
    rw[List.getElem?_set_self hiσ]at e2
    cases e2
    exact⟨u,r,.inr ⟨.inl hk,c,hc,hc'⟩⟩
   ·rw [Y9 (Ne.symm hj)]at e2
    obtain⟨u',r',q⟩:=hl j y v' e1 e2 e3
    refine⟨u',r',?_⟩
    rcases q with q | ⟨k,c',e,z'⟩
    ·exact .inl q
    ·refine .inr ⟨k,c',e,z'.sameBut hs ?_⟩
     rintro rfl
     exact hj (vD hN e1 (I.ok.inj _ _ _ e hc▸hi))
  ·by_cases hcc:c'=c
   ·subst hcc;exact⟨_,hc'⟩
   ·obtain⟨w2,z2⟩:=I.cell y c' e
    exact⟨w2,z2.sameBut hs hcc⟩
  ·obtain⟨e,n,ne,nf,d⟩:=I.pin p hp
   refine⟨(hs.2 p.1 ?_).trans e,n,ne,nf,d⟩
   intro q
   rw[q,hoc]at e
   have q':oc=p.2:=Yq e
   exact d w' (by rw[<-q'];exact hocd)
theorem pP {M:Model}{A:Around}{E:Value->Shared->Prop}{i:Nat}{x:Str}{v:V}{u:Value}{Q:Unit->Shared->Prop}(I:Inv X pins σ H s)(hN:X.N.Nodup)(hi:X.N[i]? =some x)(hx:Loc X.env.scope x)(r:RelV v u)
  (h:∀s',Inv X pins (σ.set i (some v)) H s'->Q () s') (hf:X.fn x=true\/X.env.scope.names.lookup x=some .local:=by first | exact .inl rfl | exact .inr rfl | assumption):wpAny M A (storeName X.env x u) Q E s:=
 rO I hN hi hx r (fun s' I' _=>h s' I') hf
theorem Inv.call' {s':Shared}{ch:List Addr}(I:Inv X pins σ H s)(ho:s'.os=s.os)(u:Un (frs X.stack) ch H H' s.heap s'.heap)(hok:HOk X.prog X.w H' s'.heap)(hg:AllBare s'.gens)
  (hch:∀b∈ch,(b∈X.ex\/X.s₀.heap.objs.size<=b)/\b≠X.env.locals/\(∀x c,X.env.cells.lookup x=some c->c≠b)/\∀p∈X.pn++pins,p.1≠b):Inv X pins σ H' s':=by
 obtain⟨h',g',d',t',o'⟩:=s'
 have e:o'=s.os:=ho
 subst e
 exact I.call (g':=g') (t':=t') (d':=d') u hok hg hch
end
abbrev XK:=Value->Option Addr->Hp->Prop
abbrev St:=List (Option V)
abbrev VK:=V->Hp->Prop
abbrev TE:=St->Hp->VK->Prop
abbrev TT:=St->Hp->(Bool->Hp->Prop)->Prop
abbrev TA:=St->Hp->(List V->Hp->Prop)->Prop
structure Ends where
 nx:St->Hp->Prop
 rt:VK
 bk:St->Hp->Prop:=fun _ _=>False
 ct:St->Hp->Prop:=fun _ _=>False
abbrev TS:=Ends->St->Hp->Prop
def EP (X:Cx)(pins:List (Addr×Obj))(σ:St)(Q:VK)(u:Value)(s':Shared):Prop:=∃v H',Inv X pins σ H' s'/\RelV v u/\Q v H'
def TP (X:Cx)(pins:List (Addr×Obj))(σ:St)(Q:Bool->Hp->Prop)(b:Bool)(s':Shared):Prop:=∃H',Inv X pins σ H' s'/\Q b H'
def AP (X:Cx)(pins:List (Addr×Obj))(σ:St)(Q:List V->Hp->Prop)(us:List Value)(s':Shared):Prop:=∃vs H',Inv X pins σ H' s'/\Vals vs us/\Q vs H'
def SP (X:Cx)(pins:List (Addr×Obj))(D:Ends)(f:Flow)(s':Shared):Prop:=
 match f with
 |.next=>∃σ' H',Inv X pins σ' H' s'/\D.nx σ' H'
 |.brk=>∃σ' H',Inv X pins σ' H' s'/\D.bk σ' H'
 |.cont=>∃σ' H',Inv X pins σ' H' s'/\D.ct σ' H'
 |.ret u=>∃v σ' H',Inv X pins σ' H' s'/\RelV v u/\D.rt v H'
def PE (X:Cx)(e:Expr)(t:TE):Prop:=
 ∀(pins:List (Addr×Obj))(s:Shared)(σ:St)(H:Hp)(Q:VK),Inv X pins σ H s->t σ H Q->wpAny (model X.prog X.w) X.A (eval e X.env) (EP X pins σ Q) X.xe s
def PT (X:Cx)(e:Expr)(t:TT):Prop:=
 ∀(pins:List (Addr×Obj))(s:Shared)(σ:St)(H:Hp)(Q:Bool->Hp->Prop),Inv X pins σ H s->t σ H Q->wpAny (model X.prog X.w) X.A (isTrue e X.env (eval e X.env)) (TP X pins σ Q) X.xe s
def PW (X:Cx)(e:Expr)(t:TT):Prop:=
 ∀(whole:Sem Value)(pins:List (Addr×Obj))(s:Shared)(σ:St)(H:Hp)(Q:Bool->Hp->Prop),Inv X pins σ H s->t σ H Q->wpAny (model X.prog X.w) X.A (isTrue e X.env whole) (TP X pins σ Q) X.xe s
theorem PW.pt {X:Cx}{e:Expr}{t:TT}(h:PW X e t):PT X e t:=h _
def PA (X:Cx)(es:List Expr)(t:TA):Prop:=
 ∀(pos:Pos)(pins:List (Addr×Obj))(s:Shared)(σ:St)(H:Hp)(Q:List V->Hp->Prop),Inv X pins σ H s->t σ H Q->wpAny (model X.prog X.w) X.A (spliced (backTo pos (starEach es X.env))) (AP X pins σ Q) X.xe s
def PS (X:Cx)(st:Stmt)(t:TS):Prop:=
 ∀(pins:List (Addr×Obj))(s:Shared)(σ:St)(H:Hp)(D:Ends),Inv X pins σ H s->t D σ H->wpAny (model X.prog X.w) X.A (exec st X.env) (SP X pins D) X.xe s
def PSs (X:Cx)(st:List Stmt)(t:TS):Prop:=
 ∀(pins:List (Addr×Obj))(s:Shared)(σ:St)(H:Hp)(D:Ends),Inv X pins σ H s->t D σ H->wpAny (model X.prog X.w) X.A (execs st X.env) (SP X pins D) X.xe s
theorem thn {α:Type}{t:Sem α}{Q Q':α->Shared->Prop}{M:Model}{A:Around}{E:Value->Shared->Prop}{s:Shared}(h:wpAny M A t Q E s)(hQ:∀a s,Q a s->Q' a s):wpAny M A t Q' E s:=Y8 h hQ fun _ _ x=>x
end L2
namespace L2
open PySem PySem.Spec PyProof.Rows
section
variable {X:Cx}
theorem bin {a b:Expr}{ta tb:TE}(ha:PE X a ta)(hb:PE X b tb){pins:List (Addr×Obj)}{s:Shared}{σ:St}{H:Hp}{R:V->V->Hp->Prop}(I:Inv X pins σ H s)(h:ta σ H fun x H1=>tb σ H1 fun y H2=>R x y H2)
  {α:Type} {Q:α->Shared->Prop} {f:Value->Value->Sem α}
  (hf:∀v u s2 x y H2,Inv X pins σ H2 s2->RelV x v->RelV y u->R x y H2->wpAny (model X.prog X.w) X.A (f v u) Q X.xe s2) :
  wpAny (model X.prog X.w) X.A (eval a X.env) (fun v s₁=>wpAny (model X.prog X.w) X.A (eval b X.env) (fun u s₂=>wpAny (model X.prog X.w) X.A (f v u) Q X.xe s₂) X.xe s₁) X.xe s:=by
 refine thn (ha pins s σ H _ I h) fun v s1 hz9=>?_
 obtain⟨x,H1,I1,r1,q1⟩:=hz9
 refine thn (hb pins s1 σ H1 _ I1 q1) fun u s2 hz9=>?_
 obtain⟨y,H2,I2,r2,q2⟩:=hz9
 exact hf v u s2 x y H2 I2 r1 r2 q2
def b1H (i:Nat):TE:=fun σ H Q=>∃v,σ[i]? =some (some v)/\Q v H
def tC (v:V):TE:=fun _ H Q=>Q v H
theorem a4P {i:Nat}{x:Str}{pos:Pos}(hN:X.N[i]? =some x)(hv:Vis X.env.scope x)(hd:(x == ("__debug__":Str))=false:=by decide)(hcd:(x == ("__classdict__":Str))=false:=by decide):PE X (.Name x pos) (b1H i):=by
 intro pins s σ H Q I h
 obtain⟨v,e,h⟩:=h
 obtain⟨m,hn,hl⟩:=I.loc
 obtain⟨u,r,l⟩:=hl i x v hN e hv
 have fin:EP X pins σ Q u s:=⟨v,H,I,r,h⟩
 rcases l with ⟨hk,hm⟩ | ⟨hk,c,hc,hcell⟩
 ·exact wpAny_Name (wpAny_loadName_local I.ok.kind hk hn hm fin) hd
 ·rcases hk with hk | hk
  ·exact wpAny_Name (wpAny_loadName_cell I.ok.kind hk hc hcell fin) hd
  ·exact wpAny_Name (wpAny_loadName_free I.ok.kind hk hc hcell fin hcd) hd
theorem aH {i j pos}:PE X (.Constant (.int i) j pos) (tC (.int i)):=fun _ _ _ H _ I h=>wpAny_Constant_int ⟨.int i,H,I.tok _,⟨_,rfl⟩,h⟩
theorem eQ {b j pos}:PE X (.Constant (.bool b) j pos) (tC (.bl b)):=fun _ _ _ H _ I h=>Constant_bool ⟨.bl b,H,I,rfl,h⟩
theorem tQ {j pos}:PE X (.Constant .none j pos) (tC .non):=fun _ _ _ H _ I h=>Constant_none ⟨.non,H,I,rfl,h⟩
theorem bA {x j pos}:PE X (.Constant (.str x) j pos) (tC (.str x)):=fun _ _ _ H _ I h=>Calls.Constant_str ⟨.str x,H,I.tok _,⟨_,rfl⟩,h⟩
def Gl (X:Cx)(x:Str):Prop:=X.env.kindOf x=some .globalImplicit
theorem jK {E:Value->Shared->Prop}{pins:List (Addr×Obj)}{s:Shared}{σ:St}{H:Hp}{x:Str}{u:Value}{pos:Pos}{Q:Value->Shared->Prop}(I:Inv X pins σ H s)(hg:Gl X x)(hm:X.mg x=some u)(h:Q u s)
  (hd:(x == ("__debug__":Str))=false:=by decide):wpAny (model X.prog X.w) X.A (eval (.Name x pos) X.env) Q E s:=
 Calls.Name_function_global I.ok.kind hg (Calls.loadGlobal_global (by rw[I.ok.glob];exact I.mod.glob.keeps I.bk) hm h) hd
theorem nM {E:Value->Shared->Prop}{pins:List (Addr×Obj)}{s:Shared}{σ:St}{H:Hp}{x:Str}{u:Value}{pos:Pos}{Q:Value->Shared->Prop}(I:Inv X pins σ H s)(hg:Gl X x)(hm:X.mg x=none)(hv:bootBuiltins x=some u)(h:Q u s)
  (hn:x≠"__name__":=by decide) (hd:(x == ("__debug__":Str))=false:=by decide):wpAny (model X.prog X.w) X.A (eval (.Name x pos) X.env) Q E s:=by
 obtain⟨mb,h1,h2⟩:=I.mod.blt
 exact Calls.Name_function_global I.ok.kind hg (Calls.loadGlobal_builtin (by rw[I.ok.glob];exact I.mod.glob.keeps I.bk) hm (by rw[I.ok.blt];exact h1.keeps I.bk) ((h2 x hn).trans hv) h) hd
theorem bD {x:Str}{v:V}{u:Value}{pos:Pos}(hg:Gl X x)(hm:X.mg x=some u)(r:RelV v u)(hd:(x == ("__debug__":Str))=false:=by decide):PE X (.Name x pos) (tC v):=
 fun _ _ _ H _ I h=>jK I hg hm ⟨v,H,I,r,h⟩ hd
theorem a8P {x:Str}{v:V}{u:Value}{pos:Pos}(hg:Gl X x)(hm:X.mg x=none)(hv:bootBuiltins x=some u)(r:RelV v u)(hn:x≠"__name__":=by decide)(hd:(x == ("__debug__":Str))=false:=by decide):PE X (.Name x pos) (tC v):=
 fun _ _ _ H _ I h=>nM I hg hm hv ⟨v,H,I,r,h⟩ hn hd
variable {a b:Expr}{ta tb:TE}{pos:Pos}
def PC (X:Cx)(op:CmpOp)(a b:Expr)(t:TE):Prop:=
 ∀ (pins:List (Addr×Obj))(s:Shared)(σ:St)(H:Hp)(Q:VK),Inv X pins σ H s->t σ H Q->
  wpAny (model X.prog X.w) X.A (eval a X.env) (fun v s₁=>wpAny (model X.prog X.w) X.A (eval b X.env) (fun u s₂=>wpAny (model X.prog X.w) X.A (compareOp op v u) (EP X pins σ Q) X.xe s₂) X.xe s₁) X.xe s
def tB (t:TE):TT:=fun σ H Q=>t σ H fun x H1=>∃c,x= .bl c/\Q c H1
theorem b8D {op:CmpOp}{t:TE}(h:PC X op a b t)(h1:behindInMarks op b=false:=by first | exact nobehind _ (by decide) (by decide) | rfl):PT X (.Compare a [op] [b] pos) (tB t):=by
 intro pins s σ H Q I hw
 refine wpAny_isTrue_Compare1 (thn (h pins s σ H _ I hw) fun v s1 h1=>thn h1 fun u s2 h2=>thn h2 fun c s3 hz9=>?_) h1
 obtain⟨x,H1,I1,r1,q1⟩:=hz9
 obtain⟨d,rfl,q⟩:=q1
 cases r1
 exact Xc ⟨H1,I1,q⟩
theorem b2D {e:Expr}{t:TE}(h:PE X e t)(he:∀whole,isTrue e X.env whole=(do let v<-whole;standAt e.pos;holding [v] (truthy v)):=by intro _;rfl):PT X e (tB t):=by
 intro pins s σ H Q I hw
 refine isTrue_plain (thn (h pins s σ H _ I hw) fun v s1 hz9=>?_) (he _)
 obtain⟨x,H1,I1,r1,q1⟩:=hz9
 obtain⟨d,rfl,q⟩:=q1
 cases r1
 exact Xc ⟨H1,I1,q⟩
variable {tA tB':TT}{rest:List Expr}
def b7U (t u:TT):TT:=fun σ H Q=>t σ H fun c H1=>if c=true then u σ H1 Q else Q false H1
def tOr (t u:TT):TT:=fun σ H Q=>t σ H fun c H1=>if c=true then Q true H1 else u σ H1 Q
def b7N (t:TT):TT:=fun σ H Q=>t σ H fun c H1=>Q (!c) H1
theorem iV (ha:PT X a tA):PW X (.BoolOp .And [a] pos) tA:=by
 intro wh pins s σ H Q I h
 refine isTrue_and (thn (ha pins s σ H Q I h) fun c s1 e=>?_)
 cases c with
 |true=>exact isTrue_and_nil e
 |false=>exact e
theorem lM (ha:PT X a tA):PW X (.BoolOp .Or [a] pos) tA:=by
 intro wh pins s σ H Q I h
 refine isTrue_or (thn (ha pins s σ H Q I h) fun c s1 e=>?_)
 cases c with
 |false=>exact isTrue_or_nil e
 |true=>exact e
theorem jG (ha:PT X a tA)(hb:PW X (.BoolOp .And (b::rest) pos) tB'):PW X (.BoolOp .And (a::b::rest) pos) (b7U tA tB'):=by
 intro wh pins s σ H Q I h
 refine isTrue_and (thn (ha pins s σ H _ I h) fun c s1 hz9=>?_)
 obtain⟨H1,I1,q1⟩:=hz9
 cases c with
 |true=>exact hb wh pins s1 σ H1 Q I1 q1
 |false=>exact⟨H1,I1,q1⟩
theorem oA (ha:PT X a tA)(hb:PW X (.BoolOp .Or (b::rest) pos) tB'):PW X (.BoolOp .Or (a::b::rest) pos) (tOr tA tB'):=by
 intro wh pins s σ H Q I h
 refine isTrue_or (thn (ha pins s σ H _ I h) fun c s1 hz9=>?_)
 obtain⟨H1,I1,q1⟩:=hz9
 cases c with
 |true=>exact⟨H1,I1,q1⟩
 |false=>exact hb wh pins s1 σ H1 Q I1 q1
theorem fK (ha:PT X a tA):PT X (.UnaryOp .Not a pos) (b7N tA):=by
 intro pins s σ H Q I h
 exact isTrue_not (ha pins s σ H (fun c H1=>Q (!c) H1) I h)
def a2Y (ta tb:TE):TE:=fun σ H Q=>ta σ H fun x H1=>∃c,x= .bl c/\if c=true then tb σ H1 Q else Q (.bl false) H1
def a2X (ta:TE):TE:=fun σ H Q=>ta σ H fun x H1=>∃c,x= .bl c/\Q (.bl (!c)) H1
theorem a4Q {op}{t:TE}(h:PE X a t):PE X (.BoolOp op [a] pos) t:=fun pins s σ H Q I hw=>BoolOp_one (h pins s σ H Q I hw)
theorem b2I (ha:PE X a ta)(hb:PE X (.BoolOp .And (b::rest) pos) tb):PE X (.BoolOp .And (a::b::rest) pos) (a2Y ta tb):=by
 intro pins s σ H Q I h
 refine BoolOp_and (thn (ha pins s σ H _ I h) fun v s1 hz9=>?_)
 obtain⟨x,H1,I1,r1,q1⟩:=hz9
 obtain⟨c,rfl,q1⟩:=q1
 cases r1
 refine Xc ?_
 cases c with
 |true=>exact hb pins s1 σ H1 Q I1 q1
 |false=>exact⟨.bl false,H1,I1,rfl,q1⟩
theorem b2G (ha:PE X a ta):PE X (.UnaryOp .Not a pos) (a2X ta):=by
 intro pins s σ H Q I h
 refine UnaryOp_ (thn (ha pins s σ H _ I h) fun v s1 hz9=>?_)
 obtain⟨x,H1,I1,r1,q1⟩:=hz9
 obtain⟨c,rfl,q1⟩:=q1
 cases r1
 exact not_of (Xc ⟨.bl (!c),H1,I1,rfl,q1⟩)
def tIf (t:TT)(ta tb:TE):TE:=fun σ H Q=>t σ H fun c H1=>if c=true then ta σ H1 Q else tb σ H1 Q
theorem dO {c:Expr}(hc:PT X c tA)(ha:PE X a ta)(hb:PE X b tb):PE X (.IfExp c a b pos) (tIf tA ta tb):=by
 intro pins s σ H Q I h
 refine wpAny_IfExp (thn (hc pins s σ H _ I h) fun d s1 hz9=>?_)
 obtain⟨H1,I1,q1⟩:=hz9
 cases d with
 |true=>exact ha pins s1 σ H1 Q I1 q1
 |false=>exact hb pins s1 σ H1 Q I1 q1
end
end L2
namespace L2
open PySem PySem.Spec PyProof.Rows
def SqL (K:W.Frag)(H:Hp)(a:Addr)(xs:List V):Prop:=
 Rd H a (.lst xs)\/
  ∃(o:Obj)(its:Array Value)(n:Nat),K.lookup a=some o/\o.cls= .type "list"/\o.dict=none/\o.data= .seq its n/\its.size<=sizeLine/\Vals xs its.toList
def SqT (K:W.Frag)(H:Hp)(a:Addr)(xs:List V):Prop:=
 Rd H a (.tup xs)\/
  ∃(o:Obj)(its:Array Value)(n:Nat),K.lookup a=some o/\o.cls= .type "tuple"/\o.data= .seq its n/\its.size<=sizeLine/\Vals xs its.toList
def b8X:Value->Option V
 |.none=>some .non
 |.bool b=>some (.bl b)
 |.int i _=>some (.int i)
 |.str x _=>some (.str x)
 |.bytes b _=>some (.byt b)
 |.float b _=>some (.flt b)
 |.ref a=>some (.ref a)
 |.type n=>some (.ty n)
 |_=>none
theorem RelV.abs {x:V}{u:Value}(r:RelV x u):b8X u=some x:=by
 cases x with
 |non=>cases r;rfl
 |bl _=>cases r;rfl
 |int _=>obtain⟨t,rfl⟩:=r;rfl
 |str _=>obtain⟨t,rfl⟩:=r;rfl
 |byt _=>obtain⟨t,rfl⟩:=r;rfl
 |flt _=>obtain⟨t,rfl⟩:=r;rfl
 |ref _=>cases r;rfl
 |ty _=>cases r;rfl
theorem RelV.inj {x y:V}{u:Value}(r:RelV x u)(q:RelV y u):x=y:=Yq (r.abs.symm.trans q.abs)
theorem Vals.inj:∀{xs ys:List V}{us:List Value},Vals xs us->Vals ys us->xs=ys
 |_,_,_,.nil,.nil=>rfl
 |_,_,_,.cons r t,.cons r' t'=>by rw[r.inj r',Vals.inj t t']
section
variable {X:Cx}{pins:List (Addr×Obj)}{σ:St}{H:Hp}{s:Shared}{a:Addr}{xs ys:List V}
theorem SqL.of {K:W.Frag}(h:H a=some (.lst xs)):SqL K H a xs:= .inl (.inl h)
theorem SqT.of {K:W.Frag}(h:H a=some (.tup xs)):SqT K H a xs:= .inl (.inl h)
theorem Inv.list (I:Inv X pins σ H s)(h:SqL X.K H a xs):∃its:List Value,Vals xs its/\PlainL s.heap a its.toArray/\xs.length<=sizeLine:=by
 rcases h with h | ⟨o,its,n,hk,hc,hd,hs,hz,r⟩
 ·obtain⟨z,its,n,r,e⟩:=h.ok I.hok
  exact⟨its,r,⟨_,n,e,rfl,rfl,rfl⟩,z⟩
 ·refine⟨its.toList,r,⟨o,n,I.kIn a o hk,hc,hd,by simpa using hs⟩,?_⟩
  have e:=r.length
  simp only[XR]at e
  omega
theorem Inv.tuple (I:Inv X pins σ H s)(h:SqT X.K H a xs):∃its:List Value,Vals xs its/\IsTup s.heap a its.toArray/\xs.length<=sizeLine:=by
 rcases h with h | ⟨o,its,n,hk,hc,hs,hz,r⟩
 ·obtain⟨z,its,r,p⟩:=h.ok I.hok
  exact⟨its,r,p,z⟩
 ·refine⟨its.toList,r,⟨o,I.kIn a o hk,hc,n,by simpa using hs⟩,?_⟩
  have e:=r.length
  simp only[XR]at e
  omega
theorem Inv.list_inj (I:Inv X pins σ H s)(h:SqL X.K H a xs)(h':SqL X.K H a ys):xs=ys:=by
 obtain⟨its,r,⟨o,n,e,_,_,d⟩,_⟩:=I.list h
 obtain⟨its',r',⟨o',n',e',_,_,d'⟩,_⟩:=I.list h'
 rw[e]at e';cases e'
 rw[d]at d'
 injection d' with d1 _
 have:its=its':=by simpa using YT Array.toList d1
 subst this
 exact r.inj r'
theorem Inv.tuple_inj (I:Inv X pins σ H s)(h:SqT X.K H a xs)(h':SqT X.K H a ys):xs=ys:=by
 obtain⟨its,r,⟨o,e,_,n,d⟩,_⟩:=I.tuple h
 obtain⟨its',r',⟨o',e',_,n',d'⟩,_⟩:=I.tuple h'
 rw[e]at e';cases e'
 rw[d]at d'
 injection d' with d1 _
 have:its=its':=by simpa using YT Array.toList d1
 subst this
 exact r.inj r'
end
abbrev Cx.wish (X:Cx)(E:Value->Shared->Prop):Cx:={ X with xe:=E }
abbrev Cx.nox (X:Cx):Cx:=X.wish fun _ _=>False
theorem Cx.Ok.wish {X:Cx}(ok:X.Ok)(E:Value->Shared->Prop):(X.wish E).Ok:=
 ⟨ok.mod,ok.kind,ok.glob,ok.blt,ok.above,ok.inj,ok.has,ok.cab,ok.hd,ok.frames,ok.stk,ok.exf,ok.bs,ok.bsz,ok.noex,ok.exfs,ok.funs,ok.frf⟩
theorem Cx.Ok.unwish {X:Cx}{E:Value->Shared->Prop}(ok:(X.wish E).Ok):X.Ok:=
 ⟨ok.mod,ok.kind,ok.glob,ok.blt,ok.above,ok.inj,ok.has,ok.cab,ok.hd,ok.frames,ok.stk,ok.exf,ok.bs,ok.bsz,ok.noex,ok.exfs,ok.funs,ok.frf⟩
section
variable {X:Cx}{pins:List (Addr×Obj)}{σ:St}{H:Hp}{s:Shared}{E:Value->Shared->Prop}
theorem Inv.wish (I:Inv X pins σ H s)(E:Value->Shared->Prop):Inv (X.wish E) pins σ H s:=⟨I.ok.wish E,I.os,I.bare,I.base,I.loc,I.cell,I.free,I.freeC,I.pin,I.hok,I.len⟩
theorem Inv.unwish (I:Inv (X.wish E) pins σ H s):Inv X pins σ H s:=⟨I.ok.unwish,I.os,I.bare,I.base,I.loc,I.cell,I.free,I.freeC,I.pin,I.hok,I.len⟩
theorem SP.unwish {D:Ends}{f:Flow}{s':Shared}(h:SP (X.wish E) pins D f s'):SP X pins D f s':=by
 cases f with
 |next=>obtain⟨σ',H',I,q⟩:=h;exact⟨σ',H',I.unwish,q⟩
 |brk=>obtain⟨σ',H',I,q⟩:=h;exact⟨σ',H',I.unwish,q⟩
 |cont=>obtain⟨σ',H',I,q⟩:=h;exact⟨σ',H',I.unwish,q⟩
 |ret u=>obtain⟨v,σ',H',I,r,q⟩:=h;exact⟨v,σ',H',I.unwish,r,q⟩
theorem PSs.nox {st:List Stmt}{t:TS}(h:PSs X.nox st t):PSs X st t:=fun pins s σ H D I hw=>
 Y8 (h pins s σ H D (I.wish _) hw) (fun _ _ q=>q.unwish) fun _ _ z=>False.elim z
end
section
variable {X:Cx}{st:Stmt}{rest:List Stmt}{t u:TS}{e:Expr}{te:TE}{pos:Pos}
def b4V:TS:=fun D σ H=>D.nx σ H
def b7L (t u:TS):TS:=fun D σ H=>t { D with nx:=u D } σ H
theorem aW:PSs X [] b4V:=fun _ _ σ H _ I h=>wpAny_execs_nil ⟨σ,H,I,h⟩
theorem aF (h1:PS X st t)(h2:PSs X rest u):PSs X (st::rest) (b7L t u):=by
 intro pins s σ H D I h
 refine wpAny_execs_cons (thn (h1 pins s σ H { D with nx:=u D } I h) fun f s1 q=>?_)
 cases f with
 | next=>
  obtain⟨σ',H',I',q⟩:=q
  exact h2 pins s1 σ' H' D I' q
 |ret v=>exact q
 |brk=>exact q
 |cont=>exact q
theorem aG (h1:PS X st t):PSs X [st] t:=by
 intro pins s σ H D I h
 refine wpAny_execs_cons (thn (h1 pins s σ H D I h) fun f s1 q=>?_)
 cases f with
 |next=>exact wpAny_execs_nil q
 |ret v=>exact q
 |brk=>exact q
 |cont=>exact q
theorem Inv.quiet {pins:List (Addr×Obj)}{σ:St}{H:Hp}{s:Shared}(I:Inv X pins σ H s):interactive X.env=false:=by simp[interactive,I.ok.kind]
def b4W (te:TE):TS:=fun D σ H=>te σ H fun _ H1=>D.nx σ H1
theorem bC (he:PE X e te)(hs:swapsWith e none pos.line X.env=pure false:=by rfl):PS X (.Expr e pos) (b4W te):=by
 intro pins s σ H D I h
 exact wpAny_Expr_any (thn (he pins s σ H _ I h) fun v s1 ⟨x,H1,I1,r1,q1⟩=>⟨σ,H1,I1,q1⟩) I.quiet hs
def b7M (te:TE):TS:=fun D σ H=>te σ H D.rt
theorem aM (he:PE X e te):PS X (.Return (some e) pos) (b7M te):=by
 intro pins s σ H D I h
 exact wpAny_Return_some (thn (he pins s σ H _ I h) fun v s1 ⟨x,H1,I1,r1,q1⟩=>⟨x,σ,H1,I1,r1,q1⟩)
def b7P (c:TT)(t u:TS):TS:=fun D σ H=>c σ H fun b H1=>if b=true then t D σ H1 else u D σ H1
theorem bH {c:Expr}{a b:List Stmt}{tc:TT}(hc:PT X c tc)(ha:PSs X a t)(hb:PSs X b u):PS X (.If c a b pos) (b7P tc t u):=by
 intro pins s σ H D I h
 refine wpAny_If (thn (hc pins s σ H _ I h) fun d s1 hz9=>?_)
 obtain⟨H1,I1,q1⟩:=hz9
 cases d with
 |true=>exact ha pins s1 σ H1 D I1 q1
 |false=>exact hb pins s1 σ H1 D I1 q1
end
abbrev TG:=V->St->Hp->(St->Hp->Prop)->Prop
abbrev TGs:=List V->St->Hp->(St->Hp->Prop)->Prop
def PG (X:Cx)(target:Expr)(t:TG):Prop:=
 ∀ (pins:List (Addr×Obj))(s:Shared)(σ:St)(H:Hp)(v:V)(u:Value)(Q:St->Hp->Prop),Inv X pins σ H s->RelV v u->t v σ H Q->
  wpAny (model X.prog X.w) X.A (assign target X.env u) (fun _ s'=>∃σ' H',Inv X pins σ' H' s'/\Q σ' H') X.xe s
def PGs (X:Cx)(ts:List Expr)(t:TGs):Prop:=
 ∀ (pins:List (Addr×Obj))(s:Shared)(σ:St)(H:Hp)(vs:List V)(us:List Value)(Q:St->Hp->Prop),Inv X pins σ H s->Vals vs us->t vs σ H Q->
  wpAny (model X.prog X.w) X.A (assignInOrder ((assignEach ts X.env).map (·.2)) us) (fun _ s'=>∃σ' H',Inv X pins σ' H' s'/\Q σ' H') X.xe s
section
variable {X:Cx}{pos:Pos}
def vW (i:Nat):TG:=fun v σ H Q=>Q (σ.set i (some v)) H
theorem cQ {i:Nat}{x:Str}(hN:X.N.Nodup)(hi:X.N[i]? =some x)(hx:Loc X.env.scope x)(hf:X.fn x=true\/X.env.scope.names.lookup x=some .local:=by first | exact .inl rfl | exact .inr rfl | assumption):PG X (.Name x pos) (vW i):=by
 intro pins s σ H v u Q I r h
 exact wpAny_assign_Name (pP I hN hi hx r (fun s' I'=>⟨_,H,I',h⟩) hf)
def b6J:TGs:=fun vs σ H Q=>vs= []/\Q σ H
def a6B (t:TG)(u:TGs):TGs:=fun vs σ H Q=>∃v r,vs=v::r/\t v σ H fun σ' H'=>u r σ' H' Q
theorem a8N:PGs X [] b6J:=by
 intro pins s σ H vs us Q I r h
 obtain⟨e,h⟩:=h
 subst e
 cases r
 exact assignInOrder_nil ⟨σ,H,I,h⟩
theorem uZ {e:Expr}{es:List Expr}{t:TG}{u:TGs}(h1:PG X e t)(h2:PGs X es u)
  (hs:(assignEach (e::es) X.env).map (·.2)=assign e X.env::(assignEach es X.env).map (·.2):=by rfl):PGs X (e::es) (a6B t u):=by
 intro pins s σ H vs us Q I r h
 obtain⟨v,vr,e1,h⟩:=h
 subst e1
 cases r with
 | cons r rr=>
  rw[hs]
  refine assignInOrder_cons (thn (h1 pins s σ H _ _ _ I r h) fun _ s1 hz9=>?_)
  obtain⟨σ1,H1,I1,q1⟩:=hz9
  exact h2 pins s1 σ1 H1 _ _ Q I1 rr q1
def b6I (K:W.Frag)(n:Nat)(t:TGs):TG:=fun v σ H Q=>∃a xs,v= .ref a/\SqT K H a xs/\xs.length=n/\t xs σ H Q
theorem b2E {es:List Expr}{k:Nat}{t:TGs}{n:Nat}(hc:X.calm=true)(h:PGs X es t)
  (hn:(assignEach es X.env).length=n:=by rfl) (hst:(assignEach es X.env).findIdx? (·.1)=none:=by rfl):PG X (.Tuple es k pos) (b6I X.K n t):=by
 intro pins s σ H v u Q I r hw
 obtain⟨a,xs,e1,hq,hl,hw⟩:=hw
 subst e1
 cases r
 obtain⟨its,rv,ht,hz⟩:=I.tuple hq
 refine assign_Tuple_tuple (I.ok.hd hc) ht (by simp[hn,<-hl,rv.length]) hst fun h' hx=>?_
 have I1:Inv X pins σ H { s with heap:=h' }:=I.kept (t':=s.toks) fun b o e=>hx b o (YJ (Yr e)) e
 exact h pins _ σ H xs _ Q I1 (by simpa using rv) hw
def b5A (te:TE)(g:TG):TS:=fun D σ H=>te σ H fun x H1=>g x σ H1 D.nx
theorem bB {i:Nat}{x:Str}{e:Expr}{te:TE}{pos':Pos}(hN:X.N.Nodup)(hi:X.N[i]? =some x)(hx:Loc X.env.scope x)(he:PE X e te)(hs:swapsWith e (some (.Name x pos')) pos.line X.env=pure false:=by rfl)(hf:X.fn x=true\/X.env.scope.names.lookup x=some .local:=by first | exact .inl rfl | exact .inr rfl | assumption) :
  PS X (.Assign [.Name x pos'] e pos) (b5A te (vW i)):=by
 intro pins s σ H D I h
 refine wpAny_Assign_Name (thn (he pins s σ H _ I h) fun v s1 hz9=>?_) hs
 obtain⟨y,H1,I1,r1,q1⟩:=hz9
 exact pP I1 hN hi hx r1 (fun s2 I2=>⟨_,H1,I2,q1⟩) hf
end
section
variable {X:Cx}{pos:Pos}
def b1G (c:TT)(tb:TS):TS:=fun D σ H=>∃W:Nat->St->Hp->Prop,(∃m,W m σ H)/\∀m σ H,W m σ H->
 c σ H fun b H1=>if b=true then ∃N:St->Hp->Prop,(∀σ' H',N σ' H'->∃m',m'<m/\W m' σ' H')/\tb { D with nx:=N,ct:=N,bk:=D.nx } σ H1 else D.nx σ H1
theorem a4M {c:Expr}{body:List Stmt}{tc:TT}{tb:TS}(hp:PassesOwn (model X.prog X.w) X.A X.env X.xe)(hc:PT X c tc)(hb:PSs X body tb):PS X (.While c body [] pos) (b1G tc tb):=by
 intro pins s σ H D I h
 obtain⟨W,⟨m0,w0⟩,turn⟩:=h
 refine wpAny_While (codeAny_whileLoop (fun n s'=>∃σ' H',Inv X pins σ' H' s'/\W n σ' H') ?_ m0 ⟨σ,H,I,w0⟩)
 rintro n s1 ⟨σ1,H1,I1,w1⟩
 refine XF hp (thn (hc pins s1 σ1 H1 _ I1 (turn n σ1 H1 w1)) fun b s2 hz9=>?_)
 obtain⟨H2,I2,q2⟩:=hz9
 cases b with
 | true=>
  obtain⟨N,hN,q2⟩:=q2
  rw[if_pos rfl]
  refine XF hp (thn (hb pins s2 σ1 H2 _ I2 q2) fun f s3 q3=>?_)
  cases f with
  | next=>
   obtain⟨σ3,H3,I3,n3⟩:=q3
   obtain⟨m',hm,w3⟩:=hN σ3 H3 n3
   exact⟨m',hm,σ3,H3,I3,w3⟩
  | cont=>
   obtain⟨σ3,H3,I3,n3⟩:=q3
   obtain⟨m',hm,w3⟩:=hN σ3 H3 n3
   exact⟨m',hm,σ3,H3,I3,w3⟩
  |brk=>exact q3
  |ret v=>exact q3
 | false=>
  rw[if_neg Yt]
  exact wpAny_execs_nil ⟨σ1,H2,I2,q2⟩
end
structure It where
 go:Nat->Hp->Prop
 yld:Nat->Hp->V->Hp->Prop
 stop:Nat->Hp->Prop
def oN (X:Cx)(pins:List (Addr×Obj))(H:Hp)(b:Addr):Prop:=
 H b=none/\b≠X.env.locals/\b∉X.fs/\(b∈X.ex\/X.s₀.heap.objs.size<=b)/\(∀x c,X.env.cells.lookup x=some c->c≠b)/\∀p∈X.pn++pins,p.1≠b
theorem Inv.fpOk {X:Cx}{pins:List (Addr×Obj)}{σ:St}{H H':Hp}{s:Shared}{b:Addr}(I:Inv X pins σ H s)(hb:s.heap.objs.size<=b)(hn:H' b=none):oN X pins H' b:=by
 refine⟨hn,Nat.ne_of_gt (Yf I.lt hb),I.nofs hb,.inr (Y0 I.sz hb),fun x c e z=>?_,fun p hp z=>?_⟩
 ·obtain⟨v,q⟩:=I.cell x c e
  exact absurd (Yf q.lt (by rw[z];exact hb)) (Y2 _)
 ·exact absurd (Yf (Yr (I.pin p hp).1) (by rw[z];exact hb)) (Y2 _)
structure Turn (P:Program)(w:World)(K:W.Frag)(tg:Expr)(J:It)(fp:List Addr)(it:Addr)(tn:Nat->Heap->Prop):Prop where
 mem:it∈fp
 obj:∀i h,tn i h->∀b∈fp,∃o,h.get? b=some o/\∀v,o.data≠ .cell v
 keep:∀i h h',tn i h->(∀b∈fp,∀o,h.get? b=some o->h'.get? b=some o)->tn i h'
 item :∀(X:Cx),X.prog=P->X.w=w->X.K=K->X.calm=true->∀(i:Nat)(pins:List (Addr×Obj))(s:Shared)(σ:St)(H:Hp)(E:Value->Shared->Prop),Inv X pins σ H s->(∀b∈fp,oN X pins H b)->tn i s.heap->J.go i H->
  wpAny (model P w) X.A (pyNext (.ref it)) (fun r s1=>∃u,r=some u/\
   wpAny (model P w) X.A (letOwnedTupleGo tg (.ref it) u) (fun _ s2=>∃x H',Inv X pins σ H' s2/\RelV x u/\J.yld i H x H'/\tn (i+1) s2.heap/\∀b∈fp,H' b=none) E s1) E s
 done:∀(X:Cx),X.prog=P->X.w=w->X.K=K->X.calm=true->∀(i:Nat)(pins:List (Addr×Obj))(s:Shared)(σ:St)(H:Hp)(E:Value->Shared->Prop),Inv X pins σ H s->(∀b∈fp,oN X pins H b)->tn i s.heap->J.stop i H->
  wpAny (model P w) X.A (pyNext (.ref it)) (fun r s1=>r=none/\Inv X pins σ H s1) E s
 self:∀(A:Around)(i:Nat)(s:Shared)(Q:Value->Shared->Prop)(E:Value->Shared->Prop),tn i s.heap->Q (.ref it) s->wpAny (model P w) A (pyIter (.ref it)) Q E s
abbrev TI:=St->Hp->(It->Hp->Prop)->Prop
def PIE (X:Cx)(pins:List (Addr×Obj))(σ:St)(tg:Expr)(R:It->Hp->Prop)(itv:Value)(s2:Shared):Prop:=
 ∃(it:Addr)(fp:List Addr)(tn:Nat->Heap->Prop)(J:It)(H':Hp),itv= .ref it/\Inv X pins σ H' s2/\Turn X.prog X.w X.K tg J fp it tn/\tn 0 s2.heap/\(∀b∈fp,oN X pins H' b)/\R J H'
def PI (X:Cx)(tg iter:Expr)(wi:TI):Prop:=
 ∀ (pins:List (Addr×Obj))(s:Shared)(σ:St)(H:Hp)(R:It->Hp->Prop),Inv X pins σ H s->wi σ H R->
  wpAny (model X.prog X.w) X.A (eval iter X.env) (fun v s1=>wpAny (model X.prog X.w) X.A (pyIter v) (PIE X pins σ tg R) X.xe s1) X.xe s
theorem zZ {M:Model}{A:Around}{E:Value->Shared->Prop}{s:Shared}{tg:Expr}{it:Addr}{u:Value}{o:Obj}{n:String}{vs:Array Value}{Q:Unit->Shared->Prop}(ho:s.heap.get? it=some o)(hc:o.cls= .type n)(hd:o.data= .fields vs)
    (hn:["enumerate","zip","dict_itemiterator","dict_reverseitemiterator","odict_iterator","itertools.zip_longest","itertools.pairwise"].contains n=false) (hQ:Q () s):wpAny M A (letOwnedTupleGo tg (.ref it) u) Q E s:=by
  unfold letOwnedTupleGo
  cases tg <;> first
    |exact Xa hQ
    | (cases u <;> first
        |exact Xa hQ
        | (refine YH (wpAny_load ho ?_)
           rw[hc,hd]
           show wpAny M A (if (["enumerate","zip","dict_itemiterator","dict_reverseitemiterator","odict_iterator","itertools.zip_longest","itertools.pairwise"].contains n && vs[0]? == some (rawInt _))=true then _ else _) Q E s
           rw[if_neg (by intro h;rw[hn,Bool.false_and]at h;cases h)]
           exact Xa hQ))
def Itl (K:W.Frag)(a:Addr):It:=
 ⟨fun i H=>∃xs x,SqL K H a xs/\xs[i]? =some x,fun i H x H'=>H'=H/\∀xs,SqL K H a xs->xs[i]? =some x,fun i H=>∃xs,SqL K H a xs/\xs.length<=i⟩
def Itt (K:W.Frag)(a:Addr):It:=
 ⟨fun i H=>∃xs x,SqT K H a xs/\xs[i]? =some x,fun i H x H'=>H'=H/\∀xs,SqT K H a xs->xs[i]? =some x,fun i H=>∃xs,SqT K H a xs/\xs.length<=i⟩
def Itr (lo:Int)(n:Nat):It:=⟨fun i _=>i<n,fun i H x H'=>H'=H/\x= .int (lo+i),fun i _=>n<=i⟩
theorem rK {P:Program}{w:World}{K:W.Frag}{tg:Expr}(a it:Addr):Turn P w K tg (Itl K a) [it] it (fun i h=>h.IsListIter it a i) where
 mem:=by simp
 obj:=fun i h st b hb=>by
  have e:b=it:=by simpa using hb
  subst e
  obtain⟨o,e,c,d⟩:=st
  exact⟨o,e,fun v z=>by rw[d]at z;cases z⟩
 keep:=fun i h h' st k=>st.at fun o e=>k it (by simp) o e
 item:=by
  intro X hP hw hK hc i pins s σ H E I hf st hg
  subst hP hw hK
  obtain⟨xs,x,hq,hx⟩:=hg
  obtain⟨its,rv,p,hz⟩:=I.list hq
  obtain⟨u,hu,ru⟩:=rv.get hx
  obtain⟨f0,f1,f2,f3,f4,f5⟩:=hf it (by simp)
  refine wpAny_pyNext_list_item st p.isList (x:=u) (by simpa using hu) fun h' st' sb=>?_
  have I1:Inv X pins σ H { s with heap:=h' }:=I.turned (t':=s.toks) (fun b o hb e=>(sb.2 b hb).trans e) f0 f1 f3 f4 f5
  obtain⟨o,e,c,d⟩:=id st'
  exact⟨u,rfl,zZ (s:={ s with heap:=h' }) e c d (by decide) ⟨x,H,I1,ru,⟨rfl,fun ys hy=>by rw[I.list_inj hy hq];exact hx⟩,st',fun b hb=>(hf b hb).1⟩⟩
 done:=by
  intro X hP hw hK hc i pins s σ H E I hf st hg
  subst hP hw hK
  obtain⟨xs,hq,hx⟩:=hg
  obtain⟨its,rv,p,hz⟩:=I.list hq
  obtain⟨f0,f1,f2,f3,f4,f5⟩:=hf it (by simp)
  have hl:=rv.length
  exact wpAny_pyNext_list_end (I.ok.hd hc) st p.isList (by simp;omega) fun h' eb=>⟨rfl,I.turned (t':=s.toks) (fun b o hb e=>eb b o hb e) f0 f1 f3 f4 f5⟩
 self:=fun _ _ _ _ _ st h=>wpAny_pyIter_listiter st h
theorem wM {P:Program}{w:World}{K:W.Frag}{tg:Expr}(a it:Addr):Turn P w K tg (Itt K a) [it] it (fun i h=>h.IsTupleIter it a i) where
 mem:=by simp
 obj:=fun i h st b hb=>by
  have e:b=it:=by simpa using hb
  subst e
  obtain⟨o,e,c,d⟩:=st
  exact⟨o,e,fun v z=>by rw[d]at z;cases z⟩
 keep:=fun i h h' st k=>st.at fun o e=>k it (by simp) o e
 item:=by
  intro X hP hw hK hc i pins s σ H E I hf st hg
  subst hP hw hK
  obtain⟨xs,x,hq,hx⟩:=hg
  obtain⟨its,rv,p,hz⟩:=I.tuple hq
  obtain⟨u,hu,ru⟩:=rv.get hx
  obtain⟨f0,f1,f2,f3,f4,f5⟩:=hf it (by simp)
  refine wpAny_pyNext_tuple_item st (show s.heap.IsTuple a its.toArray from p) (x:=u) (by simpa using hu) fun h' st' sb=>?_
  have I1:Inv X pins σ H { s with heap:=h' }:=I.turned (t':=s.toks) (fun b o hb e=>(sb.2 b hb).trans e) f0 f1 f3 f4 f5
  obtain⟨o,e,c,d⟩:=id st'
  exact⟨u,rfl,zZ (s:={ s with heap:=h' }) e c d (by decide) ⟨x,H,I1,ru,⟨rfl,fun ys hy=>by rw[I.tuple_inj hy hq];exact hx⟩,st',fun b hb=>(hf b hb).1⟩⟩
 done:=by
  intro X hP hw hK hc i pins s σ H E I hf st hg
  subst hP hw hK
  obtain⟨xs,hq,hx⟩:=hg
  obtain⟨its,rv,p,hz⟩:=I.tuple hq
  obtain⟨f0,f1,f2,f3,f4,f5⟩:=hf it (by simp)
  have hl:=rv.length
  exact wpAny_pyNext_tuple_end (I.ok.hd hc) st (show s.heap.IsTuple a its.toArray from p) (by simp;omega) fun h' eb=>⟨rfl,I.turned (t':=s.toks) (fun b o hb e=>eb b o hb e) f0 f1 f3 f4 f5⟩
 self:=fun _ _ _ _ _ st h=>wpAny_pyIter_tupleiter st h
theorem wN {P:Program}{w:World}{K:W.Frag}{tg:Expr}(it:Addr)(lo:Int)(n:Nat):Turn P w K tg (Itr lo n) [it] it (fun i h=>IsRangeIter h it (lo+(i:Nat)*1) ((n:Int)-(i:Nat)) 1) where
 mem:=by simp
 obj :=fun i h st b hb=>by
  have e:b=it:=by simpa using hb
  subst e
  exact⟨_,st,fun v z=>by
   have z':Data.fields _=Data.cell v:=z
   cases z'⟩
 keep:=fun i h h' st k=>k it (by simp) _ st
 item:=by
  intro X hP hw hK hc i pins s σ H E I hf st hg
  subst hP hw hK
  obtain⟨f0,f1,f2,f3,f4,f5⟩:=hf it (by simp)
  have W:=Walks.range (prog:=X.prog) (w:=X.w) (I.ok.hd hc) it lo 1 n
  refine W.item i s _ _ hg st fun v h' tk hv st' kk=>?_
  obtain⟨t,rfl⟩:=hv
  have I1:Inv X pins σ H { s with heap:=h',toks:=tk }:=I.turned (fun b o hb e=>kk b o (by simpa using hb) e) f0 f1 f3 f4 f5
  refine⟨_,rfl,zZ (s:={ s with heap:=h',toks:=tk }) (n:="range_iterator") st' rfl rfl (by decide) ⟨.int (lo+i),H,I1,⟨t,?_⟩,⟨rfl,rfl⟩,st',fun b hb=>(hf b hb).1⟩⟩
  rw[Int.mul_one]
 done:=by
  intro X hP hw hK hc i pins s σ H E I hf st hg
  subst hP hw hK
  obtain⟨f0,f1,f2,f3,f4,f5⟩:=hf it (by simp)
  exact wpAny_pyNext_range_end (I.ok.hd hc) st (by have:n<=i:=hg;omega) fun h' eb=>⟨rfl,I.turned (t':=s.toks) (fun b o hb e=>eb b o hb e) f0 f1 f3 f4 f5⟩
 self:=fun _ _ _ _ _ st h=>wpAny_pyIter_rangeiter st h
end L2
namespace L2
open PySem PySem.Spec PyProof.Rows
section
variable {X:Cx}{tg:Expr}
def b6H (K:W.Frag)(tl:TE):TI:=fun σ H R=>tl σ H fun x H1=>∃a,x= .ref a/\(∃xs,SqL K H1 a xs)/\R (Itl K a) H1
theorem a8M {l:Expr}{tl:TE}(hl:PE X l tl):PI X tg l (b6H X.K tl):=by
 intro pins s σ H R I h
 refine thn (hl pins s σ H _ I h) fun v s1 hz9=>?_
 obtain⟨x,H1,I1,r1,q1⟩:=hz9
 obtain⟨a,e,⟨xs,hq⟩,q⟩:=q1
 subst e
 cases r1
 obtain⟨its,rv,p,hz⟩:=I1.list hq
 refine wpAny_pyIter_list p.isList ?_
 refine⟨s1.heap.objs.size, [s1.heap.objs.size],_,_,H1,rfl,I1.kept (t':=s1.toks) fun b o e=>Yk _ e,rK a _,⟨_,YB _ rfl,rfl,rfl⟩,fun b hb=>?_,q⟩
 have e:b=s1.heap.objs.size:=by simpa using hb
 subst e
 exact I1.fpOk (Yd _) (I1.hok.fresh (Yd _))
theorem a4I {pins:List (Addr×Obj)}{σ:St}{H:Hp}{s:Shared}{R:It->Hp->Prop}{E:Value->Shared->Prop}{lo hi:Int}{t u v:Tok}{tk:Nat}(I:Inv X pins σ H s)(h1: -(2 ^ 62)<=lo)(h2:lo<2 ^ 62)(h3: -(2 ^ 62)<=hi)(h4:hi<2 ^ 62)
  (q:R (Itr lo (hi-lo).toNat) H):wpAny (model X.prog X.w) X.A (pyIter (.ref s.heap.objs.size)) (PIE X pins σ tg R) E { s with heap:=s.heap.push { cls:= .type "range",data:= .fields #[.int lo t,.int hi u,.int 1 v] },toks:=tk }:=by
 refine wpAny_pyIter_range (IsRange.new ..) (small_one h1 h2 h3 h4) ?_
 have I1:Inv X pins σ H { s with heap:=s.heap.push { cls:= .type "range",data:= .fields #[.int lo t,.int hi u,.int 1 v] },toks:=tk }:=I.kept fun b o e=>Yk _ e
 refine⟨(s.heap.push { cls:= .type "range",data:= .fields #[.int lo t,.int hi u,.int 1 v] }).objs.size, [(s.heap.push { cls:= .type "range",data:= .fields #[.int lo t,.int hi u,.int 1 v] }).objs.size],_,_,H,rfl,
  I1.kept (t':=tk) fun b o e=>Yk _ e,wN _ lo (hi-lo).toNat,?_,fun b hb=>?_,q⟩
 ·have e1:lo+((0:Nat):Int)*1=lo:=by simp
  have e2:(((hi-lo).toNat:Nat):Int)-((0:Nat):Int)=Builtin.Range.rangeSize lo hi 1:=by rw[rangeSize_one];split <;> omega
  show IsRangeIter _ _ (lo+((0:Nat):Int)*1) ((((hi-lo).toNat:Nat):Int)-((0:Nat):Int)) 1
  rw[e1,e2]
  exact YB _ rfl
 ·have e:b=(s.heap.push { cls:= .type "range",data:= .fields #[.int lo t,.int hi u,.int 1 v] }).objs.size:=by simpa using hb
  subst e
  exact I1.fpOk (Yd _) (I1.hok.fresh (Yd _))
def b6G (ta:TA):TI:=fun σ H R=>ta σ H fun vs H1=>∃j:Int,vs= [.int j]/\ -(2 ^ 62)<=j/\j<2 ^ 62/\R (Itr 0 j.toNat) H1
theorem a1G {a:Expr}{ta:TA}{p pos:Pos}(hg:Gl X "range")(hm:X.mg "range"=none)(ha:PA X [a] ta)(hs:starEach [a] X.env= [(false,eval a X.env)]:=by rfl):PI X tg (.Call (.Name "range" p) [a] [] pos) (b6G ta):=by
 intro pins s σ H R I h
 refine Call_ (nM I hg hm boot_range (XD (thn (ha pos pins s σ H _ I h) fun us s1 hz9=>?_) hs rfl))
 obtain⟨vs,H1,I1,r1,q1⟩:=hz9
 obtain⟨j,e,q1,q2,q⟩:=q1
 subst e
 cases r1 with
 | cons r rr=>
  cases rr
  obtain⟨t,rfl⟩:=r
  exact call_range_1 (a4I I1 (by omega) (by omega) q1 q2 (by simpa using q))
def b7Q (wi:TI)(g:TG)(tb:TS):TS:=fun D σ H=>wi σ H fun J H1=>∃W:Nat->Nat->St->Hp->Prop,(∃m,W 0 m σ H1)/\∀i m σ H,W i m σ H->
 (J.stop i H/\D.nx σ H)\/(J.go i H/\∃N:St->Hp->Prop,(∀σ' H',N σ' H'->∃m',m'<m/\W (i+1) m' σ' H')/\∀x H',J.yld i H x H'->g x σ H' fun σ2 H2=>tb { D with nx:=N,ct:=N,bk:=D.nx } σ2 H2)
def pY (fp:List Addr)(h:Heap):List (Addr×Obj):=fp.filterMap fun b=>(h.get? b).map fun o=>(b,o)
theorem jJ {fp:List Addr}{h:Heap}{b:Addr}{o:Obj}(hb:b∈fp)(e:h.get? b=some o):(b,o)∈pY fp h:=YZ.mpr ⟨b,hb,by rw[e];rfl⟩
theorem a1I {fp:List Addr}{h:Heap}{p:Addr×Obj}(hp:p∈pY fp h):p.1∈fp/\h.get? p.1=some p.2:=by
 obtain⟨b,hb,e⟩:=YZ.mp hp
 cases q:h.get? b with
 |none=>rw[q]at e;cases e
 | some o=>
  rw[q]at e
  have e':(b,o)=p:=Yq e
  subst e'
  exact⟨hb,q⟩
theorem Inv.pinned {pins:List (Addr×Obj)}{σ:St}{H:Hp}{s:Shared}{fp:List Addr}(I:Inv X pins σ H s)(hf:∀b∈fp,oN X pins H b)(ho:∀b∈fp,∃o,s.heap.get? b=some o/\∀v,o.data≠ .cell v):Inv X (pins++pY fp s.heap) σ H s:=
 I.pins_of fun p hp=>(YA.mp hp).elim (fun z=>I.pin p (YV _ z)) fun z=>by
  obtain⟨hb,e⟩:=a1I z
  obtain⟨f0,f1,f2,_⟩:=hf p.1 hb
  obtain⟨o,e',d⟩:=ho p.1 hb
  rw[e]at e';cases e'
  exact⟨e,f0,f1,f2,d⟩
theorem Inv.unpinned {pins pl:List (Addr×Obj)}{σ:St}{H:Hp}{s:Shared}(I:Inv X (pins++pl) σ H s):Inv X pins σ H s:=I.pins_of fun p hp=>I.pin p (YV _ (Xr _ hp))
theorem dZ {iter:Expr}{body:List Stmt}{wi:TI}{g:TG}{tb:TS}{pos:Pos}(hp:PassesOwn (model X.prog X.w) X.A X.env X.xe)(hc:X.calm=true)(hi:PI X tg iter wi)(hg:PG X tg g)(hb:PSs X body tb)
  (hs:∀x,foldedSetIterable iter X.env x=pure x:=by intro _;rfl):PS X (.For tg iter body [] pos) (b7Q wi g tb):=by
 intro pins s σ H D I h
 refine wpAny_For (thn (hi pins s σ H _ I h) fun v s1 h1=>thn h1 fun itv s2 h2=>?_) hs
 obtain⟨it,fp,tn,J,H2,e,I2,T,st2,f2,W,⟨m0,w0⟩,turn⟩:=h2
 subst e
 have stat:∀{H':Hp},(∀b∈fp,H' b=none)->∀b∈fp,oN X pins H' b:=fun hn b hb=>⟨hn b hb,(f2 b hb).2⟩
 refine codeAny_forLoop_any (fun n s'=>∃i σ' H',Inv X pins σ' H' s'/\tn i s'.heap/\(∀b∈fp,H' b=none)/\W i n σ' H') ?_ m0 ⟨0,σ,H2,I2,st2,fun b hb=>(f2 b hb).1,w0⟩
 rintro n s3 ⟨i,σ3,H3,I3,st3,fr3,w3⟩
 rcases turn i n σ3 H3 w3 with ⟨stop,qn⟩ | ⟨go,N,hN,step⟩
 ·refine XF hp (thn (T.done X rfl rfl rfl hc i pins s3 σ3 H3 X.xe I3 (stat fr3) st3 stop) fun r s4 ⟨hr,I4⟩=>?_)
  subst hr
  exact wpAny_execs_nil ⟨σ3,H3,I4,qn⟩
 ·refine XF hp (thn (T.item X rfl rfl rfl hc i pins s3 σ3 H3 X.xe I3 (stat fr3) st3 go) fun r s4 hz9=>?_)
  obtain⟨u,hr,h4⟩:=hz9
  subst hr
  refine XF hp (thn h4 fun _ s5 hz9=>?_)
  obtain⟨x,H5,I5,r5,y5,st5,fr5⟩:=hz9
  have I5':=I5.pinned (stat fr5) (T.obj _ _ st5)
  refine XF hp (thn (hg _ s5 σ3 H5 x u _ I5' r5 (step x H5 y5)) fun _ s6 hz9=>?_)
  obtain⟨σ6,H6,I6,q6⟩:=hz9
  refine XF hp (thn (hb _ s6 σ6 H6 _ I6 q6) fun f s7 q7=>?_)
  have again:∀{σ7:St}{H7:Hp},Inv X (pins++pY fp s5.heap) σ7 H7 s7->N σ7 H7->∃m,m<n/\∃i σ' H',Inv X pins σ' H' s7/\tn i s7.heap/\(∀b∈fp,H' b=none)/\W i m σ' H':=fun {σ7 H7} I7 n7=>by
   obtain⟨m',hm,w7⟩:=hN σ7 H7 n7
   refine⟨m',hm,i+1,σ7,H7,I7.unpinned,T.keep _ _ _ st5 fun b hb o e=>(I7.pin (b,o) (YV _ (YV _ (jJ hb e)))).1,fun b hb=>?_,w7⟩
   obtain⟨o,e,d⟩:=T.obj _ _ st5 b hb
   exact(I7.pin (b,o) (YV _ (YV _ (jJ hb e)))).2.1
  cases f with
  |next=>obtain⟨σ7,H7,I7,n7⟩:=q7;exact again I7 n7
  |cont=>obtain⟨σ7,H7,I7,n7⟩:=q7;exact again I7 n7
  |brk=>obtain⟨σ7,H7,I7,q7⟩:=q7;exact⟨σ7,H7,I7.unpinned,q7⟩
  |ret v=>obtain⟨x7,σ7,H7,I7,r7,q7⟩:=q7;exact⟨x7,σ7,H7,I7.unpinned,r7,q7⟩
end
theorem gP {K:W.Frag}{a:Addr}{xs:List V}{g:TG}{tb:TS}{D:Ends}{σ:St}{H:Hp}(Pv:Nat->St->Hp->Prop)(h0:Pv 0 σ H)(hl:∀i σ H,i<=xs.length->Pv i σ H->SqL K H a xs)
  (hs:∀i x σ H,xs[i]? =some x->Pv i σ H->g x σ H fun σ2 H2=>tb { D with nx:=Pv (i+1),ct:=Pv (i+1),bk:=D.nx } σ2 H2) (hd:∀σ H,Pv xs.length σ H->D.nx σ H) :
  ∃ W:Nat->Nat->St->Hp->Prop,(∃m,W 0 m σ H)/\∀i m σ H,W i m σ H->
   ((Itl K a).stop i H/\D.nx σ H)\/((Itl K a).go i H/\∃N:St->Hp->Prop,(∀σ' H',N σ' H'->∃m',m'<m/\W (i+1) m' σ' H')/\∀x H',(Itl K a).yld i H x H'->g x σ H' fun σ2 H2=>tb { D with nx:=N,ct:=N,bk:=D.nx } σ2 H2):=by
 refine⟨fun i m σ H=>m=xs.length-i/\i<=xs.length/\Pv i σ H,⟨xs.length,by simp,Xs _,h0⟩,?_⟩
 rintro i m σ H ⟨rfl,hi,p⟩
 have q:=hl i σ H hi p
 by_cases hlt:i<xs.length
 ·refine .inr ⟨⟨xs,xs[i],q,by simp[hlt]⟩,Pv (i+1),fun σ' H' p'=>⟨xs.length-(i+1),by omega,rfl,hlt,p'⟩,fun x H' y=>?_⟩
  obtain⟨e,y⟩:=y
  subst e
  exact hs i x σ _ (y xs q) p
 ·have e:i=xs.length:=by omega
  subst e
  exact .inl ⟨⟨xs,q,Yd _⟩,hd σ H p⟩
theorem gB {lo:Int}{n:Nat}{g:TG}{tb:TS}{D:Ends}{σ:St}{H:Hp}(Pv:Nat->St->Hp->Prop)(h0:Pv 0 σ H)
  (hs:∀i σ H,i<n->Pv i σ H->g (.int (lo+i)) σ H fun σ2 H2=>tb { D with nx:=Pv (i+1),ct:=Pv (i+1),bk:=D.nx } σ2 H2) (hd:∀σ H,Pv n σ H->D.nx σ H) :
  ∃ W:Nat->Nat->St->Hp->Prop,(∃m,W 0 m σ H)/\∀i m σ H,W i m σ H->
   ((Itr lo n).stop i H/\D.nx σ H)\/((Itr lo n).go i H/\∃N:St->Hp->Prop,(∀σ' H',N σ' H'->∃m',m'<m/\W (i+1) m' σ' H')/\∀x H',(Itr lo n).yld i H x H'->g x σ H' fun σ2 H2=>tb { D with nx:=N,ct:=N,bk:=D.nx } σ2 H2):=by
 refine⟨fun i m σ H=>m=n-i/\i<=n/\Pv i σ H,⟨n,by simp,Xs _,h0⟩,?_⟩
 rintro i m σ H ⟨rfl,hi,p⟩
 by_cases hlt:i<n
 ·refine .inr ⟨hlt,Pv (i+1),fun σ' H' p'=>⟨n-(i+1),by omega,rfl,hlt,p'⟩,fun x H' y=>?_⟩
  obtain⟨e,y⟩:=y
  subst e y
  exact hs i σ _ hlt p
 ·have e:i=n:=by omega
  subst e
  exact .inl ⟨Yd _,hd σ H p⟩
end L2
namespace L2
open PySem PySem.Spec PyProof.Rows
abbrev R2:=V->V->Hp->VK->Prop
def OpR (X:Cx)(f:Value->Value->Sem Value)(r:R2):Prop:=
 ∀ (pins:List (Addr×Obj))(s:Shared)(σ:St)(H:Hp)(x y:V)(v u:Value)(Q:VK),Inv X pins σ H s->RelV x v->RelV y u->r x y H Q->
  wpAny (model X.prog X.w) X.A (f v u) (EP X pins σ Q) X.xe s
def UnR (X:Cx)(f:Value->Sem Value)(r:V->Hp->VK->Prop):Prop:=
 ∀ (pins:List (Addr×Obj))(s:Shared)(σ:St)(H:Hp)(x:V)(v:Value)(Q:VK),Inv X pins σ H s->RelV x v->r x H Q->
  wpAny (model X.prog X.w) X.A (f v) (EP X pins σ Q) X.xe s
def fP (X:Cx)(f:Value)(r:List V->Hp->VK->Prop):Prop:=
 ∀ (pins:List (Addr×Obj))(s:Shared)(σ:St)(H:Hp)(xs:List V)(us:List Value)(Q:VK),Inv X pins σ H s->Vals xs us->r xs H Q->
  wpAny (model X.prog X.w) X.A (call f us) (EP X pins σ Q) X.xe s
def tOp (r:R2)(ta tb:TE):TE:=fun σ H Q=>ta σ H fun x H1=>tb σ H1 fun y H2=>r x y H2 Q
def tUn (r:V->Hp->VK->Prop)(ta:TE):TE:=fun σ H Q=>ta σ H fun x H1=>r x H1 Q
def rI (C:Int->Int->Prop)(g:Int->Int->V):R2:=fun x y H Q=>∃i j,x= .int i/\y= .int j/\C i j/\Q (g i j) H
def rI0 (g:Int->Int->V):R2:=fun x y H Q=>∃i j,x= .int i/\y= .int j/\Q (g i j) H
def rU (g:Int->V):V->Hp->VK->Prop:=fun x H Q=>∃i,x= .int i/\Q (g i) H
section
variable {X:Cx}{a b c:Expr}{ta tb tc:TE}{pos:Pos}
theorem b4I (ha:PE X a ta)(hb:PE X b tb){pins:List (Addr×Obj)}{s:Shared}{σ:St}{H:Hp}{R:V->V->Hp->Prop}(I:Inv X pins σ H s)
  (h:ta σ H fun x H1=>tb σ H1 fun y H2=>R x y H2) {Q:Value->Shared->Prop} {f:Value->Value->Sem Value}
  (hf:∀v u s2 x y H2,Inv X pins σ H2 s2->RelV x v->RelV y u->R x y H2->wpAny (model X.prog X.w) X.A (f v u) Q X.xe s2) :
  wpAny (model X.prog X.w) X.A (eval a X.env) (fun v s₁=>wpAny (model X.prog X.w) X.A (eval b X.env) (fun u s₂=>wpAny (model X.prog X.w) X.A (f v u) Q X.xe s₂) X.xe s₁) X.xe s:=by
 refine thn (ha pins s σ H _ I h) fun v s1 hz9=>?_
 obtain⟨x,H1,I1,r1,q1⟩:=hz9
 refine thn (hb pins s1 σ H1 _ I1 q1) fun u s2 hz9=>?_
 obtain⟨y,H2,I2,r2,q2⟩:=hz9
 exact hf v u s2 x y H2 I2 r1 r2 q2
theorem aR {op:Operator}{r:R2}(ho:OpR X (binaryOp op) r)(ha:PE X a ta)(hb:PE X b tb):PE X (.BinOp a op b pos) (tOp r ta tb):=by
 intro pins s σ H Q I h
 exact wpAny_BinOp (b4I ha hb I h fun v u s2 x y H2 I2 rx ry q=>ho pins s2 σ H2 x y v u Q I2 rx ry q)
theorem yX {op:UnaryOp}{r:V->Hp->VK->Prop}(ho:UnR X (unaryOp op) r)(ha:PE X a ta):PE X (.UnaryOp op a pos) (tUn r ta):=by
 intro pins s σ H Q I h
 exact UnaryOp_ (thn (ha pins s σ H _ I h) fun v s1 ⟨x,H1,I1,r1,q1⟩=>ho pins s1 σ H1 x v Q I1 r1 q1)
theorem opI {f:Value->Value->Sem Value}{C:Int->Int->Prop}{g:Int->Int->Int}
  (rule:∀(i j:Int)(t u:Tok)(s:Shared)(Q:Value->Shared->Prop)(E:Value->Shared->Prop),C i j->Q (.int (g i j) s.toks) { s with toks:=s.toks+1 }->wpAny (model X.prog X.w) X.A (f (.int i t) (.int j u)) Q E s) :
  OpR X f (rI C fun i j=> .int (g i j)):=by
 intro pins s σ H x y v u Q I rx ry h
 obtain⟨i,j,rfl,rfl,hc,q⟩:=h
 obtain⟨t,rfl⟩:=rx
 obtain⟨t',rfl⟩:=ry
 exact rule i j t t' s _ _ hc ⟨.int (g i j),H,I.tok _,⟨_,rfl⟩,q⟩
theorem a8V {f:Value->Value->Sem Value}{g:Int->Int->Int}
  (rule:∀(i j:Int)(t u:Tok)(s:Shared)(Q:Value->Shared->Prop)(E:Value->Shared->Prop),Q (.int (g i j) s.toks) { s with toks:=s.toks+1 }->wpAny (model X.prog X.w) X.A (f (.int i t) (.int j u)) Q E s) :
  OpR X f (rI0 fun i j=> .int (g i j)):=by
 intro pins s σ H x y v u Q I rx ry h
 obtain⟨i,j,rfl,rfl,q⟩:=h
 obtain⟨t,rfl⟩:=rx
 obtain⟨t',rfl⟩:=ry
 exact rule i j t t' s _ _ ⟨.int (g i j),H,I.tok _,⟨_,rfl⟩,q⟩
theorem a8W {f:Value->Value->Sem Value}{g:Int->Int->Bool}
  (rule:∀(i j:Int)(t u:Tok)(s:Shared)(Q:Value->Shared->Prop)(E:Value->Shared->Prop),Q (.bool (g i j)) s->wpAny (model X.prog X.w) X.A (f (.int i t) (.int j u)) Q E s) :
  OpR X f (rI0 fun i j=> .bl (g i j)):=by
 intro pins s σ H x y v u Q I rx ry h
 obtain⟨i,j,rfl,rfl,q⟩:=h
 obtain⟨t,rfl⟩:=rx
 obtain⟨t',rfl⟩:=ry
 exact rule i j t t' s _ _ ⟨.bl (g i j),H,I,rfl,q⟩
def b7F (i j:Int):Prop:=0<j/\j<1073741824
theorem wK (k:Nat):(0:Int)<=2 ^ k:=by
 rw[two_pow_cast]
 exact Int.natCast_nonneg _
theorem b2U:OpR X (binaryOp .Add) (rI0 fun i j=> .int (i+j)):=a8V fun _ _ _ _ _ _ _ q=>add_int q
theorem b2N:OpR X (binaryOp .Sub) (rI0 fun i j=> .int (i-j)):=a8V fun _ _ _ _ _ _ _ q=>sub_int q
theorem a8U:OpR X (binaryOp .FloorDiv) (rI b7F fun i j=> .int (i / j)):=opI fun i j _ _ _ _ _ hc q=>by
 have h1:(0:Int)<j:=hc.1
 have h2:j<1073741824:=hc.2
 exact floordiv_int (by omega) (by rw[Int.fdiv_eq_ediv_of_nonneg i (by omega)];exact q) (.inl (PyProof.noPylong_small (by omega)))
theorem b2Q:OpR X (binaryOp .Mod) (rI (fun _ j=>0<j) fun i j=> .int (i % j)):=opI fun i j _ _ _ _ _ hc q=>by
 have h1:(0:Int)<j:=hc
 exact mod_int' (by omega) (by rw[Int.fmod_eq_emod_of_nonneg i (by omega)];exact q)
theorem b2O:OpR X (binaryOp .RShift) (rI (fun _ j=>0<=j) fun i j=> .int (i / 2 ^ j.toNat)):=opI fun i j _ _ _ _ _ hc q=>
 rshift_int hc (by rw[Int.fdiv_eq_ediv_of_nonneg i (wK _)];exact q)
theorem b2T:OpR X (binaryOp .BitAnd) (rI0 fun i j=> .int (Builtin.bitAnd i j)):=a8V fun _ _ _ _ _ _ _ q=>and_int q
theorem b2M:OpR X (binaryOp .BitXor) (rI0 fun i j=> .int (Builtin.bitXor i j)):=a8V fun _ _ _ _ _ _ _ q=>xor_int q
theorem unI {f:Value->Sem Value}{g:Int->Int}
  (rule:∀(i:Int)(t:Tok)(s:Shared)(Q:Value->Shared->Prop)(E:Value->Shared->Prop),Q (.int (g i) s.toks) { s with toks:=s.toks+1 }->wpAny (model X.prog X.w) X.A (f (.int i t)) Q E s) :
  UnR X f (rU fun i=> .int (g i)):=by
 intro pins s σ H x v Q I rx h
 obtain⟨i,rfl,q⟩:=h
 obtain⟨t,rfl⟩:=rx
 exact rule i t s _ _ ⟨.int (g i),H,I.tok _,⟨_,rfl⟩,q⟩
theorem b1E:UnR X (unaryOp .USub) (rU fun i=> .int (-i)):=unI fun _ _ _ _ _ q=>neg_int q
end
def b1Y:V->V->Bool
 |.non,.non=>true | .non,.int _=>true | .int _,.non=>true | .non,.bl _=>true | .bl _,.non=>true | .non,.str _=>true | .str _,.non=>true
 |.int _,.int _=>true | .bl _,.bl _=>true | .str _,.str _=>true | .byt _,.byt _=>true
 |.int _,.str _=>true | .str _,.int _=>true | .bl _,.str _=>true | .str _,.bl _=>true
 |_,_=>false
def rEq:R2:=fun x y H Q=>b1Y x y=true/\Q (.bl (decide (x=y))) H
def rNe:R2:=fun x y H Q=>b1Y x y=true/\Q (.bl (!decide (x=y))) H
theorem a0B {i j:Int}:decide (V.int i=V.int j)=(i == j):=by
 rw[X9]
 simp
theorem a6I {i j:Bool}:decide (V.bl i=V.bl j)=(i == j):=by
 rw[X9]
 simp
theorem a0A {i j:Str}:decide (V.str i=V.str j)=(i == j):=by
 rw[X9]
 simp
theorem a0C {i j:Array UInt8}:decide (V.byt i=V.byt j)=(i.toList == j.toList):=by
 rw[X9]
 cases i
 cases j
 simp
section
variable {X:Cx}{a b c:Expr}{ta tb tc:TE}{pos:Pos}
theorem bZ {pins:List (Addr×Obj)}{σ:St}{H:Hp}{s:Shared}{Q:VK}{k k':Bool}(I:Inv X pins σ H s)(q:Q (.bl k) H)(e:k=k'):EP X pins σ Q (.bool k') s:=by
 subst e
 exact⟨.bl k,H,I,rfl,q⟩
theorem b5Q:OpR X (compareOp .Eq) rEq:=by
 intro pins s σ H x y v u Q I rx ry h
 obtain⟨hs,q⟩:=h
 cases x with
 | non=>
  cases rx
  cases y with
  |non=>cases ry;exact PySem.EqNone.eq_none_none (bZ I q (by simp))
  |bl j=>cases ry;exact PySem.EqNone.eq_none_bool (bZ I q (by simp))
  |int j=>obtain⟨t',rfl⟩:=ry;exact PySem.EqNone.eq_none_int (bZ I q (by simp))
  |str j=>obtain⟨t',rfl⟩:=ry;exact PySem.EqNone.eq_none_str (bZ I q (by simp))
  |_=>exact absurd (show false=true from hs) Yt
 | bl i=>
  cases rx
  cases y with
  |non=>cases ry;exact PySem.EqNone.eq_bool_none (bZ I q (by simp))
  |bl j=>cases ry;exact eq_bool (bZ I q a6I)
  |str j=>obtain⟨t',rfl⟩:=ry;exact PySem.EqMixed.eq_bool_str (bZ I q (by simp))
  |_=>exact absurd (show false=true from hs) Yt
 | int i=>
  obtain⟨t,rfl⟩:=rx
  cases y with
  |non=>cases ry;exact PySem.EqNone.eq_int_none (bZ I q (by simp))
  |int j=>obtain⟨t',rfl⟩:=ry;exact eq_int (bZ I q a0B)
  |str j=>obtain⟨t',rfl⟩:=ry;exact PySem.EqMixed.eq_int_str (bZ I q (by simp))
  |_=>exact absurd (show false=true from hs) Yt
 | str i=>
  obtain⟨t,rfl⟩:=rx
  cases y with
  |non=>cases ry;exact PySem.EqNone.eq_str_none (bZ I q (by simp))
  |bl j=>cases ry;exact PySem.EqMixed.eq_str_bool (bZ I q (by simp))
  |int j=>obtain⟨t',rfl⟩:=ry;exact PySem.EqMixed.eq_str_int (bZ I q (by simp))
  |str j=>obtain⟨t',rfl⟩:=ry;exact eq_str (bZ I q a0A)
  |_=>exact absurd (show false=true from hs) Yt
 | byt i=>
  obtain⟨t,rfl⟩:=rx
  cases y with
  |byt j=>obtain⟨t',rfl⟩:=ry;exact W.eq_bytes (bZ I q a0C)
  |_=>exact absurd (show false=true from hs) Yt
 |_=>cases y <;> exact absurd (show false=true from hs) Yt
theorem b5L:OpR X (compareOp .NotEq) rNe:=by
 intro pins s σ H x y v u Q I rx ry h
 obtain⟨hs,q⟩:=h
 cases x with
 | non=>
  cases rx
  cases y with
  |non=>cases ry;exact PySem.EqNone.ne_none_none (bZ I q (by simp))
  |bl j=>cases ry;exact PySem.EqNone.ne_none_bool (bZ I q (by simp))
  |int j=>obtain⟨t',rfl⟩:=ry;exact PySem.EqNone.ne_none_int (bZ I q (by simp))
  |str j=>obtain⟨t',rfl⟩:=ry;exact PySem.EqNone.ne_none_str (bZ I q (by simp))
  |_=>exact absurd (show false=true from hs) Yt
 | bl i=>
  cases rx
  cases y with
  |non=>cases ry;exact PySem.EqNone.ne_bool_none (bZ I q (by simp))
  |bl j=>cases ry;exact ne_bool (bZ I q (YT not a6I))
  |str j=>obtain⟨t',rfl⟩:=ry;exact PySem.EqMixed.ne_bool_str (bZ I q (by simp))
  |_=>exact absurd (show false=true from hs) Yt
 | int i=>
  obtain⟨t,rfl⟩:=rx
  cases y with
  |non=>cases ry;exact PySem.EqNone.ne_int_none (bZ I q (by simp))
  |int j=>obtain⟨t',rfl⟩:=ry;exact ne_int (bZ I q (YT not a0B))
  |str j=>obtain⟨t',rfl⟩:=ry;exact PySem.EqMixed.ne_int_str (bZ I q (by simp))
  |_=>exact absurd (show false=true from hs) Yt
 | str i=>
  obtain⟨t,rfl⟩:=rx
  cases y with
  |non=>cases ry;exact PySem.EqNone.ne_str_none (bZ I q (by simp))
  |bl j=>cases ry;exact PySem.EqMixed.ne_str_bool (bZ I q (by simp))
  |int j=>obtain⟨t',rfl⟩:=ry;exact PySem.EqMixed.ne_str_int (bZ I q (by simp))
  |str j=>obtain⟨t',rfl⟩:=ry;exact ne_str (bZ I q (YT not a0A))
  |_=>exact absurd (show false=true from hs) Yt
 | byt i=>
  obtain⟨t,rfl⟩:=rx
  cases y with
  |byt j=>obtain⟨t',rfl⟩:=ry;exact W.ne_bytes (bZ I q (YT not a0C))
  |_=>exact absurd (show false=true from hs) Yt
 |_=>cases y <;> exact absurd (show false=true from hs) Yt
theorem b5M:OpR X (compareOp .Lt) (rI0 fun i j=> .bl (decide (i<j))):=a8W fun _ _ _ _ _ _ _ q=>lt_int q
theorem b5N:OpR X (compareOp .LtE) (rI0 fun i j=> .bl (decide (i<=j))):=a8W fun _ _ _ _ _ _ _ q=>le_int q
theorem b5O:OpR X (compareOp .Gt) (rI0 fun i j=> .bl (decide (j<i))):=a8W fun _ _ _ _ _ _ _ q=>gt_int q
theorem b5P:OpR X (compareOp .GtE) (rI0 fun i j=> .bl (decide (j<=i))):=a8W fun _ _ _ _ _ _ _ q=>ge_int q
theorem b2R:OpR X (compareOp .Is) (fun x y H Q=>y= .non/\Q (.bl (decide (x= .non))) H):=by
 intro pins s σ H x y v u Q I rx ry h
 obtain⟨rfl,q⟩:=h
 cases ry
 refine is_none_gen (bZ I q ?_)
 cases x <;> first
  |(cases rx;rfl)
  |(obtain⟨t,rfl⟩:=rx;rfl)
theorem aV (b:Expr){op:CmpOp}(h:op≠ .In:=by decide)(h2:op≠ .NotIn:=by decide):behindInMarks op b=false:=by
 have e1:(op == CmpOp.In)=false:=by cases op <;> first | rfl | exact absurd rfl h
 have e2:(op == CmpOp.NotIn)=false:=by cases op <;> first | rfl | exact absurd rfl h2
 cases b <;> simp[behindInMarks,e1,e2]
theorem eO {op:CmpOp}{r:R2}(ho:OpR X (compareOp op) r)(ha:PE X a ta)(hb:PE X b tb)(hm:behindInMarks op b=false):PE X (.Compare a [op] [b] pos) (tOp r ta tb):=by
 intro pins s σ H Q I h
 exact wpAny_Compare1 (b4I ha hb I h fun v u s2 x y H2 I2 rx ry q=>ho pins s2 σ H2 x y v u Q I2 rx ry q) hm
def yR (t:TE):TT:=fun σ H Q=>t σ H fun x H'=>∃k,x= .bl k/\Q k H'
theorem a8D {op:CmpOp}{r:R2}(ho:OpR X (compareOp op) r)(ha:PE X a ta)(hb:PE X b tb)(hm:behindInMarks op b=false):PT X (.Compare a [op] [b] pos) (yR (tOp r ta tb)):=by
 intro pins s σ H Q I h
 refine wpAny_isTrue_Compare1 (thn (ha pins s σ H _ I h) fun v s1 ⟨x,H1,I1,r1,q1⟩=>thn (hb pins s1 σ H1 _ I1 q1) fun u s2 ⟨y,H2,I2,r2,q2⟩=>
  thn (ho pins s2 σ H2 x y v u _ I2 r1 r2 q2) fun c s3 ⟨z,H3,I3,r3,k,e,q3⟩=>?_) hm
 subst e
 cases r3
 exact Xc ⟨H3,I3,q3⟩
def tH (r r':R2)(ta tb tc:TE):TE:=fun σ H Q=>ta σ H fun x H1=>tb σ H1 fun y H2=>r x y H2 fun z H3=>∃k,z= .bl k/\
 (if k=true then tc σ H3 fun w' H4=>r' y w' H4 Q else Q (.bl false) H3)
theorem a4W {op op':CmpOp}{r r':R2}(ho:OpR X (compareOp op) r)(ho':OpR X (compareOp op') r')(ha:PE X a ta)(hb:PE X b tb)(hc:PE X c tc)
  (hm:lastMarks [op,op'] [b,c]=false:=by with_unfolding_all rfl):PE X (.Compare a [op,op'] [b,c] pos) (tH r r' ta tb tc):=by
 intro pins s σ H Q I h
 refine Compare_chain (thn (ha pins s σ H _ I h) fun v s1 ⟨x,H1,I1,r1,q1⟩=>chain_link (thn (hb pins s1 σ H1 _ I1 q1) fun u s2 ⟨y,H2,I2,r2,q2⟩=>
  thn (ho pins s2 σ H2 x y v u _ I2 r1 r2 q2) fun d s3 ⟨z,H3,I3,r3,k,e,q3⟩=>?_)) hm
 subst e
 cases r3
 refine Xc ?_
 cases k with
 |false=>exact ite_ff ⟨.bl false,H3,I3,rfl,q3⟩
 |true=>exact ite_tt (chain_last (thn (hc pins s3 σ H3 _ I3 q3) fun w' s4 ⟨z',H4,I4,r4,q4⟩=>ho' pins s4 σ H4 y z' u w' Q I4 r2 r4 q4))
theorem a4L {op op':CmpOp}{r r':R2}(ho:OpR X (compareOp op) r)(ho':OpR X (compareOp op') r')(ha:PE X a ta)(hb:PE X b tb)(hc:PE X c tc)
  (hm:lastMarks [op,op'] [b,c]=false:=by with_unfolding_all rfl):PT X (.Compare a [op,op'] [b,c] pos) (yR (tH r r' ta tb tc)):=by
 intro pins s σ H Q I h
 refine isTrue_chain (thn (ha pins s σ H _ I h) fun v s1 ⟨x,H1,I1,r1,q1⟩=>test_link (thn (hb pins s1 σ H1 _ I1 q1) fun u s2 ⟨y,H2,I2,r2,q2⟩=>
  thn (ho pins s2 σ H2 x y v u _ I2 r1 r2 q2) fun d s3 ⟨z,H3,I3,r3,k,e,q3⟩=>?_)) hm
 subst e
 cases r3
 refine Xc ?_
 cases k with
 | false=>
  obtain⟨k',e',q'⟩:=q3
  cases e'
  exact ite_ff ⟨H3,I3,q'⟩
 | true=>
  refine ite_tt (test_last (thn (hc pins s3 σ H3 _ I3 q3) fun w' s4 ⟨z',H4,I4,r4,q4⟩=>thn (ho' pins s4 σ H4 y z' u w' _ I4 r2 r4 q4) fun d' s5 ⟨z2,H5,I5,r5,k2,e2,q5⟩=>?_))
  subst e2
  cases r5
  exact Xc ⟨H5,I5,q5⟩
theorem xM:(sizeLine:Nat)<2 ^ 63:=by rw[sizeLine_eq];decide
theorem vals1 {x:V}{us:List Value}(r:Vals [x] us):∃u,us= [u]/\RelV x u:=by
 cases r with
 |cons r1 r2=>cases r2;exact⟨_,rfl,r1⟩
theorem vals2 {x y:V}{us:List Value}(r:Vals [x,y] us):∃u w',us= [u,w']/\RelV x u/\RelV y w':=by
 cases r with
 | cons r1 r2=>
  cases r2 with
  |cons r3 r4=>cases r4;exact⟨_,_,rfl,r1,r3⟩
theorem a2H (hc:X.calm=true):fP X (.builtin "max") (fun xs H Q=>∃i j,xs= [.int i,.int j]/\Q (.int (if j > i then j else i)) H):=by
 intro pins s σ H xs us Q I r h
 obtain⟨i,j,rfl,q⟩:=h
 obtain⟨u,w',rfl,⟨t,rfl⟩,⟨t',rfl⟩⟩:=vals2 r
 refine max_two_ints (I.ok.hd hc) fun h' tk k=>⟨_,H,I.kept k,?_,q⟩
 by_cases hj:j > i
 ·rw[if_pos hj,if_pos hj];exact⟨_,rfl⟩
 ·rw[if_neg hj,if_neg hj];exact⟨_,rfl⟩
theorem a2I:fP X (.type "int") (fun xs H Q=>(∃i,xs= [.int i]/\Q (.int i) H)\/∃k,xs= [.bl k]/\Q (.int (if k then 1 else 0)) H):=by
 intro pins s σ H xs us Q I r h
 rcases h with ⟨i,rfl,q⟩ | ⟨k,rfl,q⟩
 ·obtain⟨u,rfl,t,rfl⟩:=vals1 r
  exact call_int_int ⟨.int i,H,I,⟨_,rfl⟩,q⟩
 ·obtain⟨u,rfl,r1⟩:=vals1 r
  cases r1
  exact call_int_bool ⟨.int (if k then 1 else 0),H,I.tok _,⟨_,rfl⟩,q⟩
end
end L2
namespace L2
open PySem PySem.Spec PyProof.Rows
structure yI (h:Heap)(x dx C:Addr)(mA:Str->Option Value):Prop where
 obj:h.get? x=some (W.instObj C dx)
 ns:h.Ns1 dx mA
 ne:dx≠x
theorem a1T {h:Heap}{dx:Addr}{mA:Str->Option Value}(n:h.Ns1 dx mA):∃od,h.get? dx=some od/\∀name,W.lookIn name od=some (mA name):=by
 obtain⟨o,es,ep,ho,hd,hk,_,hm⟩:=n
 refine⟨o,ho,fun name=>?_⟩
 have e:=hm name
 unfold nsFind findBy at e
 rw[<-Array.find?_toList]at e
 unfold W.lookIn
 rw[hd]
 dsimp only
 split
 ·rename_i y q
  rw[q]at e
  exact YT some e
 ·rename_i q
  rw[q]at e
  have a:es.toList.any (·.refKey)=false:=by
   rw[List.any_eq_false]
   intro y hy
   obtain⟨z,t,hkey⟩:=hk y (Array.mem_toList_iff.mp hy)
   simp[DictEntry.refKey,hkey]
  have a':¬ es.toList.any (·.refKey)=true:=by rw[a];exact Yt
  rw[if_neg a']
  exact YT some e
theorem yI.look {h:Heap}{x dx C:Addr}{mA:Str->Option Value}(I:yI h x dx C mA):∃od,W.InstAt h x (W.instObj C dx) C (some od)/\∀name,W.lookIn name od=some (mA name):=
 let ⟨od,ho,hl⟩:=a1T I.ns
 ⟨od,⟨I.obj,rfl,rfl,ho⟩,hl⟩
section
variable {prog:Program}{w:World}{A:Around}{E:Value->Shared->Prop}{s:Shared}{K:W.Frag}{x dx C f:Addr}{mA:Str->Option Value}{name:Str}{v:Value}
theorem a9G {expr:Bool}{Q:Value->Shared->Prop}(X:K.In s.heap)(I:yI s.heap x dx C mA)(hg:W.plainGet K C name=true)(hh:W.hasDictIn K C=true)
  (ha:W.findIn K (.ref C) name=some none) (hv:mA name=some v) (hv':W.handedIn v=true) (h:Q v { s with toks:=s.toks+1 }) :
  wpAny (model prog w) A (getAttr (.ref x) name expr) Q E s:=by
 obtain⟨od,J,hl⟩:=I.look
 exact W.get_value X J (W.plainGet_of hg).1 (W.findObj_own hh ha rfl (by rw[hl,hv])) hv' h
theorem a6A {pl:Sem Bool}{Q:Value×List Value->Shared->Prop}(X:K.In s.heap)(I:yI s.heap x dx C mA)(hg:W.plainGet K C name=true)
  (hf:W.findIn K (.ref C) name=some (some (.ref f))) (ht:W.isFn K (.ref f)=true) (hv:mA name=none) (h:Q (.ref f, [.ref x]) s) :
  wpAny (model prog w) A (getMethod (.ref x) name pl) Q E s:=by
 obtain⟨od,J,hl⟩:=I.look
 exact W.method_fn X J (W.plainGet_of hg).1 (W.plainGet_of hg).2 hf (XV.mp ht) (by show (W.lookIn name od).map (·.isSome)=some false;rw[hl,hv];rfl) h
theorem a7X {ns:List Str}{Q:Unit->Shared->Prop}(X:K.In s.heap)(I:yI s.heap x dx C mA)
  (hs:W.findIn K (.ref C) "__setattr__"=some (some (.builtin "object.__setattr__"))) (hp:W.plainOver K C=true) (ht:W.takerIn K C name=some none) (hh:W.hasDictIn K C=true)
  (hw:PySem.Within mA ns) (hsz:ns.length<=sizeLine)
  (h:∀h',yI h' x dx C (fun y=>if y=name then some v else mA y)->Heap.SameBut dx s.heap h'->Q () { s with heap:=h',toks:=s.toks+2 }) :
  wpAny (model prog w) A (setAttr (.ref x) name v) Q E s:=by
 obtain⟨od,J,hl⟩:=I.look
 refine W.set_plain X J hs (W.osa_open (s:={ s with toks:=s.toks+1 }) (r:=none) X J hp ht fun b=>?_)
 obtain⟨cd,hc,hd'⟩:=W.any_some hh
 have hx:s.heap.get? x=some ⟨.ref C,some dx,.plain, #[]⟩:=I.obj
 refine YH (Xa (YH (YH (wpAny_loadPart hx (YH (W.Looks.here (s:={ s with toks:=s.toks+1 }) (W.looks_clsIn X hc) ?_))))))
 rw[hd']
 refine Xa (a:=some dx) (YH (Xa (YH ?_)))
 refine wpAny_nsSet1 (s:={ s with toks:=s.toks+1 }) I.ns fun h' hn2 hs2=>?_
 obtain⟨oD,esD,epD,hoD,hdD,hcD⟩:=hn2.count (PySem.Within.cons name v hw)
 refine YH (wpAny_lookBehind hoD (by rw[hdD];exact pastItsLine_dict (Y0 hcD (by rw[YN];omega))) ?_)
 exact Xa (h _ ⟨(hs2.2 _ (Ne.symm I.ne)).trans I.obj,hn2,I.ne⟩ hs2)
theorem a5K {R:Result->Shared->Prop}{vs:List Value}{kw:List (Str×Value)}(X:K.In s.heap)(hm:W.makesIn K C=true)
  (hi:W.findIn K (.ref C) "__init__"=some (some (.ref f))) (hf:W.typeIn K (.ref f)=some (.type "function"))
  (h :codeAny (model prog w) (A.under (.builtin "type.__call__" ⟨.ref C::vs,kw⟩)) (.call (.ref f) ⟨.ref (s.heap.objs.size+1)::vs,kw⟩) (W.InitBack (s.heap.objs.size+1) R)
   { s with heap:=(s.heap.push W.emptyDict).push (W.instObj C s.heap.objs.size) }) :
  codeAny (model prog w) A (.call (.ref C) ⟨vs,kw⟩) R s:=by
 obtain⟨hh,g,d,t,os⟩:=s
 exact W.make_core (W.makes_of X hm) (W.looks_findIn X hi) (fun self=>W.bind_fn X self hf) (.inl rfl) h
theorem a1P {R:Result->Shared->Prop}(X:K.In s.heap)(hm:W.makesIn K C=true)
  (hi:W.findIn K (.ref C) "__init__"=some (some (.builtin "object.__init__")))
  (hb:∀self,W.Looks (model prog w) s.heap (bindSpecial (.builtin "object.__init__") self) (.builtin "object.__init__", [self]))
  (h :codeAny (model prog w) (A.under (.builtin "type.__call__" ⟨[.ref C], []⟩)) (.call (.builtin "object.__init__") ⟨[.ref (s.heap.objs.size+1)], []⟩) (W.InitBack (s.heap.objs.size+1) R)
   { s with heap:=(s.heap.push W.emptyDict).push (W.instObj C s.heap.objs.size) }) :
  codeAny (model prog w) A (.call (.ref C) ⟨[], []⟩) R s:=by
 obtain⟨hh,g,d,t,os⟩:=s
 exact W.make_core (W.makes_of X hm) (W.looks_findIn X hi) hb (.inr ⟨rfl,rfl⟩) h
end
def fJ (f:Str)(v:V):List (Str×V)->List (Str×V)
 |[]=>[(f,v)]
 |(g,x)::r=>if g=f then (g,v)::r else (g,x)::fJ f v r
theorem oE (f g:Str)(v:V):∀fs:List (Str×V),(fJ f v fs).lookup g=if g=f then some v else fs.lookup g
 | [] =>by
  show List.lookup g [(f,v)]=_
  by_cases h:g=f
  ·have hb:(g == f)=true:=XV.mpr h
   simp only[List.lookup,hb,if_pos h]
  ·have hb:(g == f)=false:=Xm.mpr h
   simp only[List.lookup,hb,if_neg h]
 | (k, x)::r=>by
  have ih:=oE f g v r
  rw[show fJ f v ((k,x)::r)=(if k=f then (k,v)::r else (k,x)::fJ f v r) from rfl]
  by_cases hk:k=f
  ·rw [if_pos hk]
   by_cases h:g=k
   ·have hb:(g == k)=true:=XV.mpr h
    simp only[List.lookup,hb,if_pos (h.trans hk)]
   ·have hb:(g == k)=false:=Xm.mpr h
    simp only[List.lookup,hb,if_neg (fun e:g=f=>h (e.trans hk.symm))]
  ·rw [if_neg hk]
   by_cases h:g=k
   ·have hb:(g == k)=true:=XV.mpr h
    simp only[List.lookup,hb,if_neg (fun e:g=f=>hk (h.symm.trans e))]
   ·have hb:(g == k)=false:=Xm.mpr h
    simp only[List.lookup,hb]
    exact ih
theorem nQ (f:Str)(v:V):∀fs:List (Str×V),f∈(fJ f v fs).map (·.1)/\∀g,g∈fs.map (·.1)->g∈(fJ f v fs).map (·.1)
 |[]=>⟨by simp[fJ],fun g h=>by simp at h⟩
 | (k, x)::r=>by
  obtain⟨i1,i2⟩:=nQ f v r
  rw[show fJ f v ((k,x)::r)=(if k=f then (k,v)::r else (k,x)::fJ f v r) from rfl]
  by_cases hk:k=f
  ·rw[if_pos hk]
   subst hk
   exact⟨by simp,fun g h=>by simpa using h⟩
  ·rw [if_neg hk]
   refine⟨?_,fun g h=>?_⟩
   ·rw[YS]
    exact Ys _ i1
   ·rw[YS]at h ⊢
    rcases YE.mp h with e | e
    ·exact YE.mpr (.inl e)
    ·exact Ys _ (i2 g e)
theorem oG (f:Str)(v:V):∀fs:List (Str×V),(fJ f v fs).length<=fs.length+1
 |[]=>by simp[fJ]
 | (k,x)::r=>by
  have ih:=oG f v r
  rw[show fJ f v ((k,x)::r)=(if k=f then (k,v)::r else (k,x)::fJ f v r) from rfl]
  by_cases hk:k=f
  ·rw[if_pos hk,YN,YN];omega
  ·rw[if_neg hk,YN,YN];omega
theorem lH.some_of {v:V}{o:Option Value}(r:lH (some v) o):∃u,o=some u/\RelV v u:=by
 cases o with
 |none=>exact(show False from r).elim
 |some u=>exact⟨u,rfl,r⟩
theorem lH.none_of {o:Option Value}(r:lH none o):o=none:=by
 cases o with
 |none=>rfl
 |some u=>exact(show False from r).elim
theorem a2B {v:V}{u:Value}(r:RelV v u):W.handedIn u=true:=by
 cases v with
 |non=>cases (show u=Value.none from r);rfl
 |bl b=>cases (show u=Value.bool b from r);rfl
 |int i=>obtain⟨t,e⟩:=(show ∃t,u=Value.int i t from r);cases e;rfl
 |str x=>obtain⟨t,e⟩:=(show ∃t,u=Value.str x t from r);cases e;rfl
 |byt b=>obtain⟨t,e⟩:=(show ∃t,u=Value.bytes b t from r);cases e;rfl
 |flt b=>obtain⟨t,e⟩:=(show ∃t,u=Value.float b t from r);cases e;rfl
 |ref a=>cases (show u=Value.ref a from r);rfl
 |ty n=>cases (show u=Value.type n from r);rfl
section
variable {P:Program}{w:World}{H H':Hp}{h h':Heap}{a C dx:Addr}{fs fs':List (Str×V)}
theorem pD (hok:HOk P w H h)(e:H a=some (.ins C dx fs)):∃mA,yI h a dx C mA/\(∀f,lH (fs.lookup f) (mA f))/\PySem.Within mA (fs.map (·.1))/\fs.length<=1000/\H dx=some (.own a):=by
 obtain⟨d,z,ne,ob,mA,n,r,q⟩:=(show dG P w H h a (.ins C dx fs) from hok a _ e)
 exact⟨mA,⟨ob,n,ne⟩,r,q,z,d⟩
end
structure Cls (K:W.Frag)(C:Addr):Prop where
 pg:W.plainGet K C Str.empty=true
 hd:W.hasDictIn K C=true
 po:W.plainOver K C=true
 sa:W.findIn K (.ref C) "__setattr__"=some (some (.builtin "object.__setattr__"))
theorem Cls.get {K:W.Frag}{C:Addr}(c:Cls K C)(f:Str):W.plainGet K C f=true:=c.pg
def bJ (K:W.Frag)(C:Addr)(f:Str):Prop:=W.findIn K (.ref C) f=some none
theorem bJ.taker {K:W.Frag}{C:Addr}{f:Str}(n:bJ K C f):W.takerIn K C f=some none:=by
 unfold W.takerIn
 rw[show W.findIn K (.ref C) f=some none from n]
 rfl
structure Con (K:W.Frag)(C:Addr)(f:Str)(v:V)(u:Value):Prop where
 at_:W.findIn K (.ref C) f=some (some u)
 rel:RelV v u
 get:W.specialIn K u "__get__"=some none
 cp:W.copiedNames.contains f=false
structure Meth (K:W.Frag)(C:Addr)(m:Str)(f:Addr):Prop where
 at_:W.findIn K (.ref C) m=some (some (.ref f))
 fn:W.isFn K (.ref f)=true
 kp:W.keepIn K (.ref f)=true
section
variable {X:Cx}{pins:List (Addr×Obj)}{σ:St}{H:Hp}{s:Shared}{a C dx:Addr}{fs:List (Str×V)}{f:Str}{v:V}{A:Around}{E:Value->Shared->Prop}
theorem xV {b:Bool}{Q:Value->Shared->Prop}(I:Inv X pins σ H s)(e:H a=some (.ins C dx fs))(c:Cls X.K C)(n:bJ X.K C f)(l:fs.lookup f=some v)
  (h:∀u s',Inv X pins σ H s'->RelV v u->Q u s'):wpAny (model X.prog X.w) A (getAttr (.ref a) f b) Q E s:=by
 obtain⟨mA,O,r,_,_,_⟩:=pD I.hok e
 obtain⟨u,hu,ru⟩:=lH.some_of (v:=v) (o:=mA f) (by rw[<-l];exact r f)
 exact a9G I.kIn O (c.get f) c.hd n hu (a2B ru) (h u _ (I.tok _) ru)
theorem fU {m:Str}{g:Addr}{pl:Sem Bool}{Q:Value×List Value->Shared->Prop}(I:Inv X pins σ H s)(e:H a=some (.ins C dx fs))(c:Cls X.K C)(k:Meth X.K C m g)(l:fs.lookup m=none)
  (h:Q (.ref g, [.ref a]) s):wpAny (model X.prog X.w) A (getMethod (.ref a) m pl) Q E s:=by
 obtain⟨mA,O,r,_,_,_⟩:=pD I.hok e
 have hn:mA m=none:=lH.none_of (by rw[<-l];exact r m)
 exact a6A I.kIn O (c.get m) k.at_ k.fn hn h
theorem xF {y:V}{u:Value}{Q:Unit->Shared->Prop}(I:Inv X pins σ H s)(e:H a=some (.ins C dx fs))(c:Cls X.K C)(n:bJ X.K C f)(hl:fs.length<1000)(ry:RelV y u)
  (h:∀s',Inv X pins σ (upd H a (.ins C dx (fJ f y fs))) s'->Q () s'):wpAny (model X.prog X.w) A (setAttr (.ref a) f u) Q E s:=by
 obtain⟨mA,O,r,wi,_,ho⟩:=pD I.hok e
 have hz:(fs.map (·.1)).length<=sizeLine:=by rw[Ya,sizeLine_eq];omega
 refine a7X I.kIn O c.sa c.po n.taker c.hd wi hz fun h' O' sb=>h _ ?_
 have hd:∃o,h'.get? dx=some o:=let ⟨o,_,_,e',_⟩:=O'.ns;⟨o,e'⟩
 refine I.write (x:=a) (e:=dx) (by rw[e];exact True.intro) (.inr ho) (fun b q hb z=>(sb.2 b hb).trans z) hd ?_
 refine⟨by rw[aK O.ne];exact ho,?_,O.ne,O'.obj,_,O'.ns,fun g=>?_,fun g hg=>?_⟩
 ·have:=oG f y fs;omega
 ·show lH ((fJ f y fs).lookup g) (if g=f then some u else mA g)
  rw[oE]
  by_cases q:g=f
  ·rw[if_pos q,if_pos q];exact ry
  ·rw[if_neg q,if_neg q];exact r g
 ·by_cases q:g=f
  ·rw[q];exact(nQ f y fs).1
  ·refine(nQ f y fs).2 g (wi g fun z=>hg ?_)
   show (if g=f then some u else mA g)=none
   rw[if_neg q];exact z
theorem Inv.made (I:Inv X pins σ H s):Inv X pins σ (upd (upd H s.heap.objs.size (.own (s.heap.objs.size+1))) (s.heap.objs.size+1) (.ins C s.heap.objs.size []))
  { s with heap:=(s.heap.push W.emptyDict).push (W.instObj C s.heap.objs.size) }:=by
 have e1:(s.heap.push W.emptyDict).get? s.heap.objs.size=some W.emptyDict:=YB s.heap rfl
 have e2:((s.heap.push W.emptyDict).push (W.instObj C s.heap.objs.size)).get? (s.heap.objs.size+1)=some (W.instObj C s.heap.objs.size):=by
  have:=YB (s.heap.push W.emptyDict) (o:=W.instObj C s.heap.objs.size) rfl
  rwa [Heap.size_push]at this
 have e3:(s.heap.push W.emptyDict).Ns s.heap.objs.size (fun _=>none):=⟨W.emptyDict, #[],_,e1,rfl,(fun e he=>absurd he (by simp)),fun _=>rfl⟩
 have I1:=I.laid (a:=s.heap.objs.size) (o:= .own (s.heap.objs.size+1)) (h':=s.heap.push W.emptyDict) (t':=s.toks) (fun b u q=>Yk _ q) (Yd _) ⟨_,e1⟩
 refine I1.laid (a:=s.heap.objs.size+1) (o:= .ins C s.heap.objs.size []) (t':=s.toks) (fun b u q=>Yk _ q) (Nat.le_of_eq (Heap.size_push _ _)) ?_
 have ne:s.heap.objs.size≠s.heap.objs.size+1:=YJ (X2 _)
 refine⟨by rw[aK ne,aB],Xs _,ne,e2,fun _=>none,(Heap.Ns1.of_empty e3).at fun o q=>Yk _ q,fun _=>True.intro,fun y hy=>absurd rfl hy⟩
theorem a9T {prog:Program}{w:World}{env:Env}{e:Expr}{f:Str}{pos:Pos}{s:Shared}{Q:Value->Shared->Prop}(hb:attributeBase e f env (eval e env)=eval e env)
  (h:wpAny (model prog w) A (eval e env) (fun o s₁=>wpAny (model prog w) A (getAttr o f true) Q E s₁) E s):wpAny (model prog w) A (eval (.Attribute e f pos) env) Q E s:=
 Attribute_any_ h (by rw[arm_eval_Attribute,hb])
end
def b7R (K:W.Frag)(ta:TE)(f:Str):TE:=fun σ H Q=>ta σ H fun x H1=>∃a C dx fs v,x= .ref a/\H1 a=some (.ins C dx fs)/\Cls K C/\bJ K C f/\fs.lookup f=some v/\Q v H1
def b7W (K:W.Frag)(ta tv:TE)(f:Str):TS:=fun D σ H=>tv σ H fun y H1=>ta σ H1 fun x H2=>∃a C dx fs,x= .ref a/\H2 a=some (.ins C dx fs)/\Cls K C/\bJ K C f/\fs.length<1000/\
 D.nx σ (upd H2 a (.ins C dx (fJ f y fs)))
section
variable {X:Cx}{o e value:Expr}{f:Str}{pos pos' tpos:Pos}{ta tv:TE}
theorem a4T (he:PE X e ta)(hb:attributeBase e f X.env (eval e X.env)=eval e X.env):PE X (.Attribute e f pos) (b7R X.K ta f):=by
 intro pins s σ H Q I h
 refine a9T hb (thn (he pins s σ H _ I h) fun u s1 hz9=>?_)
 obtain⟨x,H1,I1,rx,a,C,dx,fs,v,ex,ea,c,n,l,q⟩:=hz9
 subst ex
 obtain rfl:u=Value.ref a:=rx
 exact xV I1 ea c n l fun u' s2 I2 ru=>⟨v,H1,I2,ru,q⟩
theorem a4N (ha:PE X o ta)(hv:PE X value tv)(hs:swapsWith value (some (.Attribute o f pos')) pos.line X.env=pure false):PS X (.Assign [.Attribute o f pos'] value pos) (b7W X.K ta tv f):=by
 intro pins s σ H D I h
 refine plainObj_wpAny_Assign_Attribute (thn (hv pins s σ H _ I h) fun u s1 ⟨y,H1,I1,ry,q⟩=>thn (ha pins s1 σ H1 _ I1 q) fun ov s2 ⟨x,H2,I2,rx,a,C,dx,fs,ex,ea,c,n,l,q2⟩=>?_) hs
 subst ex
 obtain rfl:ov=Value.ref a:=rx
 exact xF I2 ea c n l ry fun s3 I3=>⟨σ,_,I3,q2⟩
theorem b0P {pl:Sem Bool}{m:Str}{apos:Pos}{args:List Expr}{pins:List (Addr×Obj)}{s:Shared}{σ:St}{H:Hp}{Q:Value->Shared->Prop}{te:TE}(he:PE X e te)(I:Inv X pins σ H s)
  (h :te σ H fun x H1=>∃a C dx fs g,x= .ref a/\H1 a=some (.ins C dx fs)/\Cls X.K C/\Meth X.K C m g/\fs.lookup m=none/\
   ∀s1,Inv X pins σ H1 s1->wpAny (model X.prog X.w) X.A (callWith pos (.ref g) [.ref a] (backTo pos (starEach args X.env)) (backToKw pos (keywordEach [] X.env))) Q X.xe s1)
  (ht:eval (.Call (.Attribute e m apos) args [] pos) X.env=(do
   let ov<-eval e X.env
   standAt apos.atName
   let (f,first)<-holding [ov] (getMethod ov m pl)
   callWith pos f first (backTo pos (starEach args X.env)) (backToKw pos (keywordEach [] X.env)))) :
  wpAny (model X.prog X.w) X.A (eval (.Call (.Attribute e m apos) args [] pos) X.env) Q X.xe s:=by
 refine Xx (pl:=pl) (thn (he pins s σ H _ I h) fun u s1 hz9=>?_) ht
 obtain⟨x,H1,I1,rx,a,C,dx,fs,g,ex,ea,c,k,l,q⟩:=hz9
 subst ex
 obtain rfl:u=Value.ref a:=rx
 exact fU I1 ea c k l (q s1 I1)
end
section
variable {X:Cx}{pins:List (Addr×Obj)}{σ:St}{H:Hp}{s:Shared}{A:Around}{E:Value->Shared->Prop}{Q:Value->Shared->Prop}{c:Value}{b:Bool}
inductive mZ (K:W.Frag)(H:Hp):V->Value->Prop where
  |non:mZ K H .non (.type "NoneType")
  |bl (x:Bool):mZ K H (.bl x) (.type "bool")
  |int (i:Int):mZ K H (.int i) (.type "int")
  |str (x:Str):mZ K H (.str x) (.type "str")
  |flt (x:UInt64):mZ K H (.flt x) (.type "float")
  |lst {a:Addr} {xs:List V} (e:H a=some (.lst xs)):mZ K H (.ref a) (.type "list")
  |frz {a:Addr} {o:Obj} {xs:List V} (e:H a=some (.frz o (.lst xs))):mZ K H (.ref a) (.type "list")
  |tup {a:Addr} {xs:List V} (e:H a=some (.tup xs)):mZ K H (.ref a) (.type "tuple")
  |dK {a:Addr} {kvs:List (Key×V)} (e:H a=some (.dK kvs)):mZ K H (.ref a) (.type "dict")
  |dT {a:Addr} {kvs:List (List Key×V)} (e:H a=some (.dT kvs)):mZ K H (.ref a) (.type "dict")
  | ins {a C dx:Addr} {fs:List (Str×V)} (e:H a=some (.ins C dx fs)) (cl:Cls K C) (ha:W.findIn K (.ref C) "__class__"=some (some (.builtin "object.__class__")))
      (hn:W.specialIn K (.builtin "object.__class__") "__get__"=some (some (.builtin "getset_descriptor.__get__"))) (htk:W.takesIn K (.builtin "object.__class__")=some true)
      (hm:W.mroIn K C (.type "object")=some true):mZ K H (.ref a) (.ref C)
theorem a1Y {x:V}{u t:Value}(I:Inv X pins σ H s)(rx:RelV x u)(ty:mZ X.K H x t)(e:W.kitOne X.K t c=some b)(h:∀tk,Q (.bool b) { s with toks:=tk }) :
  wpAny (model X.prog X.w) A (call (.builtin "isinstance") [u,c]) Q E s:=by
 cases ty with
 |non=>cases (show u=Value.none from rx);exact XW W.kitx_none I.kIn True.intro e (fun z=>nomatch z) h
 |bl y=>cases (show u=Value.bool y from rx);exact XW W.kitx_bool I.kIn True.intro e (fun z=>nomatch z) h
 |int i=>obtain⟨t,q⟩:=(show ∃t,u=Value.int i t from rx);cases q;exact XW W.kitx_int I.kIn True.intro e (fun z=>nomatch z) h
 |str y=>obtain⟨t,q⟩:=(show ∃t,u=Value.str y t from rx);cases q;exact XW W.kitx_str I.kIn True.intro e (fun z=>nomatch z) h
 |flt y=>obtain⟨t,q⟩:=(show ∃t,u=Value.float y t from rx);cases q;exact XW W.kitx_float I.kIn True.intro e (fun z=>nomatch z) h
 | @lst a xs ea=>
  cases (show u=Value.ref a from rx)
  obtain⟨_,_,n,_,h1⟩:=(show dG X.prog X.w H s.heap a (.lst xs) from I.hok a _ ea)
  exact XW W.kitx_list I.kIn ⟨_,h1,rfl⟩ e (fun z=>nomatch z) h
 | @frz a ob xs ea=>
  cases (show u=Value.ref a from rx)
  obtain⟨_,_,_,n,_,h1⟩:=(show dG X.prog X.w H s.heap a (.frz ob (.lst xs)) from I.hok a _ ea)
  exact XW W.kitx_list I.kIn ⟨_,h1,rfl⟩ e (fun z=>nomatch z) h
 | @tup a xs ea=>
  cases (show u=Value.ref a from rx)
  obtain⟨_,_,_,p⟩:=(show dG X.prog X.w H s.heap a (.tup xs) from I.hok a _ ea)
  obtain⟨o,h1,h2,_⟩:=p
  exact XW W.kitx_tuple I.kIn ⟨o,h1,h2⟩ e (fun z=>nomatch z) h
 | @dK a kvs ea=>
  cases (show u=Value.ref a from rx)
  obtain⟨_,_,vs,_,p⟩:=(show dG X.prog X.w H s.heap a (.dK kvs) from I.hok a _ ea)
  obtain⟨o,es,ep,h1,h2,_⟩:=p
  exact XW W.kitx_dict I.kIn ⟨o,h1,h2.1⟩ e (fun z=>nomatch z) h
 | @dT a kvs ea=>
  cases (show u=Value.ref a from rx)
  obtain⟨_,_,xs,_,o,es,ep,h1,h2,_⟩:=(show dG X.prog X.w H s.heap a (.dT kvs) from I.hok a _ ea)
  exact XW W.kitx_dict I.kIn ⟨o,h1,h2.1⟩ e (fun z=>nomatch z) h
 | @ins a C dx fs ea cl ha hn htk hm=>
  cases (show u=Value.ref a from rx)
  obtain⟨mA,O,_⟩:=pD I.hok ea
  obtain⟨od,J,_⟩:=O.look
  exact XW (W.kitx_own (cl.get _) cl.hd ha hn htk hm) I.kIn J e (fun z=>nomatch z) h
end
end L2
namespace L2
open PySem PySem.Spec PyProof.Rows
structure dM (k:Nat)(A:Around):Prop where
 hd:A.handled=none
 dp:A.depth+3*k+5<recursionLimit
 un:A.units+16*k+200<cLine
theorem dM.mono {j k:Nat}{A:Around}(r:dM k A)(h:j<=k):dM j A:=⟨r.hd,by have:=r.dp;omega,by have:=r.un;omega⟩
theorem dM.deeper {k:Nat}{A:Around}(r:dM (k+1) A)(env:Env):dM k (A.deeper env):=
 ⟨r.hd,by have:=r.dp;show A.depth+1+3*k+5<_;omega,by have:=r.un;show A.units+3+16*k+200<_;omega⟩
theorem xK {A:Around}{C:Addr}{us:List Value}{kw:List (Str×Value)}:(A.under (.builtin "type.__call__" ⟨.ref C::us,kw⟩)).depth=A.depth+1:=by
 first | rfl | simp[Around.under,Code.weight,Code.isCreation,Code.isGuard,Code.isCaller,Code.frames,Code.isFrame,guardIds]
theorem xJ {A:Around}{C:Addr}{us:List Value}{kw:List (Str×Value)}:(A.under (.builtin "type.__call__" ⟨.ref C::us,kw⟩)).units=A.units+1:=by
 first | rfl | simp[Around.under,Code.cUnits,Code.frames,Code.isFrame]
theorem dM.make {k:Nat}{A:Around}(r:dM (k+1) A)(C:Addr)(us:List Value)(kw:List (Str×Value)):dM k (A.under (.builtin "type.__call__" ⟨.ref C::us,kw⟩)):=
 ⟨r.hd,by have:=r.dp;rw[xK];omega,by have:=r.un;rw[xJ];omega⟩
theorem dM.depth {k:Nat}{A:Around}(r:dM k A):A.depth<recursionLimit:=by have:=r.dp;omega
theorem dM.units {k:Nat}{A:Around}(r:dM k A):A.units+64<cLine:=by have:=r.un;omega
def a0P:TA:=fun _ H Q=>Q [] H
def b4Z (ta:TE)(tr:TA):TA:=fun σ H Q=>ta σ H fun x H1=>tr σ H1 fun xs H2=>Q (x::xs) H2
section
variable {X:Cx}{e:Expr}{es:List Expr}{te:TE}{t:TA}{pos:Pos}
theorem aD:PA X [] a0P:=fun _ _ _ _ H Q I h=>Calls.spliced_nil ⟨[],H,I,.nil,h⟩
theorem aA (ha:PE X e te)(hr:PA X es t)(hs:starEach (e::es) X.env=(false,eval e X.env)::starEach es X.env:=by rfl):PA X (e::es) (b4Z te t):=by
 intro pos pins s σ H Q I h
 rw[hs]
 show wpAny _ _ (spliced ((false,eval e X.env)::backTo pos (starEach es X.env))) _ _ s
 refine Calls.spliced_cons (thn (ha pins s σ H _ I h) fun u s1 hz9=>?_)
 obtain⟨x,H1,I1,r1,q1⟩:=hz9
 exact thn (hr pos pins s1 σ H1 _ I1 q1) fun us s2 ⟨xs,H2,I2,r2,q2⟩=>⟨x::xs,H2,I2,.cons r1 r2,q2⟩
def b7K (t:TA):TE:=fun σ H Q=>t σ H fun xs H1=>xs.length<=sizeLine/\∀p,H1 p=none->Q (.ref p) (upd H1 p (.tup xs))
def b7O (t:TA):TE:=fun σ H Q=>t σ H fun xs H1=>xs.length<=sizeLine/\∀p,H1 p=none->Q (.ref p) (upd H1 p (.lst xs))
theorem cF {x1}(h:PA X es t):PE X (.Tuple es x1 pos) (b7K t):=by
 intro pins s σ H Q I hq
 refine wpAny_Tuple_spliced (thn (h pos pins s σ H _ I hq) fun us s1 ⟨xs,H1,I1,r,z,q⟩=>⟨by rw[<-r.length];exact z,?_⟩)
 have hf:H1 s1.heap.objs.size=none:=I1.hok.fresh (Yd _)
 refine⟨.ref s1.heap.objs.size,upd H1 s1.heap.objs.size (.tup xs),I1.laid (t':=s1.toks) (fun b u e=>Yk _ e) (Yd _) ?_,rfl,q _ hf⟩
 exact⟨z,us,r,⟨_,YB _ rfl,rfl,_,rfl⟩⟩
theorem eE (h:PA X es t):PE X (.List es pos) (b7O t):=by
 intro pins s σ H Q I hq
 refine wpAny_List_spliced (thn (h pos pins s σ H _ I hq) fun us s1 ⟨xs,H1,I1,r,z,q⟩=>⟨by rw[<-r.length];exact z,?_⟩)
 have hf:H1 s1.heap.objs.size=none:=I1.hok.fresh (Yd _)
 refine⟨.ref s1.heap.objs.size,upd H1 s1.heap.objs.size (.lst xs),I1.laid (t':=s1.toks) (fun b u e=>Yk _ e) (Yd _) ?_,rfl,q _ hf⟩
 exact⟨z,us,0,r,YB _ rfl⟩
end
abbrev Sp:=List V->Hp->VK->XK->Prop
abbrev CXT:=List Env->Hp->Shared->XK->Value->Shared->Prop
structure nZ (P:Program)(w:World)(K:W.Frag)(mg:Str->Option Value)(base:Heap)(A:Around)(outer:List Env)(s:Shared)(H:Hp):Prop where
 frames:A.frames=some outer
 mod:Mod K mg base
 bs:∀b o,base.get? b=some o->s.heap.get? b=some o/\H b=none
 bsz:base.objs.size<=s.heap.objs.size
 funs:s.heap.FunFrames base outer
 frf:∀b∈frs outer,H b=none
 hok:HOk P w H s.heap
 bare:AllBare s.gens
def CE (outer:List Env)(P:Program)(w:World)(H:Hp)(s:Shared)(Q:VK)(u:Value)(s':Shared):Prop:=
 ∃v H',s'.os=s.os/\AllBare s'.gens/\Un (frs outer) [] H H' s.heap s'.heap/\HOk P w H' s'.heap/\RelV v u/\Q v H'
def CR (CX:CXT)(outer:List Env)(P:Program)(w:World)(H:Hp)(s:Shared)(Q:VK)(E:XK)(r:Result)(s':Shared):Prop:=
 match r with
 |.ok (.ret u)=>CE outer P w H s Q u s'
 |.ok _=>False
 |.error e=>CX outer H s E e s'
structure fM (P:Program)(w:World)(K:W.Frag)(mg:Str->Option Value)(base:Heap)(CX:CXT)(k:Nat)(f:Addr)(fd:FuncData)(ps:List Str)(sp:Sp):Prop where
 len:∀vs H Q E,sp vs H Q E->vs.length=ps.length
 run:∀(A:Around)(outer:List Env)(s:Shared)(H:Hp)(args:Args)(us:List Value)(vs:List V)(Q:VK)(E:XK),dM k A->nZ P w K mg base A outer s H->BindsTo s fd args (ps.zip us)->Vals vs us->sp vs H Q E->
  codeAny (model P w) A (.call (.ref f) args) (CR CX outer P w H s Q E) s
theorem fM.mono {P:Program}{w:World}{K:W.Frag}{mg:Str->Option Value}{base:Heap}{CX:CXT}{j k:Nat}{f:Addr}{fd:FuncData}{ps:List Str}{sp:Sp}(F:fM P w K mg base CX j f fd ps sp)(h:j<=k) :
  fM P w K mg base CX k f fd ps sp:=⟨F.len,fun A outer s H args us vs Q E hr=>F.run A outer s H args us vs Q E (hr.mono h)⟩
theorem nZ.make {P:Program}{w:World}{K:W.Frag}{mg:Str->Option Value}{base:Heap}{A:Around}{outer:List Env}{s:Shared}{H:Hp}(e:nZ P w K mg base A outer s H)(C:Addr)(us:List Value)(kw:List (Str×Value)) :
  nZ P w K mg base (A.under (.builtin "type.__call__" ⟨.ref C::us,kw⟩)) outer s H:=⟨by first | exact e.frames | (simpa [Around.under,Code.envs,Code.isFrame,pushEnvs] using e.frames),e.mod,e.bs,e.bsz,e.funs,e.frf,e.hok,e.bare⟩
section
variable {X:Cx}{pins:List (Addr×Obj)}{σ:St}{H:Hp}{s s':Shared}
theorem Inv.env0 (I:Inv X pins σ H s):nZ X.prog X.w X.K X.mg X.base X.A X.stack s H:=
 ⟨I.ok.frames,I.ok.mod,I.bs,Y0 I.ok.bsz I.sz,I.stack,I.stkFree,I.hok,I.bare⟩
theorem Inv.after {Q:VK}{u:Value}(I:Inv X pins σ H s)(h:CE X.stack X.prog X.w H s Q u s'):EP X pins σ Q u s':=by
 obtain⟨v,H',os,bare,un,hok,r,q⟩:=h
 obtain⟨hh,g,d,t,os'⟩:=s'
 obtain rfl:os'=s.os:=os
 exact⟨v,H',I.call (h':=hh) (g':=g) (d':=d) (t':=t) (ch:=[]) un hok bare (fun b z=>absurd z (by simp)),r,q⟩
end
def b0I (sp:Sp)(dvs:List V)(E:XK)(t:TA):TE:=fun σ H Q=>t σ H fun vs H1=>sp (vs++dvs) H1 Q E
def b0F (C:Addr)(m:Str)(sp:Sp)(dvs:List V)(E:XK)(ta:TE)(t:TA):TE:=fun σ H Q=>ta σ H fun x H1=>∃a dx fs,x= .ref a/\H1 a=some (.ins C dx fs)/\fs.lookup m=none/\
 t σ H1 fun vs H2=>sp (x::(vs++dvs)) H2 Q E
def b0G (C:Addr)(sp:Sp)(dvs:List V)(E:XK)(t:TA):TE:=fun σ H Q=>t σ H fun vs H1=>∀x dx,H1 x=none->H1 dx=none->dx≠x->
 sp (.ref x::(vs++dvs)) (upd (upd H1 dx (.own x)) x (.ins C dx [])) (fun v H2=>v= .non/\Q (.ref x) H2) E
def Binds (K:W.Frag)(fd:FuncData)(ps:List Str)(ds:List Value):Prop:=
 ∀(s:Shared)(us:List Value),K.In s.heap->(us++ds).length=ps.length->BindsTo s fd ⟨us, []⟩ (ps.zip (us++ds))
theorem Binds.all {K:W.Frag}{fd:FuncData}{ps:List Str}(h:∀us:List Value,us.length=ps.length->bindArgs fd ⟨us, []⟩=pure (ps.zip us)):Binds K fd ps []:=fun s us _ hl=>by
 rw[YC]at hl ⊢
 exact .of_eq (h us hl)
def eG (CX:CXT)(X:Cx)(E:XK):Prop:=∀(pins:List (Addr×Obj))(σ:St)(H:Hp)(s:Shared)(e:Value)(s':Shared),Inv X pins σ H s->CX X.stack H s E e s'->X.xe e s'
section
variable {X:Cx}{CX:CXT}{k:Nat}{f C:Addr}{fd:FuncData}{ps:List Str}{sp:Sp}{dvs:List V}{ds:List Value}{E:XK}{x m:Str}{p pos apos:Pos}{e o:Expr}{es:List Expr}{ta:TE}{t:TA}
theorem jT {pins:List (Addr×Obj)}{σ:St}{H:Hp}{s:Shared}{Q:VK}{us:List Value}{vs:List V}(F:fM X.prog X.w X.K X.mg X.base CX k f fd ps sp)(hr:dM k X.A)(hb:Binds X.K fd ps ds)(hd:Vals dvs ds)(hx:eG CX X E)
  (I:Inv X pins σ H s) (r:Vals vs us) (h:sp (vs++dvs) H Q E):wpAny (model X.prog X.w) X.A (call (.ref f) us) (EP X pins σ Q) X.xe s:=by
 have r2:Vals (vs++dvs) (us++ds):=r.append hd
 have hl:(us++ds).length=ps.length:=by rw[<-r2.length];exact F.len _ _ _ _ h
 refine wpAny_call (X5 (F.run X.A X.stack s H ⟨us, []⟩ (us++ds) (vs++dvs) Q E hr I.env0 (hb s us I.kIn hl) r2 h) fun r s' hq=>?_)
 cases r with
 |error e=>exact hx pins σ H s e s' I hq
 | ok fl=>
  cases fl with
  |ret u=>exact I.after hq
  |next=>exact False.elim hq
  |brk=>exact False.elim hq
  |cont=>exact False.elim hq
theorem aU (F:fM X.prog X.w X.K X.mg X.base CX k f fd ps sp)(hr:dM k X.A)(hg:Gl X x)(hm:X.mg x=some (.ref f))(hk:W.keepIn X.K (.ref f)=true)(hb:Binds X.K fd ps ds)(hd:Vals dvs ds)(hx:eG CX X E)
  (ha:PA X (e::es) t) (hdb:(x == ("__debug__":Str))=false:=by decide) (he:starEach (e::es) X.env=(false,eval e X.env)::starEach es X.env:=by rfl) (hpl:(backTo pos (starEach es X.env)).any (·.1)=false:=by rfl) :
  PE X (.Call (.Name x p) (e::es) [] pos) (b0I sp dvs E t):=by
 intro pins s σ H Q I h
 refine Xi (jK I hg hm ?_ hdb)
 refine X6 (h₀:=X.base) I.ok.mod.kin hk (thn (ha pos pins s σ H _ I h) fun us s1 ⟨vs,H1,I1,r,q⟩=>⟨I1.kIn,?_⟩) he hpl
 exact jT F hr hb hd hx I1 r q
theorem vA (F:fM X.prog X.w X.K X.mg X.base CX k f fd ps sp)(hr:dM k X.A)(hg:Gl X x)(hm:X.mg x=some (.ref f))(hk:W.keepIn X.K (.ref f)=true)(hb:Binds X.K fd ps ds)(hd:Vals dvs ds)(hx:eG CX X E)
  (hdb:(x == ("__debug__":Str))=false:=by decide):PE X (.Call (.Name x p) [] [] pos) (b0I sp dvs E a0P):=by
 intro pins s σ H Q I h
 refine Xi (jK I hg hm ?_ hdb)
 exact W.callWith_K0 I.kIn hk (jT (us:=[]) F hr hb hd hx I .nil h)
theorem a8O {pl:Sem Bool}(he:PE X o ta)(c:Cls X.K C)(hm:Meth X.K C m f)(F:fM X.prog X.w X.K X.mg X.base CX k f fd ps sp)(hr:dM k X.A)(hb:Binds X.K fd ps ds)(hd:Vals dvs ds)(hx:eG CX X E)(ha:PA X (e::es) t)
  (hst:starEach (e::es) X.env=(false,eval e X.env)::starEach es X.env:=by rfl) (hpl:(backTo pos (starEach es X.env)).any (·.1)=false:=by rfl)
  (ht:eval (.Call (.Attribute o m apos) (e::es) [] pos) X.env=(do
   let ov<-eval o X.env
   standAt apos.atName
   let (f,first)<-holding [ov] (getMethod ov m pl)
   callWith pos f first (backTo pos (starEach (e::es) X.env)) (backToKw pos (keywordEach [] X.env))):=by rfl) :
  PE X (.Call (.Attribute o m apos) (e::es) [] pos) (b0F C m sp dvs E ta t):=by
 intro pins s σ H Q I h
 refine Xx (pl:=pl) (thn (he pins s σ H _ I h) fun u s1 hz9=>?_) ht
 obtain⟨x,H1,I1,rx,a,dx,fs,ex,ea,l,q⟩:=hz9
 subst ex
 obtain rfl:u=Value.ref a:=rx
 refine fU I1 ea c hm l ?_
 refine X6 (first:=[.ref a]) (h₀:=X.base) I.ok.mod.kin hm.kp (thn (ha pos pins s1 σ H1 _ I1 q) fun us s2 ⟨vs,H2,I2,r,q2⟩=>⟨I2.kIn,?_⟩) hst hpl
 exact jT (us:= .ref a::us) (vs:= .ref a::vs) F hr hb hd hx I2 (.cons rfl r) q2
theorem a4R {pl:Sem Bool}(he:PE X o ta)(c:Cls X.K C)(hm:Meth X.K C m f)(F:fM X.prog X.w X.K X.mg X.base CX k f fd ps sp)(hr:dM k X.A)(hb:Binds X.K fd ps ds)(hd:Vals dvs ds)(hx:eG CX X E)
  (ht:eval (.Call (.Attribute o m apos) [] [] pos) X.env=(do
   let ov<-eval o X.env
   standAt apos.atName
   let (f,first)<-holding [ov] (getMethod ov m pl)
   callWith pos f first (backTo pos (starEach [] X.env)) (backToKw pos (keywordEach [] X.env))):=by rfl) :
  PE X (.Call (.Attribute o m apos) [] [] pos) (b0F C m sp dvs E ta a0P):=by
 intro pins s σ H Q I h
 refine Xx (pl:=pl) (thn (he pins s σ H _ I h) fun u s1 hz9=>?_) ht
 obtain⟨x,H1,I1,rx,a,dx,fs,ex,ea,l,q⟩:=hz9
 subst ex
 obtain rfl:u=Value.ref a:=rx
 refine fU I1 ea c hm l ?_
 exact W.callWith_K0 (first:=[.ref a]) I1.kIn hm.kp (jT (us:=[.ref a]) (vs:=[.ref a]) F hr hb hd hx I1 (.cons rfl .nil) q)
structure Mk (K:W.Frag)(C f:Addr):Prop where
 makes:W.makesIn K C=true
 init:W.findIn K (.ref C) "__init__"=some (some (.ref f))
 fn:W.isFn K (.ref f)=true
 kp:W.keepIn K (.ref C)=true
theorem uW {pins:List (Addr×Obj)}{σ:St}{H:Hp}{s:Shared}{Q:VK}{us:List Value}{vs:List V}(M:Mk X.K C f)(F:fM X.prog X.w X.K X.mg X.base CX k f fd ps sp)(hr:dM (k+1) X.A)(hb:Binds X.K fd ps ds)(hd:Vals dvs ds)
  (hx:eG CX X E) (I:Inv X pins σ H s) (r:Vals vs us)
  (h:∀x dx,H x=none->H dx=none->dx≠x->sp (.ref x::(vs++dvs)) (upd (upd H dx (.own x)) x (.ins C dx [])) (fun v H2=>v= .non/\Q (.ref x) H2) E) :
  wpAny (model X.prog X.w) X.A (call (.ref C) us) (EP X pins σ Q) X.xe s:=by
 have hq:=h (s.heap.objs.size+1) s.heap.objs.size (I.hok.fresh (X7 _)) (I.hok.fresh (Yd _)) (YJ (X2 _))
 have I2:=Inv.made (C:=C) I
 have r2:Vals (V.ref (s.heap.objs.size+1)::(vs++dvs)) (Value.ref (s.heap.objs.size+1)::(us++ds)):= .cons rfl (r.append hd)
 have hl:(Value.ref (s.heap.objs.size+1)::us++ds).length=ps.length:=by
  have e:=r2.length
  rw[F.len _ _ _ _ hq]at e
  exact e.symm
 refine wpAny_call (a5K (f:=f) I.kIn M.makes M.init (XV.mp M.fn) (X5 (F.run _ X.stack _ _ ⟨Value.ref (s.heap.objs.size+1)::us, []⟩ (Value.ref (s.heap.objs.size+1)::(us++ds)) _ _ E (hr.make C us [])
  (I2.env0.make C us []) (hb _ (Value.ref (s.heap.objs.size+1)::us) I2.kIn hl) r2 hq) fun r s' hq'=>?_))
 cases r with
 |error e=>exact hx pins σ _ _ e s' I2 hq'
 | ok fl=>
  cases fl with
  | ret u=>
   obtain⟨v,H',I3,rv,ev,q3⟩:=I2.after hq'
   subst ev
   exact⟨rv,⟨V.ref (s.heap.objs.size+1),H',I3,rfl,q3⟩⟩
  |next=>exact False.elim hq'
  |brk=>exact False.elim hq'
  |cont=>exact False.elim hq'
theorem cD (M:Mk X.K C f)(F:fM X.prog X.w X.K X.mg X.base CX k f fd ps sp)(hr:dM (k+1) X.A)(hg:Gl X x)(hm:X.mg x=some (.ref C))(hb:Binds X.K fd ps ds)(hd:Vals dvs ds)(hx:eG CX X E)
  (ha:PA X (e::es) t) (hdb:(x == ("__debug__":Str))=false:=by decide) (he:starEach (e::es) X.env=(false,eval e X.env)::starEach es X.env:=by rfl) (hpl:(backTo pos (starEach es X.env)).any (·.1)=false:=by rfl) :
  PE X (.Call (.Name x p) (e::es) [] pos) (b0G C sp dvs E t):=by
 intro pins s σ H Q I h
 refine Xi (jK I hg hm ?_ hdb)
 refine X6 (h₀:=X.base) I.ok.mod.kin M.kp (thn (ha pos pins s σ H _ I h) fun us s1 ⟨vs,H1,I1,r,q⟩=>⟨I1.kIn,?_⟩) he hpl
 exact uW M F hr hb hd hx I1 r q
theorem lR (M:Mk X.K C f)(F:fM X.prog X.w X.K X.mg X.base CX k f fd ps sp)(hr:dM (k+1) X.A)(hg:Gl X x)(hm:X.mg x=some (.ref C))(hb:Binds X.K fd ps ds)(hd:Vals dvs ds)(hx:eG CX X E)
  (hdb:(x == ("__debug__":Str))=false:=by decide):PE X (.Call (.Name x p) [] [] pos) (b0G C sp dvs E a0P):=by
 intro pins s σ H Q I h
 refine Xi (jK I hg hm ?_ hdb)
 exact W.callWith_K0 I.kIn M.kp (uW (us:=[]) M F hr hb hd hx I .nil h)
end
section
variable {X:Cx}{CX:CXT}{k:Nat}{f C:Addr}{fd:FuncData}{ps ks:List Str}{sp:Sp}{E:XK}{x m:Str}{p pos apos kpos:Pos}{e o:Expr}{es:List Expr}{kws:List Keyword}{te ta:TE}{t tk:TA}{nm:Option Str}
structure b9A (K:W.Frag)(fd:FuncData)(ps ks:List Str)(g:List Value->List Value->List Value)(gV:List V->List V->List V):Prop where
 to:∀(s:Shared)(us ws:List Value),K.In s.heap->(g us ws).length=ps.length->BindsTo s fd ⟨us,ks.zip ws⟩ (ps.zip (g us ws))
 rel:∀{vs:List V}{us:List Value}{zs:List V}{ws:List Value},Vals vs us->Vals zs ws->Vals (gV vs zs) (g us ws)
variable {g:List Value->List Value->List Value}{gV:List V->List V->List V}
end
structure gK (N P:List Str)(sc:Scope):Prop where
 kind:sc.kind= .function
 co:sc.isCoroutine=false
 gen:sc.isGenerator=false
 nd:N.Nodup
 pre:N.take P.length=P
 par:∀x∈P,sc.names.lookup x=some .local\/sc.names.lookup x=some .cell
 nofree:∀y∈sc.names,y.2≠ .free
theorem sU {kindOf:Str->Option NameKind}{x:Str}:∀{binds:List (Str×Value)}{m:Str->Option Value},(∀v,(x,v)∉binds)->bindL kindOf binds m x=m x
 |[],_,_=>rfl
 | (n,v)::r,m,h=>by
  unfold bindL
  rw[sU fun w hw=>h w (Ys _ hw)]
  split
  ·have:x≠n:=by rintro rfl;exact h v YD
   simp[this]
  ·rfl
theorem sW {kindOf:Str->Option NameKind}{x:Str}:∀{binds:List (Str×Value)}{m:Str->Option Value},(∀v,(x,v)∉binds)->bindC kindOf binds m x=m x
 |[],_,_=>rfl
 | (n,v)::r,m,h=>by
  unfold bindC
  rw[sW fun w hw=>h w (Ys _ hw)]
  split
  ·rfl
  ·have:x≠n:=by rintro rfl;exact h v YD
   simp[this]
theorem sV {kindOf:Str->Option NameKind}{x:Str}{v:Value}:∀{P:List Str}{vs:List Value}{i:Nat}{m:Str->Option Value},P.Nodup->P[i]? =some x->vs[i]? =some v->kindOf x=some .local->
  bindL kindOf (P.zip vs) m x=some v
 |[],_,_,_,_,h,_,_=>by simp at h
 |_::_, [],_,_,_,_,h,_=>by simp at h
 | p::P,w::vs,0,m,nd,h1,h2,hk=>by
  simp at h1 h2;subst h1;subst h2
  show bindL kindOf ((p,w)::P.zip vs) m p=_
  unfold bindL
  rw[sU fun v hv=>(YX.mp nd).1 (Ja hv).1,if_pos hk]
  simp
 | p::P,w::vs,i+1,m,nd,h1,h2,hk=>by
  show bindL kindOf ((p,w)::P.zip vs) m x=_
  unfold bindL
  exact sV (i:=i) (YX.mp nd).2 (by simpa using h1) (by simpa using h2) hk
theorem sX {kindOf:Str->Option NameKind}{x:Str}{v:Value}:∀{P:List Str}{vs:List Value}{i:Nat}{m:Str->Option Value},P.Nodup->P[i]? =some x->vs[i]? =some v->kindOf x≠some .local->
  bindC kindOf (P.zip vs) m x=some v
 |[],_,_,_,_,h,_,_=>by simp at h
 |_::_, [],_,_,_,_,h,_=>by simp at h
 | p::P,w::vs,0,m,nd,h1,h2,hk=>by
  simp at h1 h2;subst h1;subst h2
  show bindC kindOf ((p,w)::P.zip vs) m p=_
  unfold bindC
  rw[sW fun v hv=>(YX.mp nd).1 (Ja hv).1,if_neg hk]
  simp
 | p::P,w::vs,i+1,m,nd,h1,h2,hk=>by
  show bindC kindOf ((p,w)::P.zip vs) m x=_
  unfold bindC
  exact sX (i:=i) (YX.mp nd).2 (by simpa using h1) (by simpa using h2) hk
def start (N:List Str)(vs:List V):St:=vs.map some++List.replicate (N.length-vs.length) none
def cY (CX:CXT)(P:Program)(w:World)(K:W.Frag)(mg:Str->Option Value)(base:Heap)(N:List Str)(qual:Str)(scope:Scope)(f:Addr)(cd:Value)(A:Around)(outer:List Env)(s:Shared)(H:Hp)(E:XK):Cx where
 prog:=P
 w:=w
 K:=K
 mg:=mg
 base:=base
 A:=A.deeper (envOfC qual scope s.heap.objs.size f cd)
 N:=N
 s₀:=s
 H₀:=H
 env:=envOfC qual scope s.heap.objs.size f cd
 outer:=outer
 stack:=envOfC qual scope s.heap.objs.size f cd::outer
 ex:=[]
 calm:=true
 fn:=fun _=>true
 pn:=[]
 xe:=fun e s'=>wpAny (model P w) (A.deeper (envOfC qual scope s.heap.objs.size f cd)) (leaving (envOfC qual scope s.heap.objs.size f cd) e) (fun _ s''=>CX outer H s E e s'') (fun e' s''=>CX outer H s E e' s'') s'
theorem wB {sc:Scope}{n:Nat}{x:Str}(h:sc.names.lookup x=some .cell):∃c,(cellsFrom n sc.names []).lookup x=some c:=by
 have q:=W.cellsFrom_some sc.names n [] (.inl h)
 exact Option.isSome_iff_exists.mp q
theorem sG {CX:CXT}{P:Program}{w:World}{K:W.Frag}{mg:Str->Option Value}{base:Heap}{N ps:List Str}{qual:Str}{scope:Scope}{f:Addr}{cd:Value}{A:Around}{outer:List Env}{s s1:Shared}{H:Hp}{E:XK}{us:List Value}{vs:List V}
  (S:gK N ps scope) (hd:A.handled=none) (e0:nZ P w K mg base A outer s H) (hl:vs.length=ps.length) (r:Vals vs us)
  (x:InCallC s s.heap.objs.size (bindL (envOfC qual scope s.heap.objs.size f cd).kindOf (ps.zip us) fun _=>none) (cellsFrom (s.heap.objs.size+1) scope.names []) (bindC (envOfC qual scope s.heap.objs.size f cd).kindOf (ps.zip us) fun _=>none) s1) :
  Inv (cY CX P w K mg base N qual scope f cd A outer s H E) [] (start N vs) H s1:=by
 have hpl:ps.length<=N.length:=by have:=YT List.length S.pre;rw[Yo]at this;omega
 obtain⟨h1,tk,rfl,hk⟩:=x.done
 have noA:∀b:Addr,b∉(cY CX P w K mg base N qual scope f cd A outer s H E).ex:=fun b z=>absurd (show b∈([]:List Addr) from z) (by simp)
 refine⟨⟨e0.mod,S.kind,rfl,rfl,Yd _,fun y z c h1 h2=>?_,fun y hy=>?_,fun y c _ h=>?_,fun _=>hd,Around.frames_deeper e0.frames,.inr ⟨rfl,rfl⟩,fun b z=>absurd z (noA b),e0.bs,e0.bsz,fun b _ _=>noA b,fun b z=>absurd z (noA b),e0.funs,e0.frf⟩,
  rfl,e0.bare,Un.kept hk,⟨_,x.toInCall.ns,fun i y v h1 h2 h3=>?_⟩,fun y c h=>⟨_,x.cell y c h⟩,e0.hok.fresh (Yd _),fun y c h=>?_,fun p hp=>absurd (show p∈([]:List (Addr×Obj)) from hp) (by simp),e0.hok.kept hk,?_⟩
 ·exact name_of_addr x.apart (Y4 h1) (Y4 h2)
 ·have hy:scope.names.lookup y=some .cell\/scope.names.lookup y=some .free:=hy
  rcases hy with hy | hy
  ·exact wB hy
  ·exact absurd rfl (S.nofree _ (Y4 hy))
 ·exact XI (x.above y c (Y4 h))
 ·have hi:i<vs.length:=by
   unfold start at h2
   by_cases hi:i<vs.length
   ·exact hi
   ·rw[Yv (by simpa using hi)]at h2
    rw[List.getElem?_replicate]at h2
    split at h2 <;> cases h2
  have ha:vs[i]? =some v:=by
   unfold start at h2
   rw[Yx (by simpa using hi),Yi]at h2
   cases e:vs[i]? with
   |none=>rw[e]at h2;cases h2
   |some a=>rw[e]at h2;cases h2;rfl
  obtain⟨u,hu,rv⟩:=r.get ha
  have hp:ps[i]? =some y:=by
   rw[<-S.pre,Xw (by omega)];exact h1
  have ndP:ps.Nodup:=by rw[<-S.pre];exact S.nd.sublist (List.take_sublist _ _)
  refine⟨u,rv,?_⟩
  rcases S.par y (Yp hp) with k | k
  ·exact .inl ⟨k,sV ndP hp hu k⟩
  ·obtain⟨c,e⟩:=wB (n:=s.heap.objs.size+1) k
   refine .inr ⟨.inl k,c,e,?_⟩
   have q:=x.cell y c e
   rw[sX ndP hp hu (by show scope.names.lookup y≠_;rw[k];decide)]at q
   exact q
 ·exact e0.hok.fresh (XI (x.above y c (Y4 h)))
 ·unfold start
  show _=N.length
  rw[Yc,Ya,YM]
  omega
theorem b0T {CX:CXT}{P:Program}{w:World}{K:W.Frag}{mg:Str->Option Value}{base:Heap}{k:Nat}{f:Addr}{name qual:Str}{params:Arguments}{body:List Stmt}{scope:Scope}{dV kV doc pm cdv ct oc:Value}{an od:Option Addr}
  {osl:Array (Option Value)} {N ps:List Str} {sp:Sp} (lk:K.lookup f=some ⟨oc,od,.func (W.fnOf name qual params body scope dV kV doc pm an cdv ct),osl⟩) (hcd:W.codeIn K cdv qual=true) (S:gK N ps scope)
  (len:∀vs H Q E,sp vs H Q E->vs.length=ps.length)
  (hbody:∀(A:Around)(outer:List Env)(s:Shared)(H:Hp)(vs:List V)(Q:VK)(E:XK),dM k (A.deeper (envOfC qual scope s.heap.objs.size f cdv))->sp vs H Q E->
   ∃t,PSs (cY CX P w K mg base N qual scope f cdv A outer s H E) body t/\t { nx:=fun _ H'=>Q .non H',rt:=Q } (start N vs) H) :
  fM P w K mg base CX (k+1) f (W.fnOf name qual params body scope dV kV doc pm an cdv ct) ps sp:=by
 refine⟨len,fun A outer s H args us vs Q E hr e0 hb r hsp=>?_⟩
 have hl:=len _ _ _ _ hsp
 have KX:K.In s.heap:=e0.mod.kin.keeps fun b o e=>(e0.bs b o e).1
 have lim:s.heap.NoLimit:=e0.mod.nolimit.keeps fun b o e=>(e0.bs b o e).1
 have hkind:∀y∈ps.zip us,scope.names.lookup y.1=some .local\/(scope.names.lookup y.1=some .cell/\((cellsFrom (s.heap.objs.size+1) scope.names []).lookup y.1).isSome=true):=fun ⟨n,v⟩ hy=>by
  rcases S.par n (Ja hy).1 with q | q
  ·exact .inl q
  ·exact .inr ⟨q,W.cellsFrom_some _ _ _ (.inl q)⟩
 refine codeAny_call_function hr.depth (KX _ _ lk) rfl S.co S.gen rfl (W.codeRec_of KX hcd) (hb _ _ _ _ ?_)
 refine wpAny_newFunctionEnv_cells S.kind hkind fun env he s1 x=>?_
 subst he
 refine⟨lim.keeps x.toInCall.keep,codeAny_func ?_⟩
 obtain⟨t,ht,hq⟩:=hbody A outer s H vs Q E (hr.deeper _) hsp
 have I:Inv (cY CX P w K mg base N qual scope f cdv A outer s H E) [] (start N vs) H s1:=sG S hr.hd e0 hl r x
 refine Y8 (ht [] s1 (start N vs) H _ I hq) (fun fl s' hs=>?_) fun e s' hs=>hs
 have fin:∀{σ':St}{H':Hp}{v:V}{u:Value},Inv (cY CX P w K mg base N qual scope f cdv A outer s H E) [] σ' H' s'->RelV v u->Q v H'->CE outer P w H s Q u s':=
  fun {σ' H' v u} J rv q=>⟨v,H',J.os,J.bare,J.base,J.hok,rv,q⟩
 cases fl with
 | ret u=>
  obtain⟨v,σ',H',J,rv,q⟩:=hs
  exact fin J rv q
 | next=>
  obtain⟨σ',H',J,q⟩:=hs
  exact fin (v:=V.non) (u:=Value.none) J rfl q
 | brk=>
  obtain⟨_,_,_,q⟩:=hs
  exact False.elim q
 | cont=>
  obtain⟨_,_,_,q⟩:=hs
  exact False.elim q
end L2
namespace L2
open PySem PySem.Spec PyProof.Rows
section
variable {X:Cx}{x:Str}{p pos:Pos}{e:Expr}{es:List Expr}{t:TA}{id T:String}{r:List V->Hp->VK->Prop}
def tCB (r:List V->Hp->VK->Prop)(t:TA):TE:=fun σ H Q=>t σ H fun vs H1=>r vs H1 Q
theorem aZ (hc:fP X (.builtin id) r)(hg:Gl X x)(hm:X.mg x=none)(hv:bootBuiltins x=some (.builtin id))(ha:PA X (e::es) t)(hn:x≠"__name__":=by decide)(hdb:(x == ("__debug__":Str))=false:=by decide)
  (he:starEach (e::es) X.env=(false,eval e X.env)::starEach es X.env:=by rfl) (hpl:(backTo pos (starEach es X.env)).any (·.1)=false:=by rfl):PE X (.Call (.Name x p) (e::es) [] pos) (tCB r t):=by
 intro pins s σ H Q I h
 refine Xi (nM I hg hm hv ?_ hn hdb)
 exact PyProof.Rows.callWith_builtin1 (thn (ha pos pins s σ H _ I h) fun us s1 ⟨vs,H1,I1,r1,q1⟩=>hc pins s1 σ H1 vs us Q I1 r1 q1) he hpl
theorem cU (hc:fP X (.type T) r)(hg:Gl X x)(hm:X.mg x=none)(hv:bootBuiltins x=some (.type T))(ha:PA X (e::es) t)(hn:x≠"__name__":=by decide)(hdb:(x == ("__debug__":Str))=false:=by decide)
  (he:starEach (e::es) X.env=(false,eval e X.env)::starEach es X.env:=by rfl) (hpl:(backTo pos (starEach es X.env)).any (·.1)=false:=by rfl):PE X (.Call (.Name x p) (e::es) [] pos) (tCB r t):=by
 intro pins s σ H Q I h
 refine Xi (nM I hg hm hv ?_ hn hdb)
 exact XD (thn (ha pos pins s σ H _ I h) fun us s1 ⟨vs,H1,I1,r1,q1⟩=>hc pins s1 σ H1 vs us Q I1 r1 q1) he hpl
end
end L2
namespace HT
open PySem PyProof.Rows
section
open PySem.SeqAt
open PySem.AutoSeq1 (wpAny_loadPart')
open PySem.MeetsSeq PySem.MeetsSeq2 PySem.MeetsSeq3
end
section
variable {prog:Program}{w:World}{A:Around}{E:Value->Shared->Prop}{s:Shared}
def sIx (n d:Nat):Option Int->Nat
 |none=>d
 |some v=>if v<0 then (v+(n:Int)).toNat else min v.toNat n
theorem sIx_none (n d:Nat):sIx n d none=d:=rfl
theorem sIx_nat (n d k:Nat):sIx n d (some (k:Int))=min k n:=by
 show (if (k:Int)<0 then ((k:Int)+(n:Int)).toNat else min (k:Int).toNat n)=min k n
 rw[if_neg (by omega),YI]
end
end HT
namespace L2
open PySem PySem.Spec PyProof.Rows
abbrev TO:=St->Hp->(Option Int->Hp->Prop)->Prop
def PO (X:Cx)(e:Option Expr)(t:TO):Prop:=
 ∀ (pins:List (Addr×Obj))(s:Shared)(σ:St)(H:Hp)(Q:Option Int->Hp->Prop),Inv X pins σ H s->t σ H Q->
  wpAny (model X.prog X.w) X.A (evalPart e X.env) (fun u s'=>∃o H',Inv X pins σ H' s'/\IsPart u o/\Q o H') X.xe s
def a7F:TO:=fun _ H Q=>Q none H
def b4U (t:TE):TO:=fun σ H Q=>t σ H fun x H1=>∃i,x= .int i/\Q (some i) H1
theorem intsAre_of {ns:List Int}:∀{us:List Value},Vals (ns.map V.int) us->IntsAre us ns:=by
 induction ns with
 |nil=>intro us r;rw[List.map_nil]at r;cases r;exact .nil
 | cons n ns ih=>
  intro us r
  rw[YS]at r
  cases r with
  | cons r1 r2=>
   obtain⟨t,e⟩:=r1
   subst e
   exact .cons n t (ih r2)
section
variable {X:Cx}{e:Expr}{te:TE}{lo hi:Option Expr}{tl th:TO}{pos p2:Pos}
theorem a8L:PO X none a7F:=by
 intro pins s σ H Q I h
 rw[evalPart_none]
 exact Xa ⟨none,H,I,.none,h⟩
theorem a8K (h:PE X e te):PO X (some e) (b4U te):=by
 intro pins s σ H Q I hw
 rw[evalPart_some]
 refine thn (h pins s σ H _ I hw) fun u s1 hz9=>?_
 obtain⟨x,H1,I1,r1,q1⟩:=hz9
 obtain⟨i,rfl,q⟩:=q1
 obtain⟨t,rfl⟩:=r1
 exact⟨some i,H1,I1,.int i t,q⟩
def SlR (X:Cx)(r:V->Option Int->Option Int->Hp->VK->Prop):Prop:=
 ∀ (pins:List (Addr×Obj))(s:Shared)(σ:St)(H:Hp)(x:V)(v vl vu:Value)(lo hi:Option Int)(sl:Addr)(Q:VK),Inv X pins σ H s->RelV x v->s.heap.IsSliceOf sl vl vu .none->IsPart vl lo->IsPart vu hi->r x lo hi H Q->
  ∃T id,typeLookup (.type T) "__getitem__"=pure (some (.builtin id))/\s.TypeIs v T/\wpAny (model X.prog X.w) X.A (getItem v (.ref sl)) (EP X pins σ Q) X.xe s
def tSl (r:V->Option Int->Option Int->Hp->VK->Prop)(te:TE)(tl th:TO):TE:=fun σ H Q=>te σ H fun x H1=>tl σ H1 fun l H2=>th σ H2 fun u H3=>r x l u H3 Q
theorem iI {r:V->Option Int->Option Int->Hp->VK->Prop}(hr:SlR X r)(he:PE X e te)(hl:PO X lo tl)(hu:PO X hi th):PE X (.Subscript e (.Slice lo hi none p2) pos) (tSl r te tl th):=by
 intro pins s σ H Q I h
 refine Subscript_ (thn (he pins s σ H _ I h) fun v s1 hz9=>?_)
 obtain⟨x,H1,I1,r1,q1⟩:=hz9
 refine wpAny_Slice (thn (hl pins s1 σ H1 _ I1 q1) fun vl s2 ⟨l,H2,I2,pl,q2⟩=>thn (hu pins s2 σ H2 _ I2 q2) fun vu s3 ⟨u,H3,I3,pu,q3⟩=>?_)
 rw[evalPart_none]
 refine Xa ?_
 have I4:Inv X pins σ H3 { s3 with heap:=s3.heap.push { cls:= .type "slice",data:= .fields #[vl,vu,.none] } }:=I3.kept (t':=s3.toks) fun b ob q=>Yk _ q
 obtain⟨T,id,hT,ht,hg⟩:=hr pins { s3 with heap:=s3.heap.push { cls:= .type "slice",data:= .fields #[vl,vu,.none] } } σ H3 x v vl vu l u s3.heap.objs.size Q I4 r1 (Heap.IsSliceOf.new ..) pl pu q3
 show wpAny (model X.prog X.w) X.A (subscriptTail e (.Slice lo hi none p2) v (.ref s3.heap.objs.size)) (EP X pins σ Q) X.xe { s3 with heap:=s3.heap.push { cls:= .type "slice",data:= .fields #[vl,vu,.none] } }
 exact tail_any (ops:=[.ref s3.heap.objs.size,v]) ht hT hg (by with_unfolding_all rfl)
def lG (xs:List V)(lo hi:Option Int):List V:=(xs.drop (HT.sIx xs.length 0 lo)).take (HT.sIx xs.length xs.length hi-HT.sIx xs.length 0 lo)
theorem wA (xs:List V)(lo hi:Option Int):(lG xs lo hi).length<=xs.length:=by
 unfold lG
 rw[Yo,YU]
 omega
end
end L2
namespace L2
open PySem PySem.Spec PyProof.Rows
def ixN (n:Nat)(i:Int):Option Nat:=if 0<=i then (if i<n then some i.toNat else none) else if -(n:Int)<=i then some (i+n).toNat else none
def atI {α:Type}(xs:List α)(i:Int):Option α:=(ixN xs.length i).bind fun j=>xs[j]?
theorem a9E {n:Nat}{i:Int}{j:Nat}(h:ixN n i=some j):seqIndex? i n=some j/\j<n/\ -(n:Int)<=i/\i<n:=by
 unfold ixN at h
 by_cases h0:0<=i
 ·rw [if_pos h0]at h
  by_cases h1:i<n
  ·rw[if_pos h1]at h
   have e:i.toNat=j:=Yq h
   exact⟨by rw[seqIndex_of h0 h1,e],by omega,by omega,h1⟩
  ·rw[if_neg h1]at h;cases h
 ·rw [if_neg h0]at h
  by_cases h1: -(n:Int)<=i
  ·rw[if_pos h1]at h
   have e:(i+n).toNat=j:=Yq h
   exact⟨by rw[seqIndex_neg (by omega) h1,e],by omega,h1,by omega⟩
  ·rw[if_neg h1]at h;cases h
theorem a0J {α:Type}{xs:List α}{i:Int}{v:α}(h:atI xs i=some v):∃j,seqIndex? i xs.length=some j/\xs[j]? =some v/\j<xs.length/\ -(xs.length:Int)<=i/\i<xs.length:=by
 unfold atI at h
 cases e:ixN xs.length i with
 |none=>rw[e]at h;cases h
 | some j=>
  rw[e]at h
  obtain⟨h1,h2,h3,h4⟩:=a9E e
  exact⟨j,h1,h,h2,h3,h4⟩
theorem cX {α:Type}{xs:List α}{j:Nat}{v:α}(h:xs[j]? =some v):atI xs (j:Int)=some v:=by
 have hj:j<xs.length:=(Ye.mp h).1
 have e:ixN xs.length (j:Int)=some j:=by
  unfold ixN
  rw[if_pos (by omega),if_pos (by omega)];simp
 unfold atI;rw[e];exact h
def a9V (b:Expr):Prop:=∀o i,subscripted b false o i=operate [o,i] (getItem o i)
def IxR (X:Cx)(r:R2):Prop:=
 ∀ (value slice:Expr)(pins:List (Addr×Obj))(s:Shared)(σ:St)(H:Hp)(x y:V)(v u:Value)(Q:VK),Inv X pins σ H s->RelV x v->RelV y u->r x y H Q->
  subscripted slice false v u=operate [v,u] (getItem v u)->wpAny (model X.prog X.w) X.A (subscriptTail value slice v u) (EP X pins σ Q) X.xe s
def MtR (X:Cx)(id:String)(r:V->List V->Hp->VK->Prop):Prop:=
 ∀ (pins:List (Addr×Obj))(s:Shared)(σ:St)(H:Hp)(x:V)(xs:List V)(v:Value)(us:List Value)(Q:VK),Inv X pins σ H s->RelV x v->Vals xs us->r x xs H Q->
  wpAny (model X.prog X.w) X.A (call (.builtin id) (v::us)) (EP X pins σ Q) X.xe s
section
variable {X:Cx}{a b:Expr}{ta tb:TE}{pos:Pos}
theorem bI {r:R2}(hr:IxR X r)(ha:PE X a ta)(hb:PE X b tb)(hs:a9V b):PE X (.Subscript a b pos) (tOp r ta tb):=by
 intro pins s σ H Q I h
 exact Subscript_ (b4I ha hb I h fun v u s2 x y H2 I2 rx ry q=>hr a b pins s2 σ H2 x y v u Q I2 rx ry q (hs _ _))
def b8B (K:W.Frag):R2:=fun x y H Q=>∃p xs i v,x= .ref p/\y= .int i/\SqL K H p xs/\atI xs i=some v/\Q v H
def b8A (K:W.Frag):R2:=fun x y H Q=>∃p xs i v,x= .ref p/\y= .int i/\SqT K H p xs/\atI xs i=some v/\Q v H
theorem a9D:IxR X (b8B X.K):=by
 intro value slice pins s σ H x y v u Q I rx ry h hs
 obtain⟨p,xs,i,z,rfl,rfl,hq,he,q⟩:=h
 cases rx
 obtain⟨t,rfl⟩:=ry
 obtain⟨its,r,pl,hz⟩:=I.list hq
 obtain⟨j,h1,h2,h3,h4,h5⟩:=a0J he
 obtain⟨w,ew,rw'⟩:=r.get h2
 have hl:=r.length
 have hn:=xM
 have fin:EP X pins σ Q w s:=⟨z,H,I,rw',q⟩
 by_cases h0:0<=i
 ·have hj:i.toNat=j:=by
   rw[seqIndex_of h0 h5]at h1
   exact Yq h1
  exact item_listR pl.isList h0 (by omega) (by rw[hj];simpa using ew) fin hs
 ·have hj:(i+(its.toArray.size:Int)).toNat=j:=by
   rw[seqIndex_neg (by omega) h4]at h1
   rw[Yz,<-hl]
   exact Yq h1
  exact subscriptTail_builtinR (x:=w) pl.isList.typeIs slot_list_getitem.lookup
   (wpAny_getItem_list_neg (Q:=fun r s'=>r=w/\EP X pins σ Q r s') pl.isList (by omega) (by rw[Yz] <;> omega) (by omega) (by rw[hj];simpa using ew) ⟨rfl,fin⟩) hs
theorem b3J:IxR X (b8A X.K):=by
 intro value slice pins s σ H x y v u Q I rx ry h hs
 obtain⟨p,xs,i,z,rfl,rfl,hq,he,q⟩:=h
 cases rx
 obtain⟨t,rfl⟩:=ry
 obtain⟨its,r,pl,hz⟩:=I.tuple hq
 obtain⟨j,h1,h2,h3,h4,h5⟩:=a0J he
 obtain⟨w,ew,rw'⟩:=r.get h2
 have hl:=r.length
 have hn:=xM
 have fin:EP X pins σ Q w s:=⟨z,H,I,rw',q⟩
 exact subscriptTail_builtinR (x:=w) pl.typeIs slot_tuple_getitem.lookup
  (getItem_tuple (j:=j) (Q:=fun r s'=>r=w/\EP X pins σ Q r s') pl (by omega) (by omega) (by rw[Yz,<-hl];exact h1) (by simpa using ew) ⟨rfl,fin⟩) hs
theorem tK (lo hi:Option Int)(n:Nat):(sliceBounds lo hi none n).1=((HT.sIx n 0 lo:Nat):Int)/\(sliceBounds lo hi none n).2.1=((HT.sIx n n hi:Nat):Int)/\(sliceBounds lo hi none n).2.2=1:=by
 refine⟨?_,?_,rfl⟩
 ·cases lo with
  |none=>simp[sliceBounds,HT.sIx]
  | some i=>
   simp only[sliceBounds,HT.sIx,Option.getD_none,show (1:Int) > 0 by decide,if_true]
   by_cases h:i<0
   ·simp only[h,if_true] <;> omega
   ·simp only[h,if_false] <;> omega
 ·cases hi with
  |none=>simp[sliceBounds,HT.sIx]
  | some i=>
   simp only[sliceBounds,HT.sIx,Option.getD_none,show (1:Int) > 0 by decide,if_true]
   by_cases h:i<0
   ·simp only[h,if_true] <;> omega
   ·simp only[h,if_false] <;> omega
theorem qZ (its:List Value)(lo hi:Option Int):slicePick its.toArray lo hi none=((its.drop (HT.sIx its.length 0 lo)).take (HT.sIx its.length its.length hi-HT.sIx its.length 0 lo)).toArray:=by
 obtain⟨h1,h2,h3⟩:=tK lo hi its.toArray.size
 unfold slicePick
 rw[h1,h2,h3]
 simp only[sliceRange_one,pick_run,Yz] <;> rfl
def b7Y (K:W.Frag):V->Option Int->Option Int->Hp->VK->Prop:=fun x lo hi H Q=>∃a xs,x= .ref a/\SqL K H a xs/\∀p,H p=none->Q (.ref p) (upd H p (.lst (lG xs lo hi)))
theorem a7V:SlR X (b7Y X.K):=by
 intro pins s σ H x v vl vu lo hi sl Q I rx hs pl pu h
 obtain⟨a,xs,rfl,hx,q⟩:=h
 cases rx
 obtain⟨its,r,ht,hz⟩:=I.list hx
 have hlen:=r.length
 refine⟨"list",_,slot_list_getitem.lookup,ht.isList.typeIs,?_⟩
 refine wpAny_getItem_list_slice ht.isList hs pl pu .none (by simp) ?_ (by rw[Yz] <;> omega)
 rw[qZ,<-hlen]
 refine⟨.ref s.heap.objs.size,_,I.laid (t':=s.toks) (o:= .lst (lG xs lo hi)) (fun b ob q=>Yk _ q) (Yd _) ?_,rfl,q _ (I.hok.fresh (Yd _))⟩
 exact⟨Y0 (wA xs lo hi) hz,_,0,(r.drop (HT.sIx xs.length 0 lo)).take (HT.sIx xs.length xs.length hi-HT.sIx xs.length 0 lo),YB _ rfl⟩
def mO:V->Bool
 |.non=>true
 |.bl _=>true
 |.int _=>true
 |.str _=>true
 |_=>false
def eqV:V->V->Bool
 |.non,.non=>true
 |.bl a,.bl b=>a == b
 |.bl a,.int b=>(if a then 1 else 0) == b
 |.int a,.bl b=>a == (if b then 1 else 0)
 |.int a,.int b=>a == b
 |.str a,.str b=>a == b
 |_,_=>false
theorem b3S {A:Around}{s:Shared}{y x:V}{u v:Value}(ry:RelV y u)(rx:RelV x v)(fy:mO y=true)(fx:mO x=true):SeqAt.EqAt A s u v (eqV y x):=by
 cases y with
 | non=>
  cases ry
  cases x with
  |non=>cases rx;exact SeqAt.EqAt.same _
  |bl b=>cases rx;exact SeqAt.EqAt.none_bool b
  |int b=>obtain⟨t,rfl⟩:=rx;exact SeqAt.EqAt.none_int b t
  |str b=>obtain⟨t,rfl⟩:=rx;exact SeqAt.EqAt.none_str b t
  |_=>exact absurd (show false=true from fx) Yt
 | bl a=>
  cases ry
  cases x with
  |non=>cases rx;exact SeqAt.EqAt.bool_none a
  |bl b=>cases rx;exact SeqAt.EqAt.bool_bool a b
  |int b=>obtain⟨t,rfl⟩:=rx;exact SeqAt.EqAt.bool_int a b t
  |str b=>obtain⟨t,rfl⟩:=rx;exact SeqAt.EqAt.bool_str a b t
  |_=>exact absurd (show false=true from fx) Yt
 | int a=>
  obtain⟨t',rfl⟩:=ry
  cases x with
  |non=>cases rx;exact SeqAt.EqAt.int_none a t'
  |bl b=>cases rx;exact SeqAt.EqAt.int_bool a t' b
  |int b=>obtain⟨t,rfl⟩:=rx;exact SeqAt.EqAt.int_int a t' b t
  |str b=>obtain⟨t,rfl⟩:=rx;exact SeqAt.EqAt.int_str a t' b t
  |_=>exact absurd (show false=true from fx) Yt
 | str a=>
  obtain⟨t',rfl⟩:=ry
  cases x with
  |non=>cases rx;exact SeqAt.EqAt.str_none a t'
  |bl b=>cases rx;exact SeqAt.EqAt.str_bool a t' b
  |int b=>obtain⟨t,rfl⟩:=rx;exact SeqAt.EqAt.str_int a t' b t
  |str b=>obtain⟨t,rfl⟩:=rx;exact SeqAt.EqAt.str_str a t' b t
  |_=>exact absurd (show false=true from fx) Yt
 |_=>exact absurd (show false=true from fy) Yt
def eqU (x:V)(u:Value):Bool:=match u with
 |.none=>eqV .non x
 |.bool b=>eqV (.bl b) x
 |.int i _=>eqV (.int i) x
 |.str z _=>eqV (.str z) x
 |_=>false
theorem a6D {x y:V}{u:Value}(r:RelV y u)(f:mO y=true):eqU x u=eqV y x:=by
 cases y with
 |non=>cases r;rfl
 |bl b=>cases r;rfl
 |int i=>obtain⟨t,rfl⟩:=r;rfl
 |str z=>obtain⟨t,rfl⟩:=r;rfl
 |_=>exact absurd (show false=true from f) Yt
theorem mY {x:V}:∀{xs:List V}{us:List Value},Vals xs us->xs.all mO=true->us.any (eqU x)=xs.any fun y=>eqV y x
 |_,_,.nil,_=>rfl
 | y::xs,u::us,.cons r t,f=>by
  rw[XS,XJ]at f
  rw[X3,X3,a6D r f.1,mY t f.2]
theorem jV {A:Around}{s:Shared}{x:V}{v:Value}(rx:RelV x v)(fx:mO x=true):∀{xs:List V}{us:List Value},Vals xs us->xs.all mO=true->∀u∈us,SeqAt.EqAt A s u v (eqU x u)
 |_,_,.nil,_=>fun u hu=>by cases hu
 | y::xs,u::us,.cons r t,f=>fun u' hu=>by
  rw[XS,XJ]at f
  rcases YE.mp hu with rfl | hu
  ·rw[a6D r f.1];exact b3S r rx f.1 fx
  ·exact jV rx fx t f.2 u' hu
def inV (x:V)(xs:List V):Bool:=xs.any fun y=>eqV y x
def rIn (K:W.Frag)(neg:Bool):R2:=fun x y H Q=>∃p xs,y= .ref p/\(SqL K H p xs\/SqT K H p xs)/\mO x=true/\xs.all mO=true/\Q (.bl (if neg then !inV x xs else inV x xs)) H
theorem a1H:OpR X (compareOp .In) (rIn X.K false):=by
 intro pins s σ H x y v u Q I rx ry h
 obtain⟨p,xs,rfl,hq,fx,fs,q⟩:=h
 cases ry
 rcases hq with hq | hq
 ·obtain⟨its,r,pl,hz⟩:=I.list hq
  refine SeqAt.in_listAt (eqU x) pl.isList (fun w hw=>jV rx fx r fs w (by simpa using hw)) ⟨.bl _,H,I,rfl,?_⟩
  rw[show its.toArray.any (eqU x)=its.any (eqU x) by simp,mY r fs]
  exact q
 ·obtain⟨its,r,pl,hz⟩:=I.tuple hq
  refine SeqAt.in_tupleAt (eqU x) pl (fun w hw=>jV rx fx r fs w (by simpa using hw)) ⟨.bl _,H,I,rfl,?_⟩
  rw[show its.toArray.any (eqU x)=its.any (eqU x) by simp,mY r fs]
  exact q
theorem tR:OpR X (compareOp .NotIn) (rIn X.K true):=by
 intro pins s σ H x y v u Q I rx ry h
 obtain⟨p,xs,rfl,hq,fx,fs,q⟩:=h
 cases ry
 rcases hq with hq | hq
 ·obtain⟨its,r,pl,hz⟩:=I.list hq
  refine SeqAt.notIn_listAt (eqU x) pl.isList (fun w hw=>jV rx fx r fs w (by simpa using hw)) ⟨.bl _,H,I,rfl,?_⟩
  rw[show its.toArray.any (eqU x)=its.any (eqU x) by simp,mY r fs]
  exact q
 ·obtain⟨its,r,pl,hz⟩:=I.tuple hq
  refine SeqAt.notIn_tupleAt (eqU x) pl (fun w hw=>jV rx fx r fs w (by simpa using hw)) ⟨.bl _,H,I,rfl,?_⟩
  rw[show its.toArray.any (eqU x)=its.any (eqU x) by simp,mY r fs]
  exact q
theorem uB:fP X (.builtin "len") (fun xs H Q=>∃p ys,xs= [.ref p]/\(SqL X.K H p ys\/SqT X.K H p ys)/\Q (.int ys.length) H):=by
 intro pins s σ H xs us Q I r h
 obtain⟨p,ys,rfl,hq,q⟩:=h
 obtain⟨u,rfl,rx⟩:=vals1 r
 cases rx
 have hn:=xM
 rcases hq with hq | hq
 ·obtain⟨its,r',pl,hz⟩:=I.list hq
  have hlen:=r'.length
  exact Calls.call_len_list pl.isList (by simp only[Yz] <;> omega) ⟨.int ys.length,H,I.tok _,⟨s.toks+1,by rw[Yz,hlen]⟩,q⟩
 ·obtain⟨its,r',pl,hz⟩:=I.tuple hq
  have hlen:=r'.length
  exact len_tuple pl (by simp only[Yz] <;> omega) ⟨.int ys.length,H,I.tok _,⟨s.toks+1,by rw[Yz,hlen]⟩,q⟩
theorem uA:fP X (.type "list") (fun xs H Q=>∃p ys,xs= [.ref p]/\(SqL X.K H p ys\/SqT X.K H p ys)/\∀l,H l=none->Q (.ref l) (upd H l (.lst ys))):=by
  intro pins s σ H xs us Q I r h
  obtain⟨p,ys,rfl,hq,q⟩:=h
  obtain⟨u,rfl,rx⟩:=vals1 r
  cases rx
  have fin:∀(its:List Value),Vals ys its->ys.length<=sizeLine->∀(h':Heap)(c':Nat),(∀b o',s.heap.get? b=some o'->h'.get? b=some o')->
      h'.get? s.heap.objs.size=some { cls:= .type "list",dict:=none,data:= .seq its.toArray c',slots:=#[] }->EP X pins σ Q (.ref s.heap.objs.size) { s with heap:=h' }:=fun its r' hz h' c' kp e=>
    ⟨.ref s.heap.objs.size,_,I.laid (t':=s.toks) kp (Yd _) (show dG X.prog X.w _ h' _ (.lst ys) from ⟨hz,its,c',r',e⟩),rfl,q _ (I.hok.fresh (Yd _))⟩
  rcases hq with hq | hq
  · obtain⟨its,r',pl,hz⟩:=I.list hq
    have hlen:=r'.length
    obtain⟨o,ho,hc,n,hd⟩:=pl.isList
    exact call_list_seq p (.inl rfl) ho hc hd (fun h' c' kp e=>fin its r' hz h' c' kp e) (by simp only[Yz] <;> omega)
  · obtain⟨its,r',pl,hz⟩:=I.tuple hq
    have hlen:=r'.length
    obtain⟨o,ho,hc,n,hd⟩:=pl
    exact call_list_seq p (.inr rfl) ho hc hd (fun h' c' kp e=>fin its r' hz h' c' kp e) (by simp only[Yz] <;> omega)
def tyV (K:W.Frag)(T:String)(x:V)(H:Hp):Prop:=match x with
  |.str _=>T="str"
  |.int _=>T="int"
  | .ref p=>(T="list"/\∃xs,SqL K H p xs)\/(T="tuple"/\∃o,K.lookup p=some o/\o.cls= .type "tuple"/\o.dict=none)\/
      (T="dict"/\((∃kvs,H p=some (.dK kvs))\/∃kvs,H p=some (.dT kvs)))\/(T="set"/\∃S n,H p=some (.set S n))
  |_=>False
theorem a2W {pins:List (Addr×Obj)}{σ:St}{H:Hp}{s:Shared}{T:String}{x:V}{v:Value}(I:Inv X pins σ H s)(r:RelV x v)(ty:tyV X.K T x H) :
  s.TypeIs v T/\∀a,v= .ref a->∃ob,s.heap.get? a=some ob/\ob.dict=none:=by
 cases x with
 | str z=>
  obtain⟨t,rfl⟩:=r
  cases (show T="str" from ty)
  exact⟨typeIs_str s z t,fun _ e=>nomatch e⟩
 | int i=>
  obtain⟨t,rfl⟩:=r
  cases (show T="int" from ty)
  exact⟨typeIs_int s i t,fun _ e=>nomatch e⟩
 | ref p =>
  cases r
  rcases ty with ⟨rfl,xs,hq⟩ | ⟨rfl,o,hk,hc,hd⟩ | ⟨rfl,hk⟩ | ⟨rfl,S,n,hk⟩
  ·obtain⟨its,_,pl,_⟩:=I.list hq
   refine⟨pl.isList.typeIs,fun a e=>?_⟩
   cases e
   obtain⟨o,n,e,c,hd,_⟩:=pl
   exact⟨o,e,hd⟩
  ·refine⟨⟨o,I.kIn p o hk,hc⟩,fun a e=>?_⟩
   cases e
   exact⟨o,I.kIn _ o hk,hd⟩
  ·have z:∃o,s.heap.get? p=some o/\o.ExactDict:=by
    rcases hk with ⟨kvs,hk⟩ | ⟨kvs,hk⟩
    ·obtain⟨_,_,_,_,o,_,_,e,ex,_⟩:=I.hok p _ hk
     exact⟨o,e,ex⟩
    ·obtain⟨_,_,_,_,o,_,_,e,ex,_⟩:=I.hok p _ hk
     exact⟨o,e,ex⟩
   obtain⟨o,e,ex⟩:=z
   refine⟨⟨o,e,ex.1⟩,fun a e2=>?_⟩
   cases e2
   exact⟨o,e,ex.2.1⟩
  ·obtain⟨o,_,_,_,e,ex,_⟩:=I.hok p _ hk
   refine⟨⟨o,e,ex.1⟩,fun a e2=>?_⟩
   cases e2
   exact⟨o,e,ex.2.1⟩
 |_=>exact False.elim ty
def b7T (K:W.Frag)(T:String)(r:V->List V->Hp->VK->Prop)(to:TE):TE:=fun σ H Q=>to σ H fun x H1=>tyV K T x H1/\r x [] H1 Q
def tBM (K:W.Frag)(T:String)(r:V->List V->Hp->VK->Prop)(to:TE)(t:TA):TE:=fun σ H Q=>to σ H fun x H1=>tyV K T x H1/\t σ H1 fun xs H2=>r x xs H2 Q
variable {o e:Expr}{es:List Expr}{to:TE}{t:TA}{name:Str}{apos cpos:Pos}{T id:String}{r:V->List V->Hp->VK->Prop}
theorem b2H (pa:PlainAttrs T)(slot:Slot T name id)(hty:typeOf (.builtin id)=pure (.type "method_descriptor"))(hm:MtR X id r)(ho:PE X o to)
  (hbase:attributeBase o name X.env (eval o X.env)=eval o X.env:=by rfl) (hline:(apos.endLine == cpos.line)=true:=by rfl):PE X (.Call (.Attribute o name apos) [] [] cpos) (b7T X.K T r to):=by
 intro pins s σ H Q I h
 refine wpAny_Call_method0_late hbase hline (thn (ho pins s σ H _ I h) fun v s1 hz9=>?_)
 obtain⟨x,H1,I1,r1,ty,q1⟩:=hz9
 obtain⟨h1,h2⟩:=a2W I1 r1 ty
 exact⟨T,id,pa,slot,hty,h1,h2,Calls.callWith_builtin rfl (PySem.evalArgs_none (hm pins s1 σ H1 x [] v [] Q I1 r1 .nil q1))⟩
theorem a4Y (pa:PlainAttrs T)(slot:Slot T name id)(hty:typeOf (.builtin id)=pure (.type "method_descriptor"))(hm:MtR X id r)(ho:PE X o to)(ha:PA X (e::es) t)
  (hbase:attributeBase o name X.env (eval o X.env)=eval o X.env:=by rfl)
  (hfew:((backTo cpos (starEach (e::es) X.env)).all (fun x=>!x.1) && (backToKw cpos (keywordEach [] X.env)).all (fun x=>x.1.isSome)
   && decide ((e::es).length+([]:List Keyword).length+(if ([]:List Keyword).isEmpty then 0 else 1)<30))=true:=by rfl)
  (hline:(apos.endLine == cpos.line)=true:=by rfl) (hs:starEach (e::es) X.env=(false,eval e X.env)::starEach es X.env:=by rfl) (hplain:(backTo cpos (starEach es X.env)).any (·.1)=false:=by rfl) :
  PE X (.Call (.Attribute o name apos) (e::es) [] cpos) (tBM X.K T r to t):=by
 intro pins s σ H Q I h
 refine wpAny_Call_method_late hbase hfew hline rfl (thn (ho pins s σ H _ I h) fun v s1 hz9=>?_)
 obtain⟨x,H1,I1,r1,ty,q1⟩:=hz9
 obtain⟨h1,h2⟩:=a2W I1 r1 ty
 refine⟨T,id,pa,slot,hty,h1,h2,?_⟩
 have hA:=ha cpos pins s1 σ H1 _ I1 q1
 rw[hs]at hA ⊢
 refine Calls.callWith_builtin (by show (false || (backTo cpos (starEach es X.env)).any (·.1))=false;rw[hplain] <;> rfl) (Calls.evalArgs_plain ?_)
 exact thn hA fun us s2 ⟨vs,H2,I2,r2,q2⟩=>hm pins s2 σ H2 x vs v us Q I2 r1 r2 q2
end
end L2
namespace L2
open PySem PySem.Spec PyProof.Rows
def MtM (X:Cx)(id:String)(r:V->List V->Hp->VK->Prop):Prop:=
 ∀ (pins:List (Addr×Obj))(s:Shared)(σ:St)(H:Hp)(x:V)(xs:List V)(v:Value)(us:List Value)(Q:VK),Inv X pins σ H s->RelV x v->Vals xs us->r x xs H Q->
  wpAny (model X.prog X.w) X.A (call (.builtin id) (v::us)) (EP X pins σ Q) X.xe s
theorem Vals.one:∀{x:V}{us:List Value},Vals [x] us->∃u,us= [u]/\RelV x u
 |_,_,.cons r .nil=>⟨_,rfl,r⟩
theorem Vals.two:∀{x y:V}{us:List Value},Vals [x,y] us->∃u v,us= [u,v]/\RelV x u/\RelV y v
 |_,_,_,.cons r (.cons q .nil)=>⟨_,_,rfl,r,q⟩
theorem Vals.eraseIdx:∀{xs:List V}{us:List Value}(i:Nat),Vals xs us->Vals (xs.eraseIdx i) (us.eraseIdx i)
 |_,_,_,.nil=> .nil
 |_,_,0,.cons _ t=>t
 |_,_,i+1,.cons r t=> .cons r (Vals.eraseIdx i t)
theorem Vals.rep {xs:List V}{us:List Value}(h:Vals xs us):∀k:Nat,Vals (List.replicate k xs).flatten (List.replicate k us).flatten
 |0=> .nil
 | k+1=>by
  rw[Xy,Xy,XE,XE]
  exact Vals.append h (Vals.rep h k)
theorem rY {α:Type}:∀(l:List α)(i:Nat),(l.eraseIdx i).length<=l.length
 |[],_=>Yd _
 |_::_,0=>X7 _
 |_::r,i+1=>Nat.succ_le_succ (rY r i)
theorem foldl_rep (its:List Value):∀(k:Nat)(acc:List Value),
  List.foldl (fun x1 x2=>x1++x2) acc.toArray (List.replicate k its.toArray)=(acc++(List.replicate k its).flatten).toArray
 |0,acc=>by simp
 | k +1,acc=>by
  have e:acc.toArray++its.toArray=(acc++its).toArray:=by simp
  have e2:(acc++its)++(List.replicate k its).flatten=acc++(List.replicate (k+1) its).flatten:=by
   rw[Xy,XE,YF]
  rw[<-e2,<-foldl_rep its k (acc++its),<-e,Xy,Y3]
section
variable {X:Cx}{pins:List (Addr×Obj)}{σ:St}{H:Hp}{s:Shared}{l b:Addr}{xs ys zs:List V}
theorem Inv.lset {its its':List Value}{n:Nat}{f:Array Value->Array Value}{t':Nat}(I:Inv X pins σ H s)(hH:H l=some (.lst xs))
  (e:s.heap.get? l=some { cls:= .type "list",data:= .seq its.toArray n }) (hf:f its.toArray=its'.toArray) (hv:Vals ys its') (hz:ys.length<=sizeLine) :
  Inv X pins σ (upd H l (.lst ys)) { s with heap:=s.heap.update l (Obj.mapSeq f),toks:=t' }:=by
 have q:=PySem.IsL.update e f
 rw[hf]at q
 refine I.write (x:=l) (e:=l) (by rw[hH];exact trivial) (.inl rfl) (fun b' u hb hu=>(Xd s.heap (Obj.mapSeq f) (Ne.symm hb)).trans hu) ⟨_,q⟩ ?_
 exact⟨hz,its',_,hv,q⟩
theorem Inv.lnew {its:List Value}{t':Nat}(I:Inv X pins σ H s)(hv:Vals ys its)(hz:ys.length<=sizeLine) :
  Inv X pins σ (upd H s.heap.objs.size (.lst ys)) { s with heap:=s.heap.push { cls:= .type "list",data:= .seq its.toArray },toks:=t' }:=
 I.laid (fun _ _ q=>Yk _ q) (Yd _) ⟨hz,its,0,hv,YB _ rfl⟩
theorem Inv.fresh (I:Inv X pins σ H s):H s.heap.objs.size=none:=I.hok.fresh (Yd _)
theorem Inv.lstM (I:Inv X pins σ H s)(hH:H l=some (.lst xs)):xs.length<=sizeLine/\∃(its:List Value)(n:Nat),Vals xs its/\xs.length=its.length/\s.heap.get? l=some { cls:= .type "list",data:= .seq its.toArray n }:=by
 obtain⟨z,its,n,r,e⟩:=I.hok l _ hH
 exact⟨z,its,n,r,r.length,e⟩
theorem vC {n:Nat}(h:n<=sizeLine):Builtin.List.listTooLong n=false:=by
 unfold Builtin.List.listTooLong
 exact Yu (by omega)
end
section
variable {X:Cx}
def a8B:V->List V->Hp->VK->Prop:=fun x vs H Q=>∃l xs y,x= .ref l/\vs= [y]/\H l=some (.lst xs)/\xs.length<sizeLine/\Q .non (upd H l (.lst (xs++[y])))
theorem a1M:MtM X "list.append" a8B:=by
 intro pins s σ H x vs v us Q I rx rv h
 obtain⟨l,xs,y,rfl,rfl,hH,hz,q⟩:=h
 cases rx
 obtain⟨u,rfl,ru⟩:=rv.one
 obtain⟨z,its,n,r,hl,e⟩:=I.lstM hH
 refine call_meets F.slot_list_append ⟨_,e,rfl⟩ F.entry_list_append (F.args_list_append_2 _ _) (PySem.list_append l its.toArray n u (by rw[Yz];omega)) ⟨e,?_⟩
 refine⟨.non,_,I.lset (its':=its++[u]) hH e (by simp) (r.append (.cons ru .nil)) ?_,rfl,q⟩
 rw[Yc,Yy]
 omega
def a8A:V->List V->Hp->VK->Prop:=fun x vs H Q=>∃l b xs zs,x= .ref l/\vs= [.ref b]/\H l=some (.lst xs)/\H b=some (.lst zs)/\xs.length+zs.length<=sizeLine/\Q .non (upd H l (.lst (xs++zs)))
theorem a1L:MtM X "list.extend" a8A:=by
 intro pins s σ H x vs v us Q I rx rv h
 obtain⟨l,b,xs,zs,rfl,rfl,hH,hB,hz,q⟩:=h
 cases rx
 obtain⟨u,rfl,ru⟩:=rv.one
 cases ru
 obtain⟨z,its,n,r,hl,e⟩:=I.lstM hH
 obtain⟨z2,its2,n2,r2,hl2,e2⟩:=I.lstM hB
 have hsz:its.toArray.size+its2.toArray.size<=sizeLine:=by rw[Yz,Yz];omega
 have hlong:¬ (!its.toArray.isEmpty && Builtin.List.listTooLong (its.toArray.size+its2.toArray.size))=true:=by
  rw[vC hsz,Bool.and_false]
  exact Yt
 refine call_meets F.slot_list_extend ⟨_,e,rfl⟩ F.entry_list_extend (F.args_list_extend_2 _ _)
  (AutoSeq1.list_extend_list_list_0 l its.toArray n b its2.toArray n2 hlong (by rw[Yz];omega) (by omega)) ⟨e,e2,?_⟩
 refine⟨.non,_,I.lset (its':=its++its2) hH e (by simp) (r.append r2) ?_,rfl,q⟩
 rw[Yc]
 omega
def b2C:V->List V->Hp->VK->Prop:=fun x vs H Q=>∃l xs i k y,x= .ref l/\vs= [.int i]/\H l=some (.lst xs)/\ -(2 ^ 63)<=i/\i<2 ^ 63/\seqIndex? i xs.length=some k/\xs[k]? =some y/\Q y (upd H l (.lst (xs.eraseIdx k)))
theorem a5H:MtM X "list.pop" b2C:=by
 intro pins s σ H x vs v us Q I rx rv h
 obtain⟨l,xs,i,k,y,rfl,rfl,hH,h1,h2,hk,hy,q⟩:=h
 cases rx
 obtain⟨u,rfl,ru⟩:=rv.one
 obtain⟨t,rfl⟩:=ru
 obtain⟨z,its,n,r,hl,e⟩:=I.lstM hH
 obtain⟨w,hw,rw'⟩:=r.get hy
 refine call_meets F.slot_list_pop ⟨_,e,rfl⟩ F.entry_list_pop (F.args_list_pop_2 _ _)
  (MeetsSeq.list_pop_at l its.toArray n i t k w (fitsIndex_both h1 h2) (by rw[Yz,<-hl];exact hk) (by rw[<-Array.getElem?_toList];exact hw) (by rw[Yz];omega)) ⟨e,?_⟩
 refine⟨y,_,I.lset (its':=its.eraseIdx k) hH e ?_ (r.eraseIdx k) ?_,rw',q⟩
 ·show its.toArray.eraseIdxIfInBounds k=(its.eraseIdx k).toArray
  rw[List.eraseIdxIfInBounds_toArray]
 ·have:=rY xs k
  omega
def b8C:R2:=fun x y H Q=>∃l b xs zs,x= .ref l/\y= .ref b/\H l=some (.lst xs)/\H b=some (.lst zs)/\xs.length+zs.length<=sizeLine/\∀p,H p=none->Q (.ref p) (upd H p (.lst (xs++zs)))
theorem b2S:OpR X (binaryOp .Add) b8C:=by
 intro pins s σ H x y v u Q I rx ry h
 obtain⟨l,b,xs,zs,rfl,rfl,hH,hB,hz,q⟩:=h
 cases rx
 cases ry
 obtain⟨z,its,n,r,hl,e⟩:=I.lstM hH
 obtain⟨z2,its2,n2,r2,hl2,e2⟩:=I.lstM hB
 refine PySem.P.add_list e e2 ?_ (by rw[Yz,Yz];omega)
 have ea:its.toArray++its2.toArray=(its++its2).toArray:=by simp
 rw[ea]
 exact⟨.ref _,_,I.lnew (t':=s.toks) (r.append r2) (by rw[Yc];omega),rfl,q _ I.fresh⟩
def b7Z:R2:=fun x y H Q=>∃l k xs,x= .ref l/\y= .int k/\H l=some (.lst xs)/\ -(2 ^ 63)<=k/\k<2 ^ 63/\xs.length*k.toNat<=sizeLine/\
 ∀p,H p=none->Q (.ref p) (upd H p (.lst (List.replicate k.toNat xs).flatten))
theorem len_rep {α:Type}(xs:List α)(k:Nat):(List.replicate k xs).flatten.length=k*xs.length:=by
 induction k with
 |zero=>simp
 |succ k ih=>rw[Xy,XE,Yc,ih,Nat.succ_mul,Nat.add_comm]
theorem b2P:OpR X (binaryOp .Mult) b7Z:=by
 intro pins s σ H x y v u Q I rx ry h
 obtain⟨l,k,xs,rfl,rfl,hH,h1,h2,hz,q⟩:=h
 cases rx
 obtain⟨t,rfl⟩:=ry
 obtain⟨z,its,n,r,hl,e⟩:=I.lstM hH
 have hlen:its.toArray.size*k.toNat<=sizeLine:=by rw[Yz,<-hl];exact hz
 have hcap:¬ its.toArray.size*k.toNat > (2 ^ 63-1) / 8:=by
  have:(sizeLine:Nat)<=(2 ^ 63-1) / 8:=by decide
  omega
 have hfit:¬ (!Builtin.List.listFitsIndex k)=true:=by
  rw[fitsIndex_both h1 h2]
  exact Yt
 have hlong:¬ Builtin.List.listTooLong (its.toArray.size*k.toNat)=true:=by
  rw[vC hlen]
  exact Yt
 have hnew:List.foldl (fun x1 x2=>x1++x2) #[] (List.replicate (if its.toArray.isEmpty=true then 0 else k.toNat) its.toArray)=(List.replicate k.toNat its).flatten.toArray:=by
  have f0:∀m:Nat,List.foldl (fun x1 x2=>x1++x2) #[] (List.replicate m its.toArray)=(List.replicate m its).flatten.toArray:=fun m=>by
   have:=foldl_rep its m []
   rw[List.nil_append]at this
   exact this
  rw[f0]
  cases its with
  |nil=>simp
  |cons a r'=>rw[if_neg (by simp)]
 refine wpAny_binaryOp_repeat_ref (T:="list") (U:="int") (by decide) ⟨_,e,rfl⟩ (fun s'=>typeIs_int s' k t) noFill_list_mul F.fills_int_mul F.slot_int_rmul repeat_list F.slot_int_index.lookup
  (call_meets F.slot_int_rmul (typeIs_int s k t) F.entry_int_rmul (F.args_int_rmul_2 _ _) (int___rmul___int_list k t l its.toArray n)
   ⟨e,rfl,⟨_,e,rfl⟩,call_meets F.slot_list_mul ⟨_,e,rfl⟩ F.entry_list_mul (F.args_list_mul_2 _ _) (AutoListH.list___mul___list_int_3 l its.toArray n k t hfit hcap hlong) ⟨e,?_⟩⟩)
 rw[hnew]
 exact⟨.ref _,_,I.lnew (t':=s.toks) (r.rep k.toNat) (by rw[len_rep,Nat.mul_comm];exact hz),rfl,q _ I.fresh⟩
end
section
variable {prog:Program}{w:World}{A:Around}{E:Value->Shared->Prop}{s:Shared}
end
section
variable {X:Cx}
end
end L2
namespace Att
open PySem PySem.W PySem.Calls PyProof.Rows
theorem oM {P:Params}{h:Heap}:∀(ns:List Int)(vs:List Value),WellAll P h vs (ns.map WData.int)->IntsAre vs ns:=by
 intro ns
 induction ns with
 | nil=>
  intro vs w
  rw[List.map_nil]at w
  cases w
  exact .nil
 | cons n ns ih=>
  intro vs w
  rw[YS]at w
  cases w with
  | cons a b=>
   cases a
   exact .cons _ _ (ih _ b)
theorem a1C {l:OpenLaw}{n:Nat}(hn:l.most=some n){P:Params}{h:Heap}{args:List WData}{vals:List Value}
  (hpre:l.row.toRowW.claim.pre args=true) (hwl:WellAll P h vals args) :
  ∃a vs ns,vals= [Value.ref a]/\args= [WData.list (ns.map WData.int)]/\h.get? a=some { cls:= .type "list",data:= .seq vs.toArray }/\IntsAre vs ns/\ns.length<=n:=by
 have hsh:WShape.hasAll [] args [.list .int]=true:=(pre_splitW hpre).1
 have hc:l.pre.holds [] { args:=args }=true:=(pre_splitW hpre).2
 obtain⟨d,r,rfl,h1,h2⟩:=hasAllW_cons hsh
 obtain rfl:=hasAllW_nil h2
 obtain⟨xs,rfl,h3⟩:=hasW_list h1
 obtain⟨ns,rfl⟩:=items_int h3
 have hlen:ns.length<=n:=by
  unfold OpenLaw.pre at hc
  have h4:(WTm.not (.lt (.lit (.int (n:Int))) (.len (.arg 0)))).holds [] { args:=[.list (ns.map .int)] }=true:=by
   have h4:=(holds_andW hc).1
   rw[hn]at h4
   exact h4
  have h5:=condW_of h4 (w_not (w_lt w_lit (w_len_list (w_arg rfl))))
  rw[Ya]at h5
  refine Nat.le_of_not_lt fun q=>?_
  have q':(n:Int)<((ns.length:Nat):Int):=by omega
  first
   |(rw[Yl q']at h5;exact absurd h5 (by decide))
   |(simp at h5;omega)
 cases hwl with
 | cons w1 w2=>
  cases w2
  cases w1 with
  |list ho hall=>exact⟨_,_,ns,rfl,rfl,ho,oM ns _ hall,hlen⟩
theorem a1F (l:OpenLaw)(args:List WData):l.row.toRowW.claim.post args (.bool true) args=true:=
 postW_of (r:=l.row.toRowW) (X:=(true == true))
  (show WShape.has [] (.bool true) .bool=true by first | rfl | decide | simp[WShape.has,WShape.arms,WShape.armsAll])
  (show (WTm.eq .res (.lit (.bool true))).value [] { args:=args,res:=some (.bool true),after:=args }=some (.bool (true == true)) from w_eq_bool (w_res rfl) w_lit) rfl
theorem attach_call {l:OpenLaw}{n:Nat}{q:Program}{loose:List Str}{XP:(Str->Option Value)->Heap->Prop}{YP:World->Heap->Prop}{d:DefRec}
  (hn:l.most=some n) (hdf:d.params.defaults= [])
  (call:∀(w:World)(s₀ s₁:Shared)(mg mb:Str->Option Value)(fa:Addr)(o:Obj)(pm cd doc:Value)(a:Addr)(vs:List Value)(ns:List Int),
   Ground q loose [] XP w s₀ mg mb s₁.heap->YP w s₁.heap->
   s₁.heap.get? fa=some o->o.data= .func (docDef d.name d.params d.body d.scope pm cd doc)->s₁.heap.CodeRec cd d.name->mg d.name=some (.ref fa)->
   s₁.heap.get? a=some { cls:= .type "list",data:= .seq vs.toArray }->IntsAre vs ns->ns.length<=n->s₁.gens=#[]->
   codeAny (model l.prog w) callerA (.call (.ref fa) ⟨[.ref a], []⟩) (fun r s'=>r= .ok (.ret (.bool true))/\OldK s₁.heap s'.heap/\s'.os=s₁.os/\AllBare s'.gens) s₁) :
  WalkO q loose XP YP l.row.toRowW d [] (fun f vs=>PySem.call f vs):=by
 intro w s₀ s₁ mg mb G Y fa o pm cd doc dV kV ho hd hcd hD hmg hg args vals as hpre hlay hrd hwl hlo
 obtain rfl:dV= .none:=Dflts.none hD hdf
 obtain rfl:kV= .none:=Dflts.noKw hD
 obtain⟨a,vs,ns,rfl,rfl,hobj,hints,hlen⟩:=a1C hn hpre hwl
 refine enter_call (X5 (call w s₀ s₁ mg mb fa o pm cd doc a vs ns G Y ho (fd_plain hd) hcd hmg hobj hints hlen hg) fun r s' hq=>?_)
 obtain⟨rfl,h2,h3,h4⟩:=hq
 exact⟨.inl ⟨.bool true,.bool true, [],rfl,fun _=>rfl,.bool true,a1F l _,fun _=>⟨List.Pairwise.nil,fun _ hm=>(nomatch hm)⟩⟩,h2,h3,h4⟩
section
variable {prog:Program}{w:World}{A:Around}{E:Value->Shared->Prop}{s:Shared}{K:Frag}
def ledger (h:Heap)(L d:Addr):List (Addr×Obj):=(List.range h.objs.size).filterMap fun a=>if a=L\/a=d then none else (h.get? a).map fun o=>(a,o)
end
end Att
namespace L2
open PySem PySem.Spec PyProof.Rows
theorem nG:∀{vs:List Value}{ns:List Int},IntsAre vs ns->Vals (ns.map V.int) vs
 |_,_,.nil=> .nil
 |_,_,.cons n t h=> .cons ⟨t,rfl⟩ (nG h)
def Only (H:Hp):Prop:=∀b,H b=none\/∃o xs,H b=some (.frz o (.lst xs))
theorem a5R {P:Program}{w:World}{K:W.Frag}{mg mb:Str->Option Value}{CX:CXT}{k:Nat}{fa a:Addr}{fd:FuncData}{x:Str}{sp:Sp}{s₁:Shared}{vs:List Value}{ns:List Int}
    (KX:K.In s₁.heap) (hns:s₁.heap.Ns mainGlobals mg) (hb:s₁.heap.Ns builtinsNs mb) (hbb:∀x:Str,x≠"__name__"->mb x=bootBuiltins x) (hlim:s₁.heap.NoLimit) (hg:s₁.gens=#[])
    (ha:s₁.heap.get? a=some { cls:= .type "list",data:= .seq vs.toArray }) (hi:IntsAre vs ns) (hl:ns.length<=sizeLine) (hr:dM k callerA)
    (F:∀base:Heap,K.In base->base.Ns mainGlobals mg->fM P w K mg base CX k fa fd [x] sp) (hbind:∀(s:Shared)(u:Value),BindsTo s fd ⟨[u], []⟩ [(x,u)])
    (hsp:∀H:Hp,Only H->SqL K H a (ns.map V.int)->sp [.ref a] H (fun v _=>v= .bl true) fun _ _ _=>False)
    (hCX:∀H e s',CX [] H s₁ (fun _ _ _=>False) e s'->False) :
    codeAny (model P w) callerA (.call (.ref fa) ⟨[.ref a], []⟩) (fun r s'=>r= .ok (.ret (.bool true))/\OldK s₁.heap s'.heap/\s'.os=s₁.os/\AllBare s'.gens) s₁:=by
  have rv:=nG hi
  have lenV:=hi.length
  have core :∀H:Hp,Only H->SqL K H a (ns.map V.int)->HOk P w H s₁.heap->(∀b,H b≠none->b=a)->(H a≠none->K.lookup a=none)->
      codeAny (model P w) callerA (.call (.ref fa) ⟨[.ref a], []⟩) (fun r s'=>r= .ok (.ret (.bool true))/\OldK s₁.heap s'.heap/\s'.os=s₁.os/\AllBare s'.gens) s₁:=by
    intro H hO hS hok hA hK
    have base_of:∀{b:Addr}{o:Obj},s₁.heap.get? b=some o->H b=none->(lZ s₁.heap H).get? b=some o:=fun e n=>vU e n
    have noA:∀{b:Addr}{o:Obj}{es:Array DictEntry}{ep:Nat},s₁.heap.get? b=some o->o.data= .dict es ep->H b=none:=fun {b o es ep} e d=>by
      cases q:H b with
      |none=>rfl
      | some u=>
        have e':b=a:=hA b (by rw[q];simp)
        subst e'
        rw[ha]at e;cases e
        have d':Data.seq vs.toArray _=Data.dict es ep:=d
        cases d'
    have nsK:∀{b:Addr}{m:Str->Option Value},s₁.heap.Ns b m->(lZ s₁.heap H).Ns b m:=fun {b m} ⟨o,es,ep,e,d,r⟩=>⟨o,es,ep,base_of e (noA e d),d,r⟩
    have hKb:K.In (lZ s₁.heap H):=fun b o e=>base_of (KX b o e) (by
      cases q:H b with
      |none=>rfl
      | some u=>
        have e':b=a:=hA b (by rw[q];simp)
        subst e'
        rw[hK (by rw[q];simp)]at e;cases e)
    have hM:Mod K mg (lZ s₁.heap H):=⟨hKb,nsK hns,⟨mb,nsK hb,hbb⟩,let ⟨mc,h1,h2⟩:=hlim;⟨mc,nsK h1,h2⟩⟩
    have e0:nZ P w K mg (lZ s₁.heap H) callerA [] s₁ H:=⟨rfl,hM,fun b o e=>zG e,Nat.le_of_eq (sH _ _),trivial,fun b hb=>absurd (show b∈([]:List Addr) from hb) (by simp),hok,.of_eq hg⟩
    refine X5 ((F _ hKb (nsK hns)).run callerA [] s₁ H ⟨[.ref a], []⟩ [.ref a] [.ref a] _ _ hr e0 (hbind s₁ (.ref a)) (.cons rfl .nil) (hsp H hO hS)) fun r s' h=>?_
    cases r with
    |error e=>exact(hCX H e s' h).elim
    | ok fl =>
      cases fl with
      |next=>exact False.elim h
      |brk=>exact False.elim h
      |cont=>exact False.elim h
      | ret u=>
        obtain⟨v,H',os,bare,un,hok',r',q⟩:=h
        have q':v= .bl true:=q
        subst q'
        obtain rfl:u=Value.bool true:=r'
        refine⟨rfl,OldK.of_keep fun b o e=>?_,os,bare⟩
        cases q:H b with
        |none=>exact un.keep b o e q (by intro z;exact absurd (show b∈([]:List Addr) from z) (by simp)) (by simp)
        | some u=>
          rcases hO b with z | ⟨ob,xs,z⟩
          · rw[q]at z;cases z
          · have z2:=un.frzs b ob _ z
            obtain⟨e1,_⟩:=hok b _ z
            obtain⟨e2,_⟩:=hok' b _ z2
            rw[e]at e1;cases e1
            exact e2
  cases hk:K.lookup a with
  | some o=>
    have e:=KX a o hk
    rw[ha]at e
    cases e
    refine core (fun _=>none) (fun _=> .inl rfl) (.inr ⟨_,vs.toArray,_,hk,rfl,rfl,rfl,by rw[Yz,lenV];exact hl,by simpa using rv⟩) (fun b u z=>by have z':(none:Option HO)=some u:=z;cases z') (fun b z=>absurd rfl z) fun z=>absurd rfl z
  | none =>
    refine core (fun b=>if b=a then some (.frz { cls:= .type "list",data:= .seq vs.toArray } (.lst (ns.map V.int))) else none) (fun b=>?_) (.inl (.inr ⟨{ cls:= .type "list",data:= .seq vs.toArray },if_pos rfl⟩)) (fun b u z=>?_) (fun b z=>?_) fun _=>hk
    · by_cases hb:b=a
      · exact .inr ⟨_,_,if_pos hb⟩
      · exact .inl (if_neg hb)
    · by_cases hb:b=a
      · have z':=(if_pos hb).symm.trans z
        cases z'
        subst hb
        exact⟨ha,by rw[Ya];exact hl,vs,_,rv,ha⟩
      · have z':=(if_neg hb).symm.trans z
        cases z'
    · by_cases hb:b=a
      · exact hb
      · exact absurd (if_neg hb) z
end L2
namespace L2
open PySem PySem.Spec PyProof.Rows
abbrev KOf {K:W.Frag}{h:Heap}(_:K.In h):W.Frag:=K
theorem b7G {l:W.OpenLaw}{n k:Nat}{q:Program}{loose:List Str}{XP:(Str->Option Value)->Heap->Prop}{YP:World->Heap->Prop}{d:DefRec}{K:Params->W.Frag}{CX:World->CXT}{sp:World->Sp}{x:Str}
  (hn:l.most=some n) (hn2:n<=sizeLine) (hdf:d.params.defaults= []) (hr:dM k callerA)
  (hY:∀(w:World)(h:Heap),YP w h->(K w.params).In h)
  (F : ∀(w:World)(mg:Str->Option Value)(fa:Addr)(h:Heap),(K w.params).In h->h.Ns mainGlobals mg->mg d.name=some (.ref fa)->
   ∃ fd:FuncData,(∀(s:Shared)(u:Value),BindsTo s fd ⟨[u], []⟩ [(x,u)])/\
    ∀base:Heap,(K w.params).In base->base.Ns mainGlobals mg->fM l.prog w (K w.params) mg base (CX w) k fa fd [x] (sp w))
  (hsp:∀(w:World)(H:Hp)(a:Addr)(ns:List Int),ns.length<=n->Only H->SqL (K w.params) H a (ns.map V.int)->sp w [.ref a] H (fun v _=>v= .bl true) fun _ _ _=>False)
  (hCX:∀(w:World)(H:Hp)(s:Shared)(e:Value)(s':Shared),CX w [] H s (fun _ _ _=>False) e s'->False) :
  W.WalkO q loose XP YP l.row.toRowW d [] (fun f vs=>PySem.call f vs):=by
 refine Att.attach_call hn hdf fun w s₀ s₁ mg mb fa o pm cd doc a vs ns G Y ho hd hcd hmg hobj hints hlen hg=>?_
 have KX:=hY w _ Y
 obtain⟨fd,hb,hF⟩:=F w mg fa _ KX G.T.g hmg
 exact a5R KX G.T.g G.T.b G.T.builtins G.T.nolimit hg hobj hints (Y0 hlen hn2) hr hF hb (fun H hO hS=>hsp w H a ns hlen hO hS) fun H e s'=>hCX w H s₁ e s'
end L2
namespace L2
open PySem PySem.Spec PyProof.Rows
def lD (s:Stmt):Arguments:=match s with
 |.FunctionDef _ a _ _ _ _ _ _ _ _=>a
 |_=>{ posonlyargs:=[],args:=[],vararg:=none,kwonlyargs:=[],kw_defaults:=[],kwarg:=none,defaults:=[] }
def gJ (s:Stmt):List Stmt:=match s with
 |.FunctionDef _ _ b _ _ _ _ _ _ _=>b
 |_=>[]
def bM (s:Stmt):Scope:=match s with
 |.FunctionDef _ _ _ _ _ _ sc _ _ _=>sc
 |_=>{ kind:= .function,names:=[],isGenerator:=false,isCoroutine:=false }
abbrev CX0:CXT:=fun _ _ _ _ _ _=>False
abbrev E0:XK:=fun _ _ _=>False
theorem aN {X:Cx}:eG CX0 X E0:=fun _ _ _ _ _ _ _ h=>h.elim
structure Fun (K:W.Frag)(x qual:Str)(st:Stmt)(f:Addr)(fd:FuncData):Prop where
 ex :∃(oc:Value)(od:Option Addr)(kV doc pm:Value)(an:Option Addr)(cdv ct:Value)(osl:Array (Option Value)),
  fd=W.fnOf x qual (lD st) (gJ st) (bM st) .none kV doc pm an cdv ct/\K.lookup f=some ⟨oc,od,.func fd,osl⟩/\W.codeIn K cdv qual=true
 kp:W.keepIn K (.ref f)=true
section
variable {P:Program}{w:World}{K:W.Frag}{mg:Str->Option Value}{base:Heap}
theorem Fun.ok {x qual:Str}{st:Stmt}{f:Addr}{fd:FuncData}{N ps:List Str}{k:Nat}{sp:Sp}(F:Fun K x qual st f fd)(S:gK N ps (bM st))(len:∀vs H Q E,sp vs H Q E->vs.length=ps.length)
  (hbody:∀(cdv:Value)(A:Around)(outer:List Env)(s:Shared)(H:Hp)(vs:List V)(Q:VK)(E:XK),dM k (A.deeper (envOfC qual (bM st) s.heap.objs.size f cdv))->sp vs H Q E->
   ∃t,PSs (cY CX0 P w K mg base N qual (bM st) f cdv A outer s H E).nox (gJ st) t/\t { nx:=fun _ H'=>Q .non H',rt:=Q } (start N vs) H):fM P w K mg base CX0 (k+1) f fd ps sp:=by
 obtain⟨oc,od,kV,doc,pm,an,cdv,ct,osl,rfl,lk,hcd⟩:=F.ex
 refine b0T lk hcd S len fun A outer s H vs Q E hr hsp=>?_
 obtain⟨t,h,q⟩:=hbody cdv A outer s H vs Q E hr hsp
 exact⟨t,h.nox,q⟩
theorem Fun.binds {x qual:Str}{st:Stmt}{f:Addr}{fd:FuncData}{ps:List Str}(F:Fun K x qual st f fd)
  (h:∀(kV doc pm:Value)(an:Option Addr)(cdv ct:Value)(us:List Value),us.length=ps.length->bindArgs (W.fnOf x qual (lD st) (gJ st) (bM st) .none kV doc pm an cdv ct) ⟨us, []⟩=pure (ps.zip us)):Binds K fd ps []:=by
 obtain⟨oc,od,kV,doc,pm,an,cdv,ct,osl,rfl,lk,hcd⟩:=F.ex
 exact .all (h kV doc pm an cdv ct)
theorem xW {x qual:Str}{st:Stmt}{f:Addr}{oc:Value}{od an:Option Addr}{osl:Array (Option Value)}{kV doc pm cdv ct:Value}(l:K.lookup f=some ⟨oc,od,.func (W.fnOf x qual (lD st) (gJ st) (bM st) .none kV doc pm an cdv ct),osl⟩)
  (c:W.codeIn K cdv qual=true) (k:W.keepIn K (.ref f)=true):Fun K x qual st f (W.fnOf x qual (lD st) (gJ st) (bM st) .none kV doc pm an cdv ct):=⟨⟨oc,od,kV,doc,pm,an,cdv,ct,osl,rfl,l,c⟩,k⟩
end
theorem b0R {A:Around}{k:Nat}(hr:dM k A):A.units+1<cLine:=XX (Nat.add_le_add_left (by decide:1<=64) _) hr.units
theorem rP {n:Nat}(h:n<=1000):n<sizeLine:=XX h (by decide)
section
variable {X:Cx}
theorem pv (i:Nat){x:Str}{pos:Pos}(hN:X.N[i]? =some x:=by rfl)(hv:Vis X.env.scope x:=by first | exact Or.inl rfl | exact Or.inr (Or.inl rfl) | exact Or.inr (Or.inr rfl))(hd:(x == ("__debug__":Str))=false:=by decide)
  (hcd:(x == ("__classdict__":Str))=false:=by decide):PE X (.Name x pos) (b1H i):=a4P hN hv hd hcd
end
theorem xQ {A B:Prop}(h:B):if false=true then A else B:=by
 rw[if_neg Yt]
 exact h
theorem bN {c A B:Prop}[Decidable c](h1:c->A)(h2:¬ c->B):if c then A else B:=by
 by_cases h:c
 ·rw[if_pos h]
  exact h1 h
 ·rw[if_neg h]
  exact h2 h
theorem jW {c A B:Prop}[Decidable c](hc:c)(h:B):if (!decide c)=true then A else B:=by
 rw[Yl hc]
 exact xQ h
def Same (H H':Hp):Prop:=∀b o,H b=some o->H' b=some o
theorem Same.refl (H:Hp):Same H H:=fun _ _ h=>h
theorem Same.trans {H H1 H2:Hp}(a:Same H H1)(b:Same H1 H2):Same H H2:=fun c o h=>b c o (a c o h)
theorem Same.seq {K:W.Frag}{H H':Hp}{a:Addr}{xs:List V}(e:Same H H')(h:SqL K H a xs):SqL K H' a xs:=by
 rcases h with (h | ⟨o,h⟩) | h
 ·exact .inl (.inl (e _ _ h))
 ·exact .inl (.inr ⟨o,e _ _ h⟩)
 ·exact .inr h
end L2
namespace L2
open PySem PySem.Spec PyProof.Rows
theorem bT:bootBuiltins "len"=some (.builtin "len"):=by decide +kernel
theorem a6T:bootBuiltins "min"=some (.builtin "min"):=by decide +kernel
theorem b4E:bootBuiltins "max"=some (.builtin "max"):=by decide +kernel
theorem a6S:bootBuiltins "sum"=some (.builtin "sum"):=by decide +kernel
theorem rD:bootBuiltins "isinstance"=some (.builtin "isinstance"):=by decide +kernel
theorem fQ:bootBuiltins "list"=some (.type "list"):=by decide +kernel
theorem b4F:bootBuiltins "int"=some (.type "int"):=by decide +kernel
theorem a6R:bootBuiltins "tuple"=some (.type "tuple"):=by decide +kernel
theorem qR (a:Nat):Builtin.Int.intBits (a:Int)=if a=0 then 0 else a.log2+1:=by
 unfold Builtin.Int.intBits
 by_cases h:a=0
 ·subst h;rfl
 ·have h':¬ ((a:Int) == 0)=true:=by
   intro q
   have:=XV.mp q
   omega
  rw[if_neg h',if_neg h]
  rfl
theorem bits_le {a n:Nat}(h:a<2 ^ n):Builtin.Int.intBits (a:Int)<=n:=by
 rw[qR]
 split
 ·exact Xs _
 ·rename_i h0
  exact(Nat.log2_lt h0).mpr h
theorem a9R (a:Nat):a<2 ^ Builtin.Int.intBits (a:Int):=by
 rw[qR]
 split
 ·rename_i h;subst h;exact Nat.one_pos
 ·exact Nat.lt_log2_self
theorem qT {i:Int}{n:Nat}(h:i.natAbs<2 ^ n):Builtin.Int.intBits i<=n:=by
 unfold Builtin.Int.intBits
 split
 ·exact Xs _
 ·rename_i h0
  have h1:i.natAbs≠0:=by
   intro q
   apply h0
   have:i=0:=by omega
   subst this;rfl
  exact(Nat.log2_lt h1).mpr h
theorem yE:∀(n a b:Nat),a<2 ^ n->b<2 ^ n->a+b=(a ^^^ b)+2*(a &&& b):=by
  intro n
  induction n with
  | zero => intro a b ha hb;have:a=0:=by simpa using ha
            have:b=0:=by simpa using hb
            subst_vars;rfl
  | succ n ih=>
    intro a b ha hb
    have e:=ih (a / 2) (b / 2) (by omega) (by omega)
    have x1:(a ^^^ b) / 2=a / 2 ^^^ b / 2:=Nat.xor_div_two
    have x2:(a &&& b) / 2=a / 2 &&& b / 2:=Nat.and_div_two
    rw[<-x1,<-x2]at e
    have y1:(a ^^^ b) % 2=(a % 2+b % 2) % 2:=by
      have:=Nat.xor_mod_two_eq_one (a:=a) (b:=b)
      omega
    have y2:(a &&& b) % 2=(a % 2)*(b % 2):=by
      have:=Nat.and_mod_two_pow (a:=a) (b:=b) (n:=1)
      rcases XG a with h | h <;> rcases XG b with h' | h' <;> simp[h,h']at this ⊢ <;> omega
    have z1:=Nat.div_add_mod (a ^^^ b) 2
    have z2:=Nat.div_add_mod (a &&& b) 2
    rcases XG a with h | h <;> rcases XG b with h' | h' <;> rw[h,h']at y1 y2 <;> omega
theorem a7A {a b n:Nat}(ha:a<2 ^ (n+1))(hb:b<2 ^ (n+1))(ha':2 ^ n<=a)(hb':2 ^ n<=b):a ^^^ b<2 ^ n:=by
 apply Nat.lt_pow_two_of_testBit
 intro i hi
 rw[XB]
 by_cases e:i=n
 ·subst e
  have h1:a.testBit i=true:=by
   rw[YY]
   have:a / 2 ^ i=1:=by
    apply Jc
    ·simpa using ha'
    ·rw[XM]at ha;omega
   rw[this];rfl
  have h2:b.testBit i=true:=by
   rw[YY]
   have:b / 2 ^ i=1:=by
    apply Jc
    ·simpa using hb'
    ·rw[XM]at hb;omega
   rw[this];rfl
  rw[h1,h2];rfl
 ·have h1:a.testBit i=false:=Y6 (Yf ha (Yw (by decide) (by omega)))
  have h2:b.testBit i=false:=Y6 (Yf hb (Yw (by decide) (by omega)))
  rw[h1,h2];rfl
theorem band (a b:Nat):Builtin.bitAnd (a:Int) (b:Int)=((a &&& b:Nat):Int):=by
 rw[PyProof.Rows.bitAnd_pp (by omega) (by omega)];rfl
theorem bxor (a b:Nat):Builtin.bitXor (a:Int) (b:Int)=((a ^^^ b:Nat):Int):=by
 have h:=yE (a+b) a b (XX (Nat.le_add_right a b) Nat.lt_two_pow_self) (XX (Nat.le_add_left b a) Nat.lt_two_pow_self)
 unfold Builtin.bitXor
 rw[PyProof.Rows.bitOr_and,band]
 omega
theorem pX (k:Nat):(2:Int) ^ ((k:Int)).toNat=((2 ^ k:Nat):Int):=by
 rw[YI];simp
theorem b8N (a k:Nat):(a:Int)*2 ^ ((k:Int)).toNat=((a <<< k:Nat):Int):=by
 rw[pX,Xe];simp
theorem b8M (a k:Nat):(a:Int) / 2 ^ ((k:Int)).toNat=((a >>> k:Nat):Int):=by
 rw[pX,Nat.shiftRight_eq_div_pow];rfl
theorem bit_at (b k:Nat):(((b >>> k:Nat) &&& 1:Nat):Int)=1↔b.testBit k=true:=by
 unfold Nat.testBit
 rw[Nat.and_comm]
 have h:1 &&& b >>> k=(b >>> k) % 2:=by rw[Nat.and_comm];exact Nat.and_one_is_mod _
 rw[h]
 have:(b >>> k) % 2=0\/(b >>> k) % 2=1:=by omega
 rcases this with h | h <;> rw[h] <;> decide
section
variable {X:Cx}
def rN (C:Nat->Nat->Prop)(g:Nat->Nat->Nat):R2:=fun x y H Q=>∃a b:Nat,x= .int a/\y= .int b/\C a b/\Q (.int ((g a b:Nat):Int)) H
theorem opN {f:Value->Value->Sem Value}{C:Nat->Nat->Prop}{g:Nat->Nat->Nat}
  (rule:∀(i j:Nat)(t u:Tok)(s:Shared)(Q:Value->Shared->Prop)(E:Value->Shared->Prop),C i j->Q (.int ((g i j:Nat):Int) s.toks) { s with toks:=s.toks+1 }->wpAny (model X.prog X.w) X.A (f (.int i t) (.int j u)) Q E s) :
  OpR X f (rN C g):=by
 intro pins s σ H x y v u Q I rx ry h
 obtain⟨i,j,rfl,rfl,hc,q⟩:=h
 obtain⟨t,rfl⟩:=rx
 obtain⟨t',rfl⟩:=ry
 exact rule i j t t' s _ _ hc ⟨.int ((g i j:Nat):Int),H,I.tok _,⟨_,rfl⟩,q⟩
theorem zA:OpR X (binaryOp .BitXor) (rN (fun _ _=>True) fun a b=>a ^^^ b):=opN fun i j _ _ _ _ _ _ q=>by
 refine xor_int ?_
 rw[bxor];exact q
theorem zF:OpR X (binaryOp .LShift) (rN (fun a k=>a<2 ^ 4000/\k<=4000) fun a k=>a <<< k):=opN fun a k _ _ _ _ _ hc q=>by
 refine lshift_int (by omega) ?_ ?_
 ·have:=bits_le hc.1
  omega
 ·rw[b8N];exact q
def b7E (i j:Int):Prop:=0<=j/\j<=4000/\i.natAbs<2 ^ 4000
theorem a8S:OpR X (binaryOp .LShift) (rI b7E fun i j=> .int (i*2 ^ j.toNat)):=opI fun i j _ _ _ _ _ hc q=>by
 refine lshift_int hc.1 ?_ q
 have:=qT hc.2.2
 have:=hc.2.1
 omega
def a0L (i j:Int):Prop:=i.natAbs<2 ^ 4000/\j.natAbs<2 ^ 4000
theorem a0L.ok {i j:Int}(h:a0L i j):IntMulOk i j:=by
 unfold IntMulOk
 have h1:=qT h.1
 have h2:=qT h.2
 have h3:Builtin.Int.intTooBig ((Builtin.Int.intBits i:Int)+(Builtin.Int.intBits j:Int))=false:=by
  unfold Builtin.Int.intTooBig
  apply Yu
  have:(8000:Int)<=bitsLine:=by decide
  omega
 simp only[h3,Bool.and_false]
 decide
theorem a8T:OpR X (binaryOp .Mult) (rI a0L fun i j=> .int (i*j)):=opI fun _ _ _ _ _ _ _ hc q=>mul_int q hc.ok
theorem b5V:MtR X "int.bit_length" (fun x vs H Q=>∃i,x= .int i/\vs= []/\Q (.int ((Builtin.Int.intBits i:Nat):Int)) H):=by
 intro pins s σ H x xs v us Q I rx rv h
 obtain⟨i,rfl,rfl,q⟩:=h
 obtain⟨t,rfl⟩:=rx
 cases rv
 exact call_int_bit_length ⟨.int _,H,I.tok _,⟨_,rfl⟩,q⟩
def b4C:V->Option Value
 |.ref a=>some (.ref a)
 |.ty n=>some (.type n)
 |_=>none
theorem a9P {c:V}{cv u:Value}(e:b4C c=some cv)(r:RelV c u):u=cv:=by
 cases c <;> simp only[b4C]at e <;> first | (cases e;exact r) | cases e
theorem a6Q:fP X (.builtin "isinstance") (fun xs H Q=>∃x c cv t b,xs= [x,c]/\b4C c=some cv/\mZ X.K H x t/\W.kitOne X.K t cv=some b/\Q (.bl b) H):=by
 intro pins s σ H xs us Q I rv h
 obtain⟨x,c,cv,t,b,rfl,ec,ty,e,q⟩:=h
 obtain⟨u,v,rfl,rx,rc⟩:=rv.two
 cases a9P ec rc
 exact a1Y I rx ty e fun tk=>⟨.bl b,H,I.tok _,rfl,q⟩
end
section
variable {K:W.Frag}
theorem oK:W.kitOne K (.type "tuple") (.type "tuple")=some true:=by rfl
end
section
variable {X:Cx}{e:Expr}{te:TE}{st:Stmt}{ts:TS}
def b7S (t:TE):TE:=fun σ H Q=>∃P:VK,t σ H P/\∀x H',P x H'->Q x H'
theorem cG (h:PE X e te):PE X e (b7S te):=by
 intro pins s σ H Q I hw
 obtain⟨P,h1,h2⟩:=hw
 exact thn (h pins s σ H P I h1) fun v s1 ⟨x,H1,I1,r,q⟩=>⟨x,H1,I1,r,h2 x H1 q⟩
def b4X (t:TS):TS:=fun D σ H=>∃N:St->Hp->Prop,t { D with nx:=N } σ H/\∀σ' H',N σ' H'->D.nx σ' H'
theorem lN (h:PS X st ts):PS X st (b4X ts):=by
 intro pins s σ H D I hw
 obtain⟨N,h1,h2⟩:=hw
 refine thn (h pins s σ H { D with nx:=N } I h1) fun f s1 q=>?_
 cases f with
 |next=>obtain⟨σ',H',I',q⟩:=q;exact⟨σ',H',I',h2 σ' H' q⟩
 |ret v=>exact q
 |brk=>exact q
 |cont=>exact q
end
theorem dec_true {p:Prop}[Decidable p](h:decide p=true):p:=YQ h
theorem dec_false {p:Prop}[Decidable p](h:¬ decide p=true):¬ p:=fun q=>h (Yl q)
theorem a1K {z:Int}{n:Nat}(h0:0<=z)(h1:z<2 ^ n):z.natAbs<2 ^ n:=by
 obtain⟨k,rfl⟩:=YK h0
 have:(k:Int)<((2 ^ n:Nat):Int):=by simpa using h1
 omega
theorem qW {z:Int}{n:Nat}(h:z.natAbs<2 ^ n)(hn:n<=4000:=by decide):z.natAbs<2 ^ 4000:=Yf h (Yw (by decide) hn)
theorem gQ {z:Int}(h0: -18446744073709551616<z)(h1:z<18446744073709551616):z.natAbs<2 ^ 4000:=qW (n:=64) (by omega)
theorem wL {a b:Nat}(h:a<=b):(2:Int) ^ a<=2 ^ b:=by
 have:=Yw (n:=2) (by decide) h
 exact_mod_cast this
theorem a5N {a n:Nat}(h:a<2 ^ n)(hn:n<=4000:=by decide):a<2 ^ 4000:=Yf h (Yw (by decide) hn)
theorem b4J {ns:List Int}{k:Int}(h:0<ns.length):∃v:Int,atI (ns.map V.int) (k % (((ns.map V.int).length:Nat):Int))=some (.int v):=by
 rw[Ya]
 have h0:0<=k % ((ns.length:Nat):Int):=Int.emod_nonneg _ (by omega)
 have h1:k % ((ns.length:Nat):Int)<((ns.length:Nat):Int):=Jh _ (by omega)
 generalize k % ((ns.length:Nat):Int)=j at h0 h1
 have hk:j.toNat<ns.length:=by omega
 refine⟨ns[j.toNat],?_⟩
 have q:atI (ns.map V.int) ((j.toNat:Nat):Int)=some (.int ns[j.toNat]):=cX (by rw[Yi,Yb hk] <;> rfl)
 have e:((j.toNat:Nat):Int)=j:=by omega
 rw[e]at q
 exact q
def b1V (K:W.Frag):Sp:=fun vs H Q _=>∃(a:Addr)(ns:List Int)(k m:Int),vs= [.ref a,.int k,.int m]/\SqL K H a (ns.map V.int)/\ns.length<=63/\0<=k/\k<=100000/\0<m/\∀d:Int,0<=d->d<m->Q (.int d) H
end L2
namespace L2
open PySem PySem.Spec PyProof.Rows
theorem a2D (g:Array Value->Array Value)(o:Obj):(Obj.mapFields g o).dict=o.dict:=by
 obtain⟨c,d,x,sl⟩:=o
 cases x <;> rfl
def TrD (h B:Heap)(e:Addr)(k a0:Value)(od:Option Addr)(fl:Value):Prop:=
 ∃oe vs T oT ts,(h.get? e=some oe/\oe.cls=k/\oe.dict=od/\oe.data= .fields vs)/\(vs[0]? =some a0/\vs[1]? =some (.ref T))/\(B.get? T=none/\T≠e)/\h.get? T=some oT/\oT.data= .fields ts/\ts[3]? =some fl
def qX (B:Heap)(l:List Env)(e:Addr)(k a0:Value)(od:Option Addr)(h:Heap):Prop:=(B.StaysIn h/\B.get? e=none)/\h.FunFrames B l/\TrD h B e k a0 od .none
def a0K (B:Heap)(l:List Env)(e:Addr)(k a0:Value)(od:Option Addr)(L:Addr)(h:Heap):Prop:=(B.StaysIn h/\B.get? e=none)/\h.FunFrames B l/\TrD h B e k a0 od (rawInt L)
theorem qX.tail {B h:Heap}{env:Env}{l:List Env}{e:Addr}{k a0:Value}{od:Option Addr}(x:qX B (env::l) e k a0 od h):qX B l e k a0 od h:=
 let ⟨a,⟨_,_,b⟩,c⟩:=x;⟨a,b,c⟩
section
variable {M:Model}{A:Around}{E:Value->Shared->Prop}{s:Shared}{B:Heap}{env:Env}{outer l:List Env}{L e:Addr}{k a0:Value}{od:Option Addr}
theorem xX {oe:Obj}{vs:Array Value}{hd0:Value}{nxt:Bool}{Q:Unit->Shared->Prop}(fr:A.frames=some (env::outer))(ff:s.heap.FunFrames B (env::outer))(fL:env.frame=some L)(st:B.StaysIn s.heap/\B.get? e=none)
  (at_:s.heap.get? e=some oe) (dat:oe.data= .fields vs) (sz:1<vs.size) (arg:vs[0]? =some a0)
  (next:∀h',a0K B (env::outer) e oe.cls a0 oe.dict L h'->s.heap.UpToSlots h'->Q () { s with heap:=h' }) :
  wpAny M A (do let a<-frameOf env;let pl<-entryPlaceOf L nxt;let b<-EntryCells.newEntry hd0 a .none (rawInt L) .none pl;setField (.ref e) 1 b) Q E s:=by
 have eF:e∉frs (env::outer):=fun z=>by
  obtain⟨_,o,q,n⟩:=ff.mem z
  cases at_.symm.trans q
  exact n vs dat
 refine YH (wpAny_frameOf_fun fr ff fL fun h1 so=>YH (wpAny_entryPlaceOf fun pl isp=>?_))
 unfold EntryCells.newEntry newFields
 refine YH (wpAny_newObj_type ?_ (isp.sizeOk5 _ _ _ _ _))
 generalize htb:([hd0,Value.ref L,Value.none,rawInt L,Value.none]++(if pl.isEmpty then List.replicate 6 Value.none else pl)).toArray=tb
 have tb3:tb[3]? =some (rawInt L):=by
  subst htb
  rcases isp with rfl | ⟨_,_,_,_,_,_,_,rfl⟩ <;> simp
 clear htb isp
 have e1:h1.get? e=some oe:=(so.2.1 e eF).trans at_
 have B1:B.StaysIn h1:=fun b o q=>(so.2.1 b fun z=>by have:=(ff.mem z).1;rw[q]at this;cases this).trans (st.1 b o q)
 have tE:h1.objs.size≠e:=Nat.ne_of_gt (Yr e1)
 have e2:=Yk (h:=h1) { cls:= .type "traceback",dict:=none,data:= .fields tb } e1
 refine Jl e2 dat sz (next _ ?_ ?_)
 all_goals
  have keep:∀b o,b≠e->h1.get? b=some o->((h1.push { cls:= .type "traceback",dict:=none,data:= .fields tb }).update e (Obj.mapFields (·.setIfInBounds 1 (Value.ref h1.objs.size)))).get? b=some o:=fun b o n q=>by
   rw[Xd _ _ (Ne.symm n)]
   exact Yk _ q
  have apart:∀b o,s.heap.get? b=some o->(∀ws,o.data≠ .fields ws)->b≠e:=fun b o q n z=>by
   subst z
   cases at_.symm.trans q
   exact n vs dat
 ·have d3:=XZ dat (·.setIfInBounds 1 (Value.ref h1.objs.size))
  have e3:=Heap.get?_update_self (Obj.mapFields (·.setIfInBounds 1 (Value.ref h1.objs.size))) e2 (Obj.isFreed_of_fields d3)
  have t3:=(Xd (h1.push { cls:= .type "traceback",dict:=none,data:= .fields tb }) (Obj.mapFields (·.setIfInBounds 1 (Value.ref h1.objs.size))) (Ne.symm tE)).trans (YB h1 rfl)
  refine⟨⟨fun b o q=>keep b o (fun z=>by rw[z,st.2]at q;cases q) (B1 b o q),st.2⟩,ff.of_keeps fun b o q n=>?_,_,_,h1.objs.size,_,_,⟨e3,Obj.cls_mapFields _ _,a2D _ _,d3⟩,⟨?_,by simp[sz]⟩,⟨B1.fresh,tE⟩,t3,rfl,tb3⟩
  ·obtain⟨sl,q1⟩:=so.2.2 b o q
   exact⟨_,keep b _ (apart b o q n) q1,rfl⟩
  ·rw[Array.getElem?_setIfInBounds_ne (by decide)]
   exact arg
 ·intro b o q n
  obtain⟨sl,q1⟩:=so.2.2 b o q
  exact⟨sl,keep b _ (apart b o q n) q1⟩
theorem a5T {fl:Value}{Q:Unit->Shared->Prop}(st:B.StaysIn s.heap/\B.get? e=none)(ff:s.heap.FunFrames B l)(tr:TrD s.heap B e k a0 od fl)
  (next:∀h',qX B l e k a0 od h'->s.heap.UpToSlots h'->Q () { s with heap:=h' }):wpAny M A (setFlight (.ref e) none) Q E s:=by
 obtain⟨oe,vs,T,oT,ts,⟨q1,q2,q3,q4⟩,⟨q5,q6⟩,⟨q7,q8⟩,q9,q10,q11⟩:=tr
 have sz:3<ts.size:=(Y5.mp q11).1
 have off:∀b,b≠T->(s.heap.update T (Obj.mapFields (·.setIfInBounds 3 ((none:Option Addr).elim Value.none fun f=>rawInt f)))).get? b=s.heap.get? b:=fun b n=>Xd _ _ (Ne.symm n)
 have apart:∀b o,s.heap.get? b=some o->(∀ws,o.data≠ .fields ws)->b≠T:=fun b o q n z=>by
  subst z
  cases q9.symm.trans q
  exact n ts q10
 unfold setFlight
 refine YH (X0 q1 q4 q6 ?_)
 rw[if_pos (show (Value.ref T != Value.none)=true by simp)]
 refine Jl q9 q10 sz (next _ ⟨⟨fun b o q=>(off b fun z=>by rw[z,q7]at q;cases q).trans (st.1 b o q),st.2⟩,ff.of_keeps fun b o q n=>⟨o,(off b (apart b o q n)).trans q,rfl⟩,?_⟩ fun b o q n=>⟨o.slots,(off b (apart b o q n)).trans q⟩)
 exact⟨oe,vs,T,_,_,⟨(off e (Ne.symm q8)).trans q1,q2,q3,q4⟩,⟨q5,q6⟩,⟨q7,q8⟩,Heap.get?_update_self _ q9 (Obj.isFreed_of_fields (XZ q10 _)),XZ q10 _,by simp[sz]⟩
theorem a5S {Q:Unit->Shared->Prop}(x:a0K B l e k a0 od L s.heap)(next:∀h',qX B l e k a0 od h'->s.heap.UpToSlots h'->Q () { s with heap:=h' }):wpAny M A (setFlight (.ref e) none) Q E s:=
 a5T x.1 x.2.1 x.2.2 next
theorem zP {Q:Unit->Shared->Prop}(fr:A.frames=some (env::outer))(fL:env.frame=some L)(x:qX B (env::outer) e k a0 od s.heap)
  (next:∀h',a0K B (env::outer) e k a0 od L h'->s.heap.UpToSlots h'->Q () { s with heap:=h' }):wpAny M A (noteFrame (.ref e) env) Q E s:=by
 obtain⟨st,ff,oe,vs,T,oT,ts,⟨q1,q2,q3,q4⟩,⟨q5,q6⟩,⟨q7,q8⟩,q9,q10,q11⟩:=x
 subst q2 q3
 have off:∀b,b≠T->(s.heap.update T (Obj.mapFields (·.setIfInBounds 3 Value.none))).get? b=s.heap.get? b:=fun b n=>Xd _ _ (Ne.symm n)
 have apart:∀b o,s.heap.get? b=some o->(∀ws,o.data≠ .fields ws)->b≠T:=fun b o q n z=>by
  subst z
  cases q9.symm.trans q
  exact n ts q10
 unfold noteFrame
 simp only[fL]
 refine YH (X0 q1 q4 q6 ?_)
 rw[if_pos (show (Value.ref T != Value.none)=true by simp)]
 refine YH (X0 q9 q10 q11 ?_)
 rw[if_neg (show ¬ ((Value.none == rawInt L)=true) by simp[rawInt])]
 refine YH (Jl q9 q10 (Y5.mp q11).1 ?_)
 refine xX (B:=B) fr (ff.of_keeps fun b o q n=>⟨o,(off b (apart b o q n)).trans q,rfl⟩) fL ⟨fun b o q=>(off b fun z=>by rw[z,q7]at q;cases q).trans (st.1 b o q),st.2⟩ ((off e (Ne.symm q8)).trans q1) q4 (Y5.mp q6).1 q5 fun h' x1 x2=>?_
 exact next h' x1 fun b o q n=>x2 b o ((off b (apart b o q n)).trans q) n
theorem vQ {oe:Obj}{vs:Array Value}{Q:Unit->Shared->Prop}(fr:A.frames=some (env::outer))(fL:env.frame=some L)(st:B.StaysIn s.heap/\B.get? e=none)(ff:s.heap.FunFrames B (env::outer))
  (at_:s.heap.get? e=some oe) (dat:oe.data= .fields vs) (arg:vs[0]? =some a0) (bare:vs[1]? =some .none) (next:∀h',qX B outer e oe.cls a0 oe.dict h'->s.heap.UpToSlots h'->Q () { s with heap:=h' }) :
  wpAny M A (leaving env (.ref e)) Q E s:=by
 unfold leaving noteFrame
 simp only[fL]
 refine YH (YH (X0 at_ dat bare ?_))
 rw[if_neg (by decide)]
 refine xX (B:=B) fr ff fL st at_ dat (Y5.mp bare).1 arg fun h1 x1 x2=>?_
 exact a5S x1 fun h2 x3 x4=>next h2 x3.tail (x2.trans x4)
theorem a5Q {Q:Unit->Shared->Prop}(fr:A.frames=some (env::outer))(fL:env.frame=some L)(x:qX B (env::outer) e k a0 od s.heap)
  (next:∀h',qX B outer e k a0 od h'->s.heap.UpToSlots h'->Q () { s with heap:=h' }):wpAny M A (leaving env (.ref e)) Q E s:=by
 unfold leaving
 exact YH (zP fr fL x fun h1 x1 x2=>a5S x1 fun h2 x3 x4=>next h2 x3.tail (x2.trans x4))
end
end L2
namespace L2
open PySem PySem.Spec PyProof.Rows
theorem b3R {K:W.Frag}{h:Heap}{C:Addr}{bmB:List Value}{newId:String}(kin:K.In h)(hq:W.excIn K C bmB newId=true) :
  ∃bm N nm qn bs hdct sn sub ab col dd k0 k1 k2 k3 k5 mN,h.get? C=some (excClassObj nm qn C N bs bm hdct sn sub ab col dd k0 k1 k2 k3 k5 newId)/\h.Ns N mN/\mN "__init__"=none/\OwnTail h bmB bm:=by
 unfold W.excIn at hq
 split at hq
 ·rename_i dd cdt slots look
  split at hq
  ·rename_i C1 bm j0 j1 j2 j3 nid j5 em es
   simp only[XJ,XV,Bool.not_eq_true']at hq
   obtain⟨⟨⟨⟨⟨e1,e2⟩,e3⟩,e4⟩,e5⟩,e6⟩:=hq
   subst e1 e2
   obtain⟨c1,c2,c3,c4,c5,c6,c7,c8,c9,c10,c11⟩:=cdt
   dsimp only at em e3 e5 e6
   subst em e3
   have esl:slots=#[j0,j1,j2,j3,some (.builtin nid),j5]:=by
    cases slots with
    | mk l=>
     have:l=_:=es
     rw[this]
   subst esl
   exact⟨bm,c4,c1,c5,c2,c6,c7,c8,c9,c10,dd,j0,j1,j2,j3,j5,_,kin _ _ look,.of_isNs (W.isNs_of_in kin e5),W.nsMap_none_of_in kin e5 e6,W.tail_of_in kin e4⟩
  ·cases hq
 ·cases hq
theorem dG.there {P:Program}{w:World}{H:Hp}{h:Heap}{a:Addr}{o:HO}(x:dG P w H h a o):∃ob,h.get? a=some ob:=by
 cases o with
 |lst xs=>obtain⟨_,_,_,_,e⟩:=x;exact⟨_,e⟩
 |tup xs=>obtain⟨_,_,_,ob,e,_⟩:=x;exact⟨_,e⟩
 |dK kvs=>obtain⟨_,_,_,_,o,_,_,e,_⟩:=x;exact⟨_,e⟩
 |dT kvs=>obtain⟨_,_,_,_,o,_,_,e,_⟩:=x;exact⟨_,e⟩
 |set S n=>obtain⟨o,_,_,_,e,_⟩:=x;exact⟨_,e⟩
 |ins C dx fs=>obtain⟨_,_,_,e,_⟩:=x;exact⟨_,e⟩
 |own y=>exact x
 |xd fs=>obtain⟨_,⟨_,_,_,e,_⟩,_⟩:=x;exact⟨_,e⟩
 |rng lo hi=>obtain⟨_,_,_,e⟩:=x;exact⟨_,e⟩
 |frz ob u=>obtain⟨e,_⟩:=x;exact⟨_,e⟩
 |tbl ps=>exact⟨_,(show h.get? a=some _ from x)⟩
 |met f y=>exact⟨_,(show h.get? a=some _ from x)⟩
 |ext φ=>obtain⟨_,e,_⟩:=x;exact e
structure Fly (P:Program)(w:World)(outer:List Env)(H H':Hp)(s s':Shared)(a t:Addr)(cls:Value)(od:Option Addr)(B:Heap):Prop where
 os:s'.os=s.os
 bare:AllBare s'.gens
 un:Un (frs outer) [] H H' s.heap s'.heap
 hok:HOk P w H' s'.heap
 new:H' a=none
 fly:qX B outer a cls (.ref t) od s'.heap
 old:∀b o,s.heap.get? b=some o->H b=none->b∉frs outer->B.get? b=some o
 trk:∀b u,H' b=some u->∃o,s'.heap.get? b=some o/\B.get? b=some o
 all:∀b o,s.heap.get? b=some o->b∉frs outer->∃o',B.get? b=some o'
def CXR (P:Program)(w:World):CXT:=fun outer H s E e s'=>∃(a t:Addr)(cls:Value)(od:Option Addr)(H':Hp)(B:Heap),e= .ref a/\Fly P w outer H H' s s' a t cls od B/\E cls od H'
theorem gU {P:Program}{w:World}{X:Cx}:eG (CXR P w) X E0:=fun _ _ _ _ _ _ _ h=>by
 obtain⟨_,_,_,_,_,_,_,_,q⟩:=h
 exact q.elim
theorem HOk.fromB {P:Program}{w:World}{H:Hp}{h h' B:Heap}(ok:HOk P w H h)(trk:∀b u,H b=some u->∃o,h.get? b=some o/\B.get? b=some o)(st:B.StaysIn h'):HOk P w H h':=fun a u q=>
 (ok a u q).stay (fun b o hb e=>by
  have:∃v,H b=some v:=by
   rcases hb with rfl | hb
   ·exact⟨u,q⟩
   ·exact⟨_,hb⟩
  obtain⟨v,hv⟩:=this
  obtain⟨o',e1,e2⟩:=trk b v hv
  rw[e]at e1;cases e1
  exact st b o e2) (fun _ z=>z) fun _ _ z=>z
section
variable {P:Program}{w:World}{K:W.Frag}{mg:Str->Option Value}{base:Heap}{N:List Str}{qual:Str}{scope:Scope}{f:Addr}{cd:Value}{A:Around}{outer:List Env}{s:Shared}{H:Hp}{E:XK}
theorem iK {pins:List (Addr×Obj)}{σ:St}{H1:Hp}{s1:Shared}{CX:CXT}(I:Inv (cY CX P w K mg base N qual scope f cd A outer s H E) pins σ H1 s1){b:Addr}{o:Obj}(e:s.heap.get? b=some o)(n:b∉frs outer) :
  b∉frs (cY CX P w K mg base N qual scope f cd A outer s H E).stack:=fun hb=>by
 have hb':=I.stkSub b hb
 rcases YE.mp hb' with z | z
 ·have lt:=Yr e
  have z':b=s.heap.objs.size:=z
  rw[z']at lt
  exact Y2 _ lt
 ·exact n z
theorem rA {pins:List (Addr×Obj)}{σ:St}{H1:Hp}{s1:Shared}{e t:Addr}{oe:Obj}{vs:Array Value}(I:Inv (cY (CXR P w) P w K mg base N qual scope f cd A outer s H E) pins σ H1 s1)
  (he:s1.heap.get? e=some oe) (hd:oe.data= .fields vs) (h0:vs[0]? =some (.ref t)) (h1:vs[1]? =some .none) (new:s.heap.get? e=none) (free:H1 e=none) (hE:E oe.cls oe.dict H1) :
  (cY (CXR P w) P w K mg base N qual scope f cd A outer s H E).xe (.ref e) s1:=by
 have fr:=I.ok.frames
 have ff:=I.stack
 generalize hst:(cY (CXR P w) P w K mg base N qual scope f cd A outer s H E).stack=stk at fr ff
 have hst':stk=(cY (CXR P w) P w K mg base N qual scope f cd A outer s H E).env::outer:=hst.symm
 have nfr:e∉frs stk:=fun z=>by
  obtain⟨_,o,q,n⟩:=Xj ff z
  cases he.symm.trans q
  exact n vs hd
 have hin:∀env∈stk,∀a,env.frame=some a->a∈e::frs stk:=fun env h a ha=>Ys _ (YZ.mpr ⟨env,h,ha⟩)
 have mk:∀b o,s1.heap.get? b=some o->b∉frs stk->b≠e->(W.hideAll s1.heap (e::frs stk)).get? b=some o:=fun b o q n z=>W.hideAll_get _ q fun m=>by
  rcases YE.mp m with m | m
  ·exact z m
  ·exact n m
 have nf0:∀b o,s.heap.get? b=some o->b∉frs outer->b∉frs stk:=fun b o q n=>by rw[<-hst];exact iK I q n
 have ne0:∀b o,s.heap.get? b=some o->b≠e:=fun b o q z=>by rw[z,new]at q;cases q
 refine vQ (B:=W.hideAll s1.heap (e::frs stk)) (show _=some ((cY (CXR P w) P w K mg base N qual scope f cd A outer s H E).stack) from hst▸fr) rfl ⟨fun b o q=>W.of_hideAll _ q,W.hideAll_none _ (YD ..)⟩ (show Heap.FunFrames _ _ (cY (CXR P w) P w K mg base N qual scope f cd A outer s H E).stack from by rw[hst];exact W.funFrames_hide ff hin) he hd h0 h1 fun h2 x1 x4=>?_
 have old:∀b o,s.heap.get? b=some o->H b=none->b∉frs outer->(W.hideAll s1.heap (e::frs stk)).get? b=some o:=fun b o q n nf=>
  mk b o (I.base.keep b o q n nf (fun z=>by cases z)) (nf0 b o q nf) (ne0 b o q)
 have trk0:∀b u,H1 b=some u->∃o,s1.heap.get? b=some o/\(W.hideAll s1.heap (e::frs stk)).get? b=some o:=fun b u q=>by
  obtain⟨o,eo⟩:=(I.hok b u q).there
  refine⟨o,eo,mk b o eo (fun z=>?_) fun z=>by rw[z,free]at q;cases q⟩
  rw[I.stkFree b (by rw[hst];exact z)]at q
  cases q
 have slots:∀b o,s1.heap.get? b=some o->b∈frs outer->∃sl,h2.get? b=some { o with slots:=sl }:=fun b o q hb=>by
  have hm:b∈frs stk:=by
   obtain⟨env,h,hf⟩:=YZ.mp hb
   rw[hst']
   exact YZ.mpr ⟨env,Ys _ h,hf⟩
  obtain⟨_,o',ho',nf⟩:=Xj ff hm
  rw[q]at ho';cases ho'
  exact x4 b o q nf
 refine⟨e,t,oe.cls,oe.dict,H1,_,rfl,⟨I.os,I.bare,⟨?_,?_,?_,?_,?_,?_,?_⟩,HOk.fromB I.hok trk0 x1.1.1,free,x1,old,?_,?_⟩,hE⟩
 ·exact fun b o q n nf _=>x1.1.1 b o (old b o q n nf)
 ·intro b o q n hb nx
  obtain⟨sl,q1⟩:=I.base.slot b o q n hb nx
  obtain⟨sl',q2⟩:=slots b _ q1 hb
  exact⟨sl',q2⟩
 ·exact fun b o q n nx=>I.base.free b o q n nx
 ·intro b o q nx
  obtain⟨o',q1⟩:=I.base.there b o q nx
  by_cases hb:b∈frs outer
  ·obtain⟨sl',q2⟩:=slots b _ q1 hb
   exact⟨_,q2⟩
  ·exact⟨o',x1.1.1 b o' (mk b o' q1 (nf0 b o q hb) (ne0 b o q))⟩
 ·exact I.base.tups
 ·exact I.base.frzs
 ·exact I.base.tbls
 ·intro b u q
  obtain⟨o,_,e2⟩:=trk0 b u q
  exact⟨o,x1.1.1 b o e2,e2⟩
 ·intro b o q nf
  obtain⟨o',q1⟩:=I.base.there b o q (fun z=>by cases z)
  exact⟨o',mk b o' q1 (nf0 b o q nf) (ne0 b o q)⟩
theorem tL {pins:List (Addr×Obj)}{σ:St}{H1:Hp}{s1:Shared}{h':Heap}{e:Addr}{cls:Value}{vs:List Value}(I:Inv (cY (CXR P w) P w K mg base N qual scope f cd A outer s H E) pins σ H1 s1)
  (hx:Heap.MadeExcOf s1.heap h' e cls vs) (hE:E cls none H1):(cY (CXR P w) P w K mg base N qual scope f cd A outer s H E).xe (.ref e) { s1 with heap:=h' }:=by
 obtain⟨t,he,_,_⟩:=hx.there
 have J:Inv (cY (CXR P w) P w K mg base N qual scope f cd A outer s H E) pins σ H1 { s1 with heap:=h' }:=I.kept hx.keeps
 refine rA J (t:=t) he rfl rfl rfl ?_ ?_ hE
 ·cases q:s.heap.get? e with
  |none=>rfl
  | some o=>
   obtain⟨o',q1⟩:=I.base.there e o q (fun z=>by cases z)
   rw[hx.new]at q1;cases q1
 ·cases q:H1 e with
  |none=>rfl
  | some u=>
   obtain⟨o,eo⟩:=(I.hok e u q).there
   rw[hx.new]at eo;cases eo
theorem iJ {E1:XK}(hE:∀cls od H',E1 cls od H'->E cls od H'):eG (CXR P w) (cY (CXR P w) P w K mg base N qual scope f cd A outer s H E) E1:=by
  intro pins σ H1 s1 ev s2 I h
  obtain⟨a,t,cls,od,H',B,rfl,F,q⟩:=h
  have fr:=I.ok.frames
  refine a5Q fr rfl F.fly fun h2 x1 x2=>?_
  have old:∀b o,s.heap.get? b=some o->H b=none->b∉frs outer->B.get? b=some o:=fun b o e n nf=>
    F.old b o (I.base.keep b o e n nf (fun z=>by cases z)) (I.base.free b o e n (fun z=>by cases z)) (iK I e nf)
  have slots:∀b o,s2.heap.get? b=some o->b∈frs outer->∃sl,h2.get? b=some { o with slots:=sl }:=fun b o e hb=>by
    have hm:b∈frs (cY (CXR P w) P w K mg base N qual scope f cd A outer s H E).stack:=YZ.mpr (by
      obtain⟨env,he,hf⟩:=YZ.mp hb
      exact⟨env,Ys _ he,hf⟩)
    obtain⟨_,o',ho',nf⟩:=Xj F.fly.2.1 hm
    rw[e]at ho';cases ho'
    exact x2 b o e nf
  have hst:∀b,b∈frs outer->b∈frs (cY (CXR P w) P w K mg base N qual scope f cd A outer s H E).stack:=fun b hb=>YZ.mpr (by
      obtain⟨env,he,hf⟩:=YZ.mp hb
      exact⟨env,Ys _ he,hf⟩)
  refine⟨a,t,cls,od,H',B,rfl,⟨F.os.trans I.os,F.bare,⟨?_,?_,?_,?_,?_,?_,?_⟩,HOk.fromB F.hok F.trk x1.1.1,F.new,x1,old,?_,?_⟩,hE _ _ _ q⟩
  · exact fun b o e n nf _=>x1.1.1 b o (old b o e n nf)
  · intro b o e n hb nx
    obtain⟨sl,q1⟩:=I.base.slot b o e n hb nx
    obtain⟨sl1,q2⟩:=F.un.slot b _ q1 (I.base.free b o e n nx) (hst b hb) (fun z=>by cases z)
    obtain⟨sl2,q3⟩:=slots b _ q2 hb
    exact⟨sl2,q3⟩
  · exact fun b o e n nx=>by
      obtain⟨o1,q1⟩:=I.base.there b o e nx
      exact F.un.free b o1 q1 (I.base.free b o e n nx) (fun z=>by cases z)
  · intro b o e nx
    obtain⟨o1,q1⟩:=I.base.there b o e nx
    obtain⟨o2,q2⟩:=F.un.there b o1 q1 (fun z=>by cases z)
    by_cases hb:b∈frs outer
    · obtain⟨sl',q3⟩:=slots b _ q2 hb
      exact⟨_,q3⟩
    · obtain⟨o3,q3⟩:=F.all b o1 q1 (iK I e hb)
      exact⟨o3,x1.1.1 b o3 q3⟩
  · exact fun b xs z=>F.un.tups b xs (I.base.tups b xs z)
  · exact fun b o u z=>F.un.frzs b o u (I.base.frzs b o u z)
  · intro b ps z
    obtain⟨m1,z1⟩:=I.base.tbls b ps z
    obtain⟨m2,z2⟩:=F.un.tbls b _ z1
    exact⟨m1++m2,by rw[<-Jg];exact z2⟩
  · intro b u z
    obtain⟨o,_,e2⟩:=F.trk b u z
    exact⟨o,x1.1.1 b o e2,e2⟩
  · intro b o e nf
    obtain⟨o1,q1⟩:=I.base.there b o e (fun z=>by cases z)
    exact F.all b o1 q1 (iK I e nf)
end
end L2
namespace L2
open PySem PySem.Spec PyProof.Rows
section
variable {P:Program}{w:World}{K:W.Frag}{mg:Str->Option Value}{base:Heap}{N:List Str}{qual:Str}{scope:Scope}{f:Addr}{cd:Value}{A:Around}{outer:List Env}{s:Shared}{H:Hp}{E:XK}
def b1I (C:Addr)(E:XK)(t:TA):TS:=fun _ σ H=>t σ H fun vs H1=>vs.length<=sizeLine/\E (.ref C) none H1
theorem dN {x:Str}{C:Addr}{np cpos pos:Pos}{e₀:Expr}{rest:List Expr}{t:TA}{B newId initId:String}{bmB:List Value}(FB:ExcBaseFacts B newId initId bmB)(hm:mg x=some (.ref C))
  (hq:W.excIn K C bmB newId=true) (ha:PA (cY (CXR P w) P w K mg base N qual scope f cd A outer s H E) (e₀::rest) t)
  (hx:Gl (cY (CXR P w) P w K mg base N qual scope f cd A outer s H E) x:=by rfl) (hd:(x == ("__debug__":Str))=false:=by decide)
  (he:starEach (e₀::rest) (cY (CXR P w) P w K mg base N qual scope f cd A outer s H E).env=(false,eval e₀ (cY (CXR P w) P w K mg base N qual scope f cd A outer s H E).env)::starEach rest (cY (CXR P w) P w K mg base N qual scope f cd A outer s H E).env:=by rfl)
  (hpl:(backTo cpos (starEach rest (cY (CXR P w) P w K mg base N qual scope f cd A outer s H E).env)).any (·.1)=false:=by rfl) :
  PS (cY (CXR P w) P w K mg base N qual scope f cd A outer s H E) (.Raise (some (.Call (.Name x np) (e₀::rest) [] cpos)) none pos) (b1I C E t):=by
 intro pins s1 σ H1 D I hw
 obtain⟨bm,N',nm,qn,bs,hdct,sn,sub,ab,col,dd,k0,k1,k2,k3,k5,mN,hC,hN,hni,T⟩:=b3R I.ok.mod.kin hq
 refine wpAny_Raise_call_subT (C:=C) (nm:=nm) (q:=qn) (N:=N') (bs:=bs) (bm:=bm) (hdct:=hdct) (sn:=sn) (sub:=sub) (ab:=ab) (col:=col) (dd:=dd) (k0:=k0) (k1:=k1) (k2:=k2) (k3:=k3) (k5:=k5) FB (mN:=mN)
  (T.hasType FB.hasBase) (I.ok.hd rfl) (by rw[he];exact hpl) hni (jK I hx hm ⟨rfl,?_⟩ hd)
 have h:=ha cpos pins s1 σ H1 _ I hw
 rw[he]at h ⊢
 exact Calls.evalArgs_plain (Y8 h (fun us s2 ⟨vs,H2,I2,rv,z,q⟩=>⟨rfl,by rw[<-rv.length];exact z,I2.bk _ _ hC,hN.keeps I2.bk,T.keeps I2.bk,fun h' e hx=>tL I2 hx q⟩) fun _ _ y=>y)
theorem Fun.okR {x qual:Str}{st:Stmt}{f:Addr}{fd:FuncData}{N ps:List Str}{k:Nat}{sp:Sp}(F:Fun K x qual st f fd)(S:gK N ps (bM st))(len:∀vs H Q E,sp vs H Q E->vs.length=ps.length)
  (hbody:∀(cdv:Value)(A:Around)(outer:List Env)(s:Shared)(H:Hp)(vs:List V)(Q:VK)(E:XK),dM k (A.deeper (envOfC qual (bM st) s.heap.objs.size f cdv))->sp vs H Q E->
   ∃t,PSs (cY (CXR P w) P w K mg base N qual (bM st) f cdv A outer s H E) (gJ st) t/\t { nx:=fun _ H'=>Q .non H',rt:=Q } (start N vs) H):fM P w K mg base (CXR P w) (k+1) f fd ps sp:=by
 obtain⟨oc,od,kV,doc,pm,an,cdv,ct,osl,rfl,lk,hcd⟩:=F.ex
 exact b0T lk hcd S len fun A outer s H vs Q E hr hsp=>hbody cdv A outer s H vs Q E hr hsp
end
section
variable {X:Cx}
variable {e:Expr}{tx:St->Hp->VK->XK->Prop}{p1 np hpos pos:Pos}{y n:Str}{C:Addr}{i:Nat}{b₀:Stmt}{suite:List Stmt}{ts:TS}
end
end L2
namespace L2
open PySem PySem.Spec PyProof.Rows
structure b6X (k:Nat)(A:Around):Prop where
 dp:A.depth+3*k+5<recursionLimit
 un:A.units+16*k+200<cLine
structure b9B (P:Program)(w:World)(K:W.Frag)(mg:Str->Option Value)(base:Heap)(CX:CXT)(k:Nat)(f:Addr)(fd:FuncData)(ps:List Str)(sp:Sp):Prop where
 len:∀vs H Q E,sp vs H Q E->vs.length=ps.length
 run:∀(A:Around)(outer:List Env)(s:Shared)(H:Hp)(args:Args)(us:List Value)(vs:List V)(Q:VK)(E:XK),b6X k A->nZ P w K mg base A outer s H->BindsTo s fd args (ps.zip us)->Vals vs us->sp vs H Q E->
  codeAny (model P w) A (.call (.ref f) args) (CR CX outer P w H s Q E) s
section
variable {X:Cx}{CX:CXT}{k:Nat}{f C:Addr}{fd:FuncData}{ps:List Str}{sp:Sp}{dvs:List V}{ds:List Value}{E:XK}{x m:Str}{p pos apos:Pos}{e o:Expr}{es:List Expr}{ta:TE}{t:TA}
end
section
variable {P:Program}{w:World}{K:W.Frag}{mg:Str->Option Value}{base:Heap}
end
end L2
namespace L2
open PySem PySem.Spec PyProof.Rows
theorem PE.imp {X:Cx}{e:Expr}{t t':TE}(h:PE X e t)(i:∀σ H Q,t' σ H Q->t σ H Q):PE X e t':=fun pins s σ H Q I q=>h pins s σ H Q I (i σ H Q q)
theorem PS.imp {X:Cx}{e:Stmt}{t t':TS}(h:PS X e t)(i:∀D σ H,t' D σ H->t D σ H):PS X e t':=fun pins s σ H D I q=>h pins s σ H D I (i D σ H q)
theorem OpR.imp {X:Cx}{f:Value->Value->Sem Value}{r r':R2}(h:OpR X f r)(i:∀x y H Q,r' x y H Q->r x y H Q):OpR X f r':=fun pins s σ H x y v u Q I rx ry q=>h pins s σ H x y v u Q I rx ry (i x y H Q q)
theorem UnR.imp {X:Cx}{f:Value->Sem Value}{r r':V->Hp->VK->Prop}(h:UnR X f r)(i:∀x H Q,r' x H Q->r x H Q):UnR X f r':=fun pins s σ H x v Q I rx q=>h pins s σ H x v Q I rx (i x H Q q)
theorem fP.imp {X:Cx}{f:Value}{r r':List V->Hp->VK->Prop}(h:fP X f r)(i:∀xs H Q,r' xs H Q->r xs H Q):fP X f r':=fun pins s σ H xs us Q I rv q=>h pins s σ H xs us Q I rv (i xs H Q q)
theorem IxR.imp {X:Cx}{r r':R2}(h:IxR X r)(i:∀x y H Q,r' x y H Q->r x y H Q):IxR X r':=fun va sl pins s σ H x y v u Q I rx ry q hs=>h va sl pins s σ H x y v u Q I rx ry (i x y H Q q) hs
def oV (o:Option (Option V))(k:V->Prop):Prop:=@Option.rec (Option V) (fun _=>Prop) False (fun o=>@Option.rec V (fun _=>Prop) False k o) o
def vI (x:V)(k:Int->Prop):Prop:=@V.rec (fun _=>Prop) False (fun _=>False) k (fun _=>False) (fun _=>False) (fun _=>False) (fun _=>False) (fun _=>False) x
def vB (x:V)(k:Bool->Prop):Prop:=@V.rec (fun _=>Prop) False k (fun _=>False) (fun _=>False) (fun _=>False) (fun _=>False) (fun _=>False) (fun _=>False) x
def vR (x:V)(k:Addr->Prop):Prop:=@V.rec (fun _=>Prop) False (fun _=>False) (fun _=>False) (fun _=>False) (fun _=>False) (fun _=>False) k (fun _=>False) x
def l1 (vs:List V)(k:V->Prop):Prop:=@List.rec V (fun _=>Prop) False (fun x r _=>@List.rec V (fun _=>Prop) (k x) (fun _ _ _=>False) r) vs
def l2 (vs:List V)(k:V->V->Prop):Prop:=@List.rec V (fun _=>Prop) False (fun x r _=>l1 r fun y=>k x y) vs
theorem oV.ex {o:Option (Option V)}{k:V->Prop}(h:oV o k):∃v,o=some (some v)/\k v:=by
 cases o with
 |none=>exact h.elim
 | some o=>cases o with
  |none=>exact h.elim
  |some v=>exact⟨v,rfl,h⟩
theorem vI.ex {x:V}{k:Int->Prop}(h:vI x k):∃i,x= .int i/\k i:=by
 cases x with
 |int i=>exact⟨i,rfl,h⟩
 |_=>exact h.elim
theorem vB.ex {x:V}{k:Bool->Prop}(h:vB x k):∃i,x= .bl i/\k i:=by
 cases x with
 |bl i=>exact⟨i,rfl,h⟩
 |_=>exact h.elim
theorem vR.ex {x:V}{k:Addr->Prop}(h:vR x k):∃i,x= .ref i/\k i:=by
 cases x with
 |ref i=>exact⟨i,rfl,h⟩
 |_=>exact h.elim
theorem l1.ex {vs:List V}{k:V->Prop}(h:l1 vs k):∃x,vs= [x]/\k x:=by
 match vs,h with
 |[x],h=>exact⟨x,rfl,h⟩
theorem l2.ex {vs:List V}{k:V->V->Prop}(h:l2 vs k):∃x y,vs= [x,y]/\k x y:=by
 match vs,h with
 |[x,y],h=>exact⟨x,y,rfl,h⟩
def b8T (i:Nat):TE:=fun σ H Q=>oV σ[i]? fun v=>Q v H
section
variable {X:Cx}
theorem dv (i:Nat){x:Str}{pos:Pos}(hN:X.N[i]? =some x:=by rfl)(hv:Vis X.env.scope x:=by first | exact Or.inl rfl | exact Or.inr (Or.inl rfl) | exact Or.inr (Or.inr rfl))(hd:(x == ("__debug__":Str))=false:=by decide)
  (hcd:(x == ("__classdict__":Str))=false:=by decide):PE X (.Name x pos) (b8T i):=(a4P hN hv hd hcd).imp fun σ H Q h=>h.ex
def mI (C:Int->Int->Prop)(g:Int->Int->V):R2:=fun x y H Q=>vI x fun i=>vI y fun j=>C i j/\Q (g i j) H
def mI0 (g:Int->Int->V):R2:=fun x y H Q=>vI x fun i=>vI y fun j=>Q (g i j) H
theorem mI.to {C:Int->Int->Prop}{g:Int->Int->V}:∀x y H Q,mI C g x y H Q->rI C g x y H Q:=fun x y H Q h=>by
 obtain⟨i,rfl,h1⟩:=vI.ex h
 clear h
 obtain⟨j,rfl,h⟩:=vI.ex h1
 exact⟨_,_,rfl,rfl,h.1,h.2⟩
theorem mI0.to {g:Int->Int->V}:∀x y H Q,mI0 g x y H Q->rI0 g x y H Q:=fun x y H Q h=>by
 obtain⟨i,rfl,h1⟩:=vI.ex h
 clear h
 obtain⟨j,rfl,h⟩:=vI.ex h1
 exact⟨_,_,rfl,rfl,h⟩
def mU (g:Int->V):V->Hp->VK->Prop:=fun x H Q=>vI x fun i=>Q (g i) H
theorem mU.to {g:Int->V}:∀x H Q,mU g x H Q->rU g x H Q:=fun x H Q h=>vI.ex h
theorem bV:OpR X (binaryOp .Add) (mI0 fun i j=> .int (i+j)):=b2U.imp mI0.to
theorem gW:OpR X (binaryOp .Sub) (mI0 fun i j=> .int (i-j)):=b2N.imp mI0.to
theorem iD:OpR X (binaryOp .Mult) (mI a0L fun i j=> .int (i*j)):=a8T.imp mI.to
theorem wJ:OpR X (binaryOp .FloorDiv) (mI b7F fun i j=> .int (i / j)):=a8U.imp mI.to
theorem rG:OpR X (binaryOp .Mod) (mI (fun _ j=>0<j) fun i j=> .int (i % j)):=b2Q.imp mI.to
theorem b4N:OpR X (binaryOp .LShift) (mI b7E fun i j=> .int (i*2 ^ j.toNat)):=a8S.imp mI.to
theorem yJ:OpR X (binaryOp .RShift) (mI (fun _ j=>0<=j) fun i j=> .int (i / 2 ^ j.toNat)):=b2O.imp mI.to
theorem rH:OpR X (binaryOp .BitAnd) (mI0 fun i j=> .int (Builtin.bitAnd i j)):=b2T.imp mI0.to
theorem a9Y:OpR X (binaryOp .BitXor) (mI0 fun i j=> .int (Builtin.bitXor i j)):=b2M.imp mI0.to
theorem yK:UnR X (unaryOp .USub) (mU fun i=> .int (-i)):=b1E.imp mU.to
theorem wI:OpR X (compareOp .Lt) (mI0 fun i j=> .bl (decide (i<j))):=b5M.imp mI0.to
theorem qY:OpR X (compareOp .LtE) (mI0 fun i j=> .bl (decide (i<=j))):=b5N.imp mI0.to
theorem uK:OpR X (compareOp .Gt) (mI0 fun i j=> .bl (decide (j<i))):=b5O.imp mI0.to
theorem a2Q:OpR X (compareOp .GtE) (mI0 fun i j=> .bl (decide (j<=i))):=b5P.imp mI0.to
theorem dI {i j:Int}:decide (V.int i=V.int j)=decide (i=j):=by
 by_cases h:i=j
 ·rw[Yl h,Yl (YT V.int h)]
 ·rw[Yu h,Yu fun z=>h (V.int.inj z)]
theorem dS {i j:Str}:decide (V.str i=V.str j)=decide (i=j):=by
 by_cases h:i=j
 ·rw[Yl h,Yl (YT V.str h)]
 ·rw[Yu h,Yu fun z=>h (V.str.inj z)]
theorem dB {i j:Bool}:decide (V.bl i=V.bl j)=decide (i=j):=by
 by_cases h:i=j
 ·rw[Yl h,Yl (YT V.bl h)]
 ·rw[Yu h,Yu fun z=>h (V.bl.inj z)]
def eqW (f:Bool->Prop)(x y:V):Prop:=@V.rec (fun _=>Prop)
 (@V.rec (fun _=>Prop) (f true) (fun _=>False) (fun _=>f false) (fun _=>f false) (fun _=>False) (fun _=>False) (fun _=>False) (fun _=>False) y)
 (fun i=>@V.rec (fun _=>Prop) False (fun j=>f (decide (i=j))) (fun _=>False) (fun _=>False) (fun _=>False) (fun _=>False) (fun _=>False) (fun _=>False) y)
 (fun i=>@V.rec (fun _=>Prop) (f false) (fun _=>False) (fun j=>f (decide (i=j))) (fun _=>f false) (fun _=>False) (fun _=>False) (fun _=>False) (fun _=>False) y)
 (fun i=>@V.rec (fun _=>Prop) (f false) (fun _=>False) (fun _=>f false) (fun j=>f (decide (i=j))) (fun _=>False) (fun _=>False) (fun _=>False) (fun _=>False) y)
 (fun _=>False) (fun _=>False) (fun _=>False) (fun _=>False) x
theorem eqW.ex {f:Bool->Prop}{x y:V}(h:eqW f x y):b1Y x y=true/\f (decide (x=y)):=by
 cases x with
 |non=>cases y <;> first | exact h.elim | exact⟨rfl,h⟩
 |bl i=>cases y <;> first | exact h.elim | (exact⟨rfl,by rw[dB];exact h⟩)
 |int i=>cases y <;> first | exact h.elim | exact⟨rfl,h⟩ | (exact⟨rfl,by rw[dI];exact h⟩)
 |str i=>cases y <;> first | exact h.elim | exact⟨rfl,h⟩ | (exact⟨rfl,by rw[dS];exact h⟩)
 |_=>exact h.elim
def mEq:R2:=fun x y H Q=>eqW (fun b=>Q (.bl b) H) x y
def mNe:R2:=fun x y H Q=>eqW (fun b=>Q (.bl (!b)) H) x y
theorem dW:OpR X (compareOp .Eq) mEq:=b5Q.imp fun x y H Q h=>eqW.ex (f:=fun b=>Q (.bl b) H) h
theorem nD:OpR X (compareOp .NotEq) mNe:=b5L.imp fun x y H Q h=>eqW.ex (f:=fun b=>Q (.bl (!b)) H) h
def vN (x:V)(k:Prop):Prop:=@V.rec (fun _=>Prop) k (fun _=>False) (fun _=>False) (fun _=>False) (fun _=>False) (fun _=>False) (fun _=>False) (fun _=>False) x
theorem vN.ex {x:V}{k:Prop}(h:vN x k):x= .non/\k:=by
 cases x with
 |non=>exact⟨rfl,h⟩
 |_=>exact h.elim
def b8H:R2:=fun x y H Q=>vN y (Q (.bl (decide (x= .non))) H)
theorem b4O:OpR X (compareOp .Is) b8H:=b2R.imp fun x y H Q h=>vN.ex h
section
variable {a b c:Expr}{ta tb tc:TE}{pos:Pos}{rest:List Expr}
theorem pM {x:V}{k:Bool->Prop}:vB x k=∃i,x= .bl i/\k i:=propext ⟨vB.ex,fun ⟨i,e,h⟩=>by subst e;exact h⟩
def qN (t:TE):TT:=fun σ H Q=>t σ H fun x H'=>vB x fun k=>Q k H'
theorem vZ (t:TE):qN t=yR t:=by
 funext σ H Q
 unfold qN yR
 simp only[pM]
theorem a2G (t:TE):qN t=tB t:=by
 funext σ H Q
 unfold qN tB
 simp only[pM]
theorem aY {op:CmpOp}{r:R2}(ho:OpR X (compareOp op) r)(ha:PE X a ta)(hb:PE X b tb)(hm:behindInMarks op b=false):PT X (.Compare a [op] [b] pos) (qN (tOp r ta tb)):=by
 rw[vZ];exact a8D ho ha hb hm
theorem cN {e:Expr}{t:TE}(h:PE X e t)(he:∀whole,isTrue e X.env whole=(do let v<-whole;standAt e.pos;holding [v] (truthy v)):=by intro _;rfl):PT X e (qN t):=by
 rw[a2G];exact b2D h he
def b4B (ta tb:TE):TE:=fun σ H Q=>ta σ H fun x H1=>vB x fun c=>if c=true then tb σ H1 Q else Q (.bl false) H1
def b3Y (ta:TE):TE:=fun σ H Q=>ta σ H fun x H1=>vB x fun c=>Q (.bl (!c)) H1
theorem a9N:b4B ta tb=a2Y ta tb:=by
 funext σ H Q
 unfold b4B a2Y
 simp only[pM]
theorem a9K:b3Y ta=a2X ta:=by
 funext σ H Q
 unfold b3Y a2X
 simp only[pM]
theorem a5J (ha:PE X a ta)(hb:PE X (.BoolOp .And (b::rest) pos) tb):PE X (.BoolOp .And (a::b::rest) pos) (b4B ta tb):=by
 rw[a9N];exact b2I ha hb
theorem b3C (ha:PE X a ta):PE X (.UnaryOp .Not a pos) (b3Y ta):=by
 rw[a9K];exact b2G ha
end
def SqA (K:W.Frag)(H:Hp)(a:Addr)(xs:List V):Prop:=SqL K H a xs\/SqT K H a xs
def b6A (K:W.Frag):R2:=fun x y H Q=>vR x fun p=>vI y fun i=>∃xs v,SqL K H p xs/\atI xs i=some v/\Q v H
def b5Z (K:W.Frag):R2:=fun x y H Q=>vR x fun p=>vI y fun i=>∃xs v,SqT K H p xs/\atI xs i=some v/\Q v H
theorem cR:IxR X (b6A X.K):=a9D.imp fun x y H Q h=>by
 obtain⟨p,rfl,h⟩:=vR.ex h
 obtain⟨i,rfl,xs,v,h1,h2,h3⟩:=vI.ex h
 exact⟨_,xs,_,v,rfl,rfl,h1,h2,h3⟩
theorem fH:IxR X (b5Z X.K):=b3J.imp fun x y H Q h=>by
 obtain⟨p,rfl,h⟩:=vR.ex h
 obtain⟨i,rfl,xs,v,h1,h2,h3⟩:=vI.ex h
 exact⟨_,xs,_,v,rfl,rfl,h1,h2,h3⟩
def b5Y (K:W.Frag):List V->Hp->VK->Prop:=fun xs H Q=>l1 xs fun x=>vR x fun p=>∃ys,SqA K H p ys/\Q (.int ys.length) H
theorem cP:fP X (.builtin "len") (b5Y X.K):=uB.imp fun xs H Q h=>by
 obtain⟨x,rfl,h⟩:=l1.ex h
 obtain⟨p,rfl,ys,h1,h2⟩:=vR.ex h
 exact⟨_,ys,rfl,h1,h2⟩
def zM (K:W.Frag):List V->Hp->VK->Prop:=fun xs H Q=>l1 xs fun x=>vR x fun p=>∃ys,SqA K H p ys/\∀l,H l=none->Q (.ref l) (upd H l (.lst ys))
theorem dU:fP X (.type "list") (zM X.K):=uA.imp fun xs H Q h=>by
 obtain⟨x,rfl,h⟩:=l1.ex h
 obtain⟨p,rfl,ys,h1,h2⟩:=vR.ex h
 exact⟨_,ys,rfl,h1,h2⟩
def b5X:List V->Hp->VK->Prop:=fun xs H Q=>l2 xs fun x y=>vI x fun i=>vI y fun j=>Q (.int (max i j)) H
theorem b0Z (hc:X.calm=true):fP X (.builtin "max") b5X:=(a2H hc).imp fun xs H Q h=>by
 obtain⟨x,y,rfl,h⟩:=l2.ex h
 obtain⟨i,rfl,h⟩:=vI.ex h
 obtain⟨j,rfl,h⟩:=vI.ex h
 refine⟨_,_,rfl,?_⟩
 have e:(if j > i then j else i)=max i j:=by omega
 rw[e];exact h
def b6F (T:String)(f:V->Hp->VK->Prop):List V->Hp->VK->Prop:=fun xs H Q=>l2 xs fun x c=>c= .ty T/\f x H Q
def a1Q:V->Hp->VK->Prop:=fun x H Q=>@V.rec (fun _=>Prop) False (fun _=>False) (fun _=>Q (.bl false) H) (fun _=>False) (fun _=>False) (fun _=>False) (fun p=>(∃xs,H p=some (.tup xs))/\Q (.bl true) H) (fun _=>False) x
end
section
variable {K:W.Frag}
theorem rB:W.kitOne K (.type "int") (.type "tuple")=some false:=by first | rfl | decide +kernel
end
section
variable {X:Cx}
theorem b3K {T:String}{f:V->Hp->VK->Prop}(h:∀x H Q,f x H Q->∃t b,mZ X.K H x t/\W.kitOne X.K t (.type T)=some b/\Q (.bl b) H):fP X (.builtin "isinstance") (b6F T f):=a6Q.imp fun xs H Q q=>by
 obtain⟨x,c,rfl,q⟩:=l2.ex q
 obtain⟨ec,q2⟩:=q
 subst ec
 obtain⟨t,b,h1,h2,h3⟩:=h x H Q q2
 exact⟨_,_,_,t,b,rfl,rfl,h1,h2,h3⟩
theorem uJ:fP X (.builtin "isinstance") (b6F "tuple" a1Q):=b3K fun x H Q q=>by
 cases x with
 |int i=>exact⟨_,_,.int _,rB,q⟩
 | ref p=>
  obtain⟨⟨xs,hp⟩,q⟩:=q
  exact⟨_,_,.tup hp,oK,q⟩
 |_=>exact q.elim
def b4Y (t:TA):TA:=fun σ H Q=>∃P:List V->Hp->Prop,t σ H P/\∀x H',P x H'->Q x H'
theorem pZ {es:List Expr}{t:TA}(h:PA X es t):PA X es (b4Y t):=by
 intro pos pins s σ H Q I hw
 obtain⟨P,h1,h2⟩:=hw
 exact thn (h pos pins s σ H P I h1) fun v s1 ⟨x,H1,I1,r,q⟩=>⟨x,H1,I1,r,h2 x H1 q⟩
section
variable {o e:Expr}{es:List Expr}{to:TE}{t:TA}{apos cpos:Pos}
def dBl (to:TE):TE:=fun σ H Q=>to σ H fun x H1=>vI x fun i=>Q (.int ((Builtin.Int.intBits i:Nat):Int)) H1
theorem zL (ho:PE X o to)(hbase:attributeBase o "bit_length" X.env (eval o X.env)=eval o X.env:=by rfl)(hline:(apos.endLine == cpos.line)=true:=by rfl) :
  PE X (.Call (.Attribute o "bit_length" apos) [] [] cpos) (dBl to):=
 (b2H PySem.F.plainAttrs_int PySem.F.slot_int_bit_length PySem.F.type_int_bit_length b5V (cG ho) hbase hline).imp fun σ H Q h=>⟨_,h,fun x H1 q=>by
  obtain⟨i,rfl,q⟩:=vI.ex q
  exact⟨rfl,i,rfl,rfl,q⟩⟩
def a9M (K:W.Frag)(to:TE)(t:TA):TE:=fun σ H Q=>to σ H fun x H1=>vR x fun l=>(∃xs,SqL K H1 l xs)/\t σ H1 fun vs H2=>l1 vs fun y=>∃xs,H2 l=some (.lst xs)/\xs.length<sizeLine/\Q .non (upd H2 l (.lst (xs++[y])))
theorem cO (ho:PE X o to)(ha:PA X [e] t)(hbase:attributeBase o "append" X.env (eval o X.env)=eval o X.env:=by rfl)
  (hfew:((backTo cpos (starEach [e] X.env)).all (fun x=>!x.1) && (backToKw cpos (keywordEach [] X.env)).all (fun x=>x.1.isSome)
   && decide (([e]:List Expr).length+([]:List Keyword).length+(if ([]:List Keyword).isEmpty then 0 else 1)<30))=true:=by rfl)
  (hline:(apos.endLine == cpos.line)=true:=by rfl) (hs:starEach [e] X.env=(false,eval e X.env)::starEach [] X.env:=by rfl) (hplain:(backTo cpos (starEach [] X.env)).any (·.1)=false:=by rfl) :
  PE X (.Call (.Attribute o "append" apos) [e] [] cpos) (a9M X.K to t):=
 (a4Y PySem.F.plainAttrs_list PySem.F.slot_list_append PySem.F.type_list_append a1M (cG ho) (pZ ha) hbase hfew hline hs hplain).imp fun σ H Q h=>⟨_,h,fun x H1 q=>by
  obtain⟨l,rfl,q1,q2⟩:=vR.ex q
  refine⟨.inl ⟨rfl,q1⟩,_,q2,fun vs H2 q3=>?_⟩
  obtain⟨y,rfl,xs,h1,h2,h3⟩:=l1.ex q3
  exact⟨l,xs,y,rfl,rfl,h1,h2,h3⟩⟩
def b6Q (t:TE):TO:=fun σ H Q=>t σ H fun x H1=>vI x fun i=>Q (some i) H1
theorem PO.imp {e:Option Expr}{t t':TO}(h:PO X e t)(i:∀σ H Q,t' σ H Q->t σ H Q):PO X e t':=fun pins s σ H Q I q=>h pins s σ H Q I (i σ H Q q)
theorem fC (h:PE X e to):PO X (some e) (b6Q to):=(a8K (cG h)).imp fun σ H Q q=>⟨_,q,fun x H1 z=>vI.ex z⟩
def b5W (K:W.Frag):V->Option Int->Option Int->Hp->VK->Prop:=fun x lo hi H Q=>vR x fun a=>∃xs,SqL K H a xs/\∀p,H p=none->Q (.ref p) (upd H p (.lst (lG xs lo hi)))
theorem SlR.imp {r r':V->Option Int->Option Int->Hp->VK->Prop}(h:SlR X r)(i:∀x lo hi H Q,r' x lo hi H Q->r x lo hi H Q):SlR X r':=by
 intro pins s σ H x v vl vu lo hi sl Q I rx hs pl pu q
 exact h pins s σ H x v vl vu lo hi sl Q I rx hs pl pu (i _ _ _ _ _ q)
theorem pK:SlR X (b5W X.K):=a7V.imp fun x lo hi H Q h=>by
 obtain⟨a,rfl,xs,h1,h2⟩:=vR.ex h
 exact⟨_,xs,rfl,h1,h2⟩
variable {tg:Expr}
theorem PI.imp {iter:Expr}{w w':TI}(h:PI X tg iter w)(i:∀σ H R,w' σ H R->w σ H R):PI X tg iter w':=fun pins s σ H R I q=>h pins s σ H R I (i σ H R q)
def b6R (K:W.Frag)(tl:TE):TI:=fun σ H R=>tl σ H fun x H1=>vR x fun a=>(∃xs,SqL K H1 a xs)/\R (Itl K a) H1
theorem dC {l:Expr}{tl:TE}(hl:PE X l tl):PI X tg l (b6R X.K tl):=(a8M (cG hl)).imp fun σ H R h=>⟨_,h,fun x H1 q=>vR.ex q⟩
def b6P (ta:TA):TI:=fun σ H R=>ta σ H fun vs H1=>l1 vs fun x=>vI x fun j=>(-(2 ^ 62)<=j/\j<2 ^ 62)/\R (Itr 0 j.toNat) H1
theorem cV {a:Expr}{ta:TA}{p pos:Pos}(hg:Gl X "range")(hm:X.mg "range"=none)(ha:PA X [a] ta)(hs:starEach [a] X.env= [(false,eval a X.env)]:=by rfl):PI X tg (.Call (.Name "range" p) [a] [] pos) (b6P ta):=
 (a1G hg hm (pZ ha) hs).imp fun σ H R h=>⟨_,h,fun vs H1 q=>by
  obtain⟨x,rfl,q⟩:=l1.ex q
  obtain⟨j,rfl,q⟩:=vI.ex q
  exact⟨j,rfl,q.1.1,q.1.2,q.2⟩⟩
end
end
end L2
namespace L2
open PySem PySem.Spec PyProof.Rows
section
variable {M:Model}{A:Around}{E:Value->Shared->Prop}{s:Shared}{B:Heap}{env:Env}{outer l:List Env}{L e:Addr}{k a0 fl:Value}{od:Option Addr}
theorem a5P {Q:Unit->Shared->Prop}(fr:A.frames=some (env::outer))(fL:env.frame=some L)(st:B.StaysIn s.heap/\B.get? e=none)(ff:s.heap.FunFrames B (env::outer))(tr:TrD s.heap B e k a0 od fl)
  (next:∀h',a0K B (env::outer) e k a0 od L h'->s.heap.UpToSlots h'->Q () { s with heap:=h' }):wpAny M A (noteFrame (.ref e) env) Q E s:=by
 have tr0:=tr
 obtain⟨oe,vs,T,oT,ts,⟨q1,q2,q3,q4⟩,⟨q5,q6⟩,⟨q7,q8⟩,q9,q10,q11⟩:=tr
 subst q2 q3
 have off:∀b,b≠T->(s.heap.update T (Obj.mapFields (·.setIfInBounds 3 Value.none))).get? b=s.heap.get? b:=fun b n=>Xd _ _ (Ne.symm n)
 have apart:∀b o,s.heap.get? b=some o->(∀ws,o.data≠ .fields ws)->b≠T:=fun b o q n z=>by
  subst z
  cases q9.symm.trans q
  exact n ts q10
 unfold noteFrame
 simp only[fL]
 refine YH (X0 q1 q4 q6 ?_)
 rw[if_pos (show (Value.ref T != Value.none)=true by simp)]
 refine YH (X0 q9 q10 q11 ?_)
 by_cases hfl:(fl == rawInt L)=true
 ·rw[if_pos hfl]
  obtain rfl:=eq_of_beq hfl
  exact Xa (next s.heap ⟨st,ff,tr0⟩ (Heap.UpToSlots.refl _))
 ·rw[if_neg hfl]
  refine YH (Jl q9 q10 (Y5.mp q11).1 ?_)
  refine xX (B:=B) fr (ff.of_keeps fun b o q n=>⟨o,(off b (apart b o q n)).trans q,rfl⟩) fL ⟨fun b o q=>(off b fun z=>by rw[z,q7]at q;cases q).trans (st.1 b o q),st.2⟩ ((off e (Ne.symm q8)).trans q1) q4 (Y5.mp q6).1 q5 fun h' x1 x2=>?_
  exact next h' x1 fun b o q n=>x2 b o ((off b (apart b o q n)).trans q) n
theorem a1U {Q:Unit->Shared->Prop}(fr:A.frames=some (env::outer))(fL:env.frame=some L)(st:B.StaysIn s.heap/\B.get? e=none)(ff:s.heap.FunFrames B (env::outer))(tr:TrD s.heap B e k a0 od fl)
  (next:∀h',qX B outer e k a0 od h'->s.heap.UpToSlots h'->Q () { s with heap:=h' }):wpAny M A (leaving env (.ref e)) Q E s:=by
 unfold leaving
 exact YH (a5P fr fL st ff tr fun h1 x1 x2=>a5S x1 fun h2 x3 x4=>next h2 x3.tail (x2.trans x4))
theorem a8Q {α:Type}{w:String}{cenv:Env}{Q:α->Shared->Prop}(st:B.StaysIn s.heap/\B.get? e=none)(ff:s.heap.FunFrames B l)(tr:TrD s.heap B e k a0 od fl)
  (next:∀h' fl',B.StaysIn h'->h'.FunFrames B l->TrD h' B e k a0 od fl'->s.heap.UpToSlots h'->E (.ref e) { s with heap:=h' }):wpAny M A (PySem.passOn w (.ref e) cenv:Sem α) Q E s:=by
 obtain⟨oe,vs,T,oT,ts,⟨q1,q2,q3,q4⟩,⟨q5,q6⟩,⟨q7,q8⟩,q9,q10,q11⟩:=tr
 have sz:3<ts.size:=(Y5.mp q11).1
 have off:∀(v:Value) b,b≠T->(s.heap.update T (Obj.mapFields (·.setIfInBounds 3 v))).get? b=s.heap.get? b:=fun v b n=>Xd _ _ (Ne.symm n)
 have apart:∀b o,s.heap.get? b=some o->(∀ws,o.data≠ .fields ws)->b≠T:=fun b o q n z=>by
  subst z
  cases q9.symm.trans q
  exact n ts q10
 unfold PySem.passOn setFlight
 refine YH (X0 q1 q4 q6 ?_)
 rw[if_neg (show ¬ ((Value.ref T == Value.none)=true) by simp)]
 refine YH (YH (X0 q1 q4 q6 ?_))
 rw[if_pos (show (Value.ref T != Value.none)=true by simp)]
 refine Jl q9 q10 sz (wpAny_throw ?_)
 refine next _ (cenv.frame.elim Value.none fun f=>rawInt f) (fun b o q=>(off _ b fun z=>by rw[z,q7]at q;cases q).trans (st.1 b o q)) (ff.of_keeps fun b o q n=>⟨o,(off _ b (apart b o q n)).trans q,rfl⟩) ?_ fun b o q n=>⟨o.slots,(off _ b (apart b o q n)).trans q⟩
 exact⟨oe,vs,T,_,_,⟨(off _ e (Ne.symm q8)).trans q1,q2,q3,q4⟩,⟨q5,q6⟩,⟨q7,q8⟩,Heap.get?_update_self _ q9 (Obj.isFreed_of_fields (XZ q10 _)),XZ q10 _,by simp only[Array.getElem?_setIfInBounds_self_of_lt sz]⟩
end
end L2
namespace L2
open PySem PySem.Spec PyProof.Rows
def oJ (N:List Str)(ix:List Nat):List Str:=ix.map fun i=>N.getD i ""
def jR (σ:St)(ix:List Nat):St:=ix.map fun i=>σ.getD i none
def a6O (X:Cx)(scope:Scope)(cl:List (Str×Addr))(C:Addr):Value->Shared->Prop:=notedBy (model X.prog X.w) X.A (compEnvC scope cl C X.env) fun e s'=>
 ∃m,s'.heap.Ns C m/\∀h',Heap.SameBut C s'.heap h'->∀cenv:Env,cenv.locals=C->wpAny (model X.prog X.w) X.A (PySem.passOn "comprehension.variables-let-go" e cenv:Sem Value) (fun _ _=>False) X.xe { s' with heap:=h' }
def cW (X:Cx)(scope:Scope)(cl:List (Str×Addr))(x:Str)(ix:List Nat)(C:Addr)(fp:List Addr)(s₀:Shared)(H₀:Hp):Cx:=
 { X with N:=x::oJ X.N ix,s₀:=s₀,H₀:=H₀,env:=compEnvC scope cl C X.env,outer:=X.stack,ex:=fp,fn:=fun _=>false,pn:=[],xe:=a6O X scope cl C }
structure dY (X:Cx)(scope:Scope)(cl:List (Str×Addr))(x:Str)(ix:List Nat):Prop where
 clos:closureFor scope X.env=pure cl
 kind:scope.kind= .function
 loc:scope.names.lookup x=some .local
 one:∀y∈scope.names,y.2= .local->y.1=x\/y.1=".0"
 locs:∀y∈scope.names,y.2= .local->scope.names.lookup y.1=some .local
 nocell:∀y∈scope.names,y.2≠ .cell
 free:∀y∈scope.names,y.2= .free->(X.env.kindOf y.1=some .cell\/X.env.kindOf y.1=some .free)
 cells:∀y∈scope.names,y.2= .free->∃c,cl.lookup y.1=some c
 same:∀y∈cl,X.env.cells.lookup y.1=some y.2
 nd:((".0":Str)::x::oJ X.N ix).Nodup
theorem lookup_mem {α β:Type}[BEq α][LawfulBEq α]{a:α}{b:β}:∀{l:List (α×β)},l.lookup a=some b->(a,b)∈l
 |[],h=>by simp at h
 | (c,d)::r,h=>by
  rw[Xp]at h
  cases e:a == c with
  | true=>
   rw[e]at h
   cases h
   rw[eq_of_beq e];exact YD
  | false=>
   rw[e]at h
   exact Ys _ (lookup_mem h)
theorem fW {scope:Scope}{env:Env}{y:Str}{k:NameKind}(h:(relabel scope env).names.lookup y=some k):∃k0,scope.names.lookup y=some k0/\(k=k0\/(k0= .free/\k= .cell)):=by
  have gen :∀(names:List (Str×NameKind)),(names.map fun (n,k)=>if (k == NameKind.free && env.scope.kind == .function && env.kindOf n == some .cell) then (n,NameKind.cell) else (n,k)).lookup y=some k->
      ∃k0,names.lookup y=some k0/\(k=k0\/(k0= .free/\k= .cell)):=by
    intro names
    induction names with
    |nil=>intro h;simp at h
    | cons p r ih=>
      obtain⟨n,k1⟩:=p
      intro h
      rw[YS]at h
      dsimp only at h
      cases hc:(k1 == NameKind.free && env.scope.kind == .function && env.kindOf n == some .cell) with
      | true=>
        rw[hc,if_pos rfl,Xp]at h
        rw[Xp]
        cases e:y == n with
        | true=>
          rw[e]at h
          cases h
          simp only[XJ]at hc
          exact⟨k1,rfl,.inr ⟨eq_of_beq hc.1.1,rfl⟩⟩
        | false=>
          rw[e]at h
          exact ih h
      | false=>
        rw[hc,if_neg Yt,Xp]at h
        rw[Xp]
        cases e:y == n with
        | true=>
          rw[e]at h
          cases h
          exact⟨k,rfl,.inl rfl⟩
        | false=>
          rw[e]at h
          exact ih h
  exact gen scope.names h
section
variable {X:Cx}{scope:Scope}{cl:List (Str×Addr)}{x:Str}{ix:List Nat}{C:Addr}{fp:List Addr}
theorem dY.look (S:dY X scope cl x ix){y:Str}{c:Addr}(h:cl.lookup y=some c):X.env.cells.lookup y=some c:=S.same _ (lookup_mem h)
theorem dY.ok (S:dY X scope cl x ix){pins:List (Addr×Obj)}{σ:St}{H:Hp}{s:Shared}(I:Inv X pins σ H s)(hf:∀b∈fp,oN X pins H b)(hfl:∀b∈fp,b<s.heap.objs.size)(hC:s.heap.objs.size<=C) :
  (cW X scope cl x ix C fp s H).Ok where
 mod:=I.ok.mod
 kind:=S.kind
 glob:=I.ok.glob
 blt:=I.ok.blt
 above:=hC
 inj:=fun y z c h1 h2=>I.ok.inj y z c (S.look h1) (S.look h2)
 has := fun y h=>by
  have h':(relabel scope X.env).names.lookup y=some .cell\/(relabel scope X.env).names.lookup y=some .free:=h
  have fr:scope.names.lookup y=some .free:=by
   rcases h' with h' | h'
   ·obtain⟨k0,e,q | q⟩:=fW h'
    ·exact absurd rfl (q▸S.nocell _ (lookup_mem e))
    ·rw[e,q.1]
   ·obtain⟨k0,e,q | q⟩:=fW h'
    ·rw[e,<-q]
    ·cases q.2
  exact S.cells _ (lookup_mem fr) rfl
 cab:=fun y c h=>absurd h Yt
 hd:=I.ok.hd
 frames:=I.ok.frames
 stk:= .inl rfl
 exf:=fun b hb=>⟨YJ (Yf (hfl b hb) hC),fun y c e=>(hf b hb).2.2.2.2.1 y c (S.look e)⟩
 bs:=I.bs
 bsz:=Y0 I.ok.bsz I.sz
 noex:=fun b o e hb=>by
  rcases (hf b hb).2.2.2.1 with z | z
  ·exact I.ok.noex b o e z
  ·exact absurd (Yf (Yr e) (Y0 I.ok.bsz z)) (Y2 _)
 exfs:=fun b hb z=>by
  rcases YE.mp (I.stkSub b z) with e | e
  ·exact(hf b hb).2.1 e
  ·exact(hf b hb).2.2.1 e
 funs:=I.stack
 frf:=I.stkFree
theorem a3B {N:List Str}{ix:List Nat}{j:Nat}{y:Str}(h:(oJ N ix)[j]? =some y):∃i,ix[j]? =some i/\y=N.getD i "":=by
 unfold oJ at h
 rw[Yi]at h
 cases e:ix[j]? with
 |none=>rw[e]at h;cases h
 |some i=>rw[e]at h;cases h;exact⟨i,rfl,rfl⟩
theorem a3A {σ:St}{ix:List Nat}{j:Nat}{v:V}(h:(jR σ ix)[j]? =some (some v)):∃i,ix[j]? =some i/\σ[i]? =some (some v):=by
 unfold jR at h
 rw[Yi]at h
 cases e:ix[j]? with
 |none=>rw[e]at h;cases h
 | some i=>
  rw[e]at h
  have h':σ.getD i none=some v:=by simpa using h
  refine⟨i,rfl,?_⟩
  rw[Yg]at h'
  cases e2:σ[i]? with
  |none=>rw[e2]at h';cases h'
  |some u=>rw[e2]at h';exact YT some h'
theorem dY.inv (S:dY X scope cl x ix){pins:List (Addr×Obj)}{σ:St}{H:Hp}{s s1:Shared}{m:Str->Option Value}(I:Inv X pins σ H s)(hf:∀b∈fp,oN X pins H b)(hfl:∀b∈fp,b<s.heap.objs.size)
  (hC:s.heap.objs.size<=C) (os:s1.os=s.os) (bare:AllBare s1.gens) (k:∀b o,s.heap.get? b=some o->s1.heap.get? b=some o) (hn:s1.heap.Ns C m) :
  Inv (cW X scope cl x ix C fp s H) [] (none::jR σ ix) H s1 where
 ok:=S.ok I hf hfl hC
 os:=os
 bare:=bare
 base:=Un.kept k
 loc := ⟨m, hn,fun i y v h1 h2 h3=>by
  cases i with
  |zero=>cases (show none=some v from Yq h2)
  | succ j =>
   obtain⟨i,e1,e2⟩:=a3B (N:=X.N) (show (oJ X.N ix)[j]? =some y from h1)
   obtain⟨i',e1',e3⟩:=a3A (σ:=σ) (show (jR σ ix)[j]? =some (some v) from h2)
   rw[e1]at e1';cases e1'
   have hi:i<X.N.length:=by rw[<-I.len];exact(Ye.mp e3).1
   have hy:X.N[i]? =some y:=by rw[e2,Yg,Yb hi];rfl
   have ne:y≠x:=by
    rintro rfl
    have nd:=(YX.mp S.nd).2
    exact(YX.mp nd).1 (Yp (show (oJ X.N ix)[j]? =some y from h1))
   have h3':(relabel scope X.env).names.lookup y=some .local\/(relabel scope X.env).names.lookup y=some .cell\/(relabel scope X.env).names.lookup y=some .free:=h3
   have fr :scope.names.lookup y=some .free/\((relabel scope X.env).names.lookup y=some .cell\/(relabel scope X.env).names.lookup y=some .free):=by
    rcases h3' with z | z | z
    ·obtain⟨k0,e,q | q⟩:=fW z
     ·rcases S.one _ (lookup_mem e) q.symm with z | z
      ·exact absurd z ne
      ·have z':y=".0":=z
       exact absurd (Ys _ (Yp (show (oJ X.N ix)[j]? =some y from h1))) (z'▸(YX.mp S.nd).1)
     ·cases q.2
    ·obtain⟨k0,e,q | q⟩:=fW z
     ·exact absurd rfl (q▸S.nocell _ (lookup_mem e))
     ·exact⟨by rw[e,q.1],.inl z⟩
    ·obtain⟨k0,e,q | q⟩:=fW z
     ·exact⟨by rw[e,<-q],.inr z⟩
     ·cases q.2
   have vis:=S.free _ (lookup_mem fr.1) rfl
   obtain⟨m0,_,l0⟩:=I.loc
   obtain⟨u,r,l⟩:=l0 i y v hy e3 (vis.elim (fun z=> .inr (.inl z)) fun z=> .inr (.inr z))
   refine⟨u,r,.inr ⟨fr.2,?_⟩⟩
   rcases l with ⟨k1,_⟩ | ⟨_,c,ec,oc,hoc,hd⟩
   ·rcases vis with z | z
    ·have:=k1.symm.trans z;cases this
    ·have:=k1.symm.trans z;cases this
   ·obtain⟨c',e'⟩:=S.cells _ (lookup_mem fr.1) rfl
    have:some c'=some c:=(S.look e').symm.trans ec
    cases this
    exact⟨c,e',oc,k _ _ hoc,hd⟩⟩
 cell:=fun y c e=>by
  obtain⟨v,oc,hoc,hd⟩:=I.cell y c (S.look e)
  exact⟨v,oc,k _ _ hoc,hd⟩
 free:=I.hok.fresh hC
 freeC:=fun y c e=>I.freeC y c (S.look e)
 pin:=fun p hp=>absurd (show p∈([]:List (Addr×Obj)) from hp) (by simp)
 hok:=I.hok.kept k
 len:=by show (none::jR σ ix).length=(x::oJ X.N ix).length;simp[jR,oJ]
end
def PTs (X:Cx)(ifs:List Expr)(t:TT):Prop:=
 ∀ (pins:List (Addr×Obj))(s:Shared)(σ:St)(H:Hp)(Q:Bool->Hp->Prop),Inv X pins σ H s->t σ H Q->
  wpAny (model X.prog X.w) X.A (forIn ifs true fun c r=>if r=true then do let ok<-isTrue c X.env (eval c X.env);pure (ForInStep.yield ok) else pure (ForInStep.yield r)) (TP X pins σ Q) X.xe s
def b7J:TT:=fun _ H Q=>Q true H
theorem fB {X:Cx}:PTs X [] b7J:=fun _ _ _ H _ I h=>wpAny_tests_nil ⟨H,I,h⟩
theorem tM {X:Cx}{c:Expr}{t:TT}(h:PT X c t):PTs X [c] t:=fun pins s σ H Q I hw=>wpAny_tests_one (h pins s σ H Q I hw)
section
variable {prog:Program}{w:World}{A:Around}{R:Result->Shared->Prop}{s:Shared}
theorem tY {elt target iter:Expr}{ifs:List Expr}{scope:Scope}{pos:Pos}{it acc:Value}{env:Env}(I:Nat->Shared->Prop)
    (turn : ∀ n s,I n s->wpAny (model prog w) A (pyNext it) (fun r s₁=>match r with
      |none=>R (.ok .next) s₁
      | some v =>wpAny (model prog w) A (letOwnedTupleGo target it v) (fun _ s₀=>wpAny (model prog w) A (assign target env v) (fun _ s₂=>
          wpAny (model prog w) A (forIn ifs true fun c r=>if r=true then do let ok<-isTrue c env (eval c env);pure (ForInStep.yield ok) else pure (ForInStep.yield r)) (fun ok s₃=>
            if ok=true then wpAny (model prog w) A (eval elt env) (fun x s₄=>
              wpAny (model prog w) A (call (.builtin "list.append") [acc,x]) (fun _ s₅=>∃m,m<n/\I m s₅) (notedBy (model prog w) A env fun e s'=>R (.error e) s') s₄) (notedBy (model prog w) A env fun e s'=>R (.error e) s') s₃
            else ∃m,m<n/\I m s₃) (notedBy (model prog w) A env fun e s'=>R (.error e) s') s₂) (notedBy (model prog w) A env fun e s'=>R (.error e) s') s₀) (notedBy (model prog w) A env fun e s'=>R (.error e) s') s₁) (notedBy (model prog w) A env fun e s'=>R (.error e) s') s)
    (n:Nat) (h:I n s) :
    codeAny (model prog w) A (.compLoop (.ListComp elt [⟨target,iter,ifs,0⟩] scope pos) 0 it acc env) R s:=by
  refine codeAny_loop rfl I (fun n s hI=>?_) n h
  show wpAny _ A ((compTurn (.ListComp elt [⟨target,iter,ifs,0⟩] scope pos) 0 it acc env).onRaise (fun x=>do noteFrame x env;theTreesLotGoes x)) _ _ s
  refine wpAny_noted ?_
  rw[compTurn_list]
  refine YH (wpAny_standAt (YH (Y8 (turn n s hI) (fun r s₁ h₁=>?_) fun _ _ h'=>h')))
  cases r with
  |none=>exact Xa h₁
  | some v=>
    refine YH (Y8 h₁ (fun _ s₀ h₀=>?_) fun _ _ h'=>h')
    refine YH (Y8 h₀ (fun _ s₂ h₂=>YH (Y8 h₂ (fun ok s₃ h₃=>?_) fun _ _ h'=>h')) fun _ _ h'=>h')
    cases ok with
    |false=>exact Xa ⟨rfl,h₃⟩
    | true=>
      exact YH (YH (Y8 h₃ (fun x s₄ h₄=>YH (Y8 h₄ (fun _ s₅ h₅=>Xa (Xa ⟨rfl,h₅⟩)) fun _ _ h'=>h')) fun _ _ h'=>h'))
end
def qQ (J:It)(tt:TT)(te:TE)(σc:V->St)(H1:Hp)(Q:VK):Prop:=∃W:Nat->Nat->List V->Hp->Prop,(∃m,W 0 m [] H1)/\∀i m ys H,W i m ys H->ys.length<sizeLine/\
  ((J.stop i H/\∀p,H p=none->Q (.ref p) (upd H p (.lst ys)))\/
   (J.go i H/\∃N:List V->Hp->Prop,(∀ys' H',N ys' H'->∃m',m'<m/\W (i+1) m' ys' H')/\∀x H',J.yld i H x H'->tt (σc x) H' fun b H3=>if b=true then te (σc x) H3 fun y H4=>N (ys++[y]) H4 else N ys H3))
structure kJ (X:Cx)(C:Addr)(fp:List Addr)(s:Shared)(H:Hp):Prop where
 inv:∃pins σ,Inv X pins σ H s/\∀b∈fp,oN X pins H b
 low:∀b∈fp,b<s.heap.objs.size
 up:s.heap.objs.size<=C
def b0H (ix:List Nat)(wi:TI)(tt:TT)(te:TE):TE:=fun σ H Q=>wi σ H fun J H1=>qQ J tt te (fun x=>some x::jR σ ix) H1 Q
section
variable {X:Cx}{scope:Scope}{cl:List (Str×Addr)}{x:Str}{ix:List Nat}{elt iter:Expr}{ifs:List Expr}{pos px:Pos}{wi:TI}{tt:TT}{te:TE}
theorem qO (S:dY X scope cl x ix)(hc:X.calm=true)
    (ht:∀C fp s H,kJ X C fp s H->PTs (cW X scope cl x ix C fp s H) ifs tt) (he:∀C fp s H,kJ X C fp s H->PE (cW X scope cl x ix C fp s H) elt te)
    {pins:List (Addr×Obj)} {σ:St} {Q:VK} {itv:Value} {s2:Shared} {E:Value->Shared->Prop} {RR:Value->Addr->Result->Shared->Prop} (h2:PIE X pins σ (.Name x px) (fun J H1=>qQ J tt te (fun x=>some x::jR σ ix) H1 Q) itv s2)
    (fin:∀(D C:Addr)(H:Hp)(s':Shared)(m:Str->Option Value),Inv X pins σ H s'->s'.heap.Ns C m->H C=none->s2.heap.objs.size<=C->(∀p∈X.pn++pins,p.1≠C)->X.env.locals≠C->(∀y c,X.env.cells.lookup y=some c->c≠C)->X.s₀.heap.objs.size<=C->Q (.ref D) H->RR (.ref D) C (.ok .next) s')
    (fex:∀(D C:Addr)(e:Value)(s':Shared),a6O X scope cl C e s'->notedBy (model X.prog X.w) X.A (compEnvC scope cl C X.env) (fun e s'=>RR (.ref D) C (.error e) s') e s') :
    wpAny (model X.prog X.w) X.A (newList []) (fun acc s₃=>wpAny (model X.prog X.w) X.A (newFunctionEnv scope X.env.globals cl [] X.env.qual none .none (some X.env)) (fun cenv s₄=>
      codeAny (model X.prog X.w) X.A (.compStart (.ListComp elt [⟨.Name x px,iter,ifs,0⟩] scope pos) 0 itv acc { cenv with scope:=relabel scope X.env }) (RR acc cenv.locals) s₄) E s₃) E s2:=by
  obtain⟨it,fp,tn,J,H2,rfl,I2,T,st2,f2,W,⟨m0,w0⟩,turn⟩:=h2
  have hfl:∀b∈fp,b<s2.heap.objs.size:=fun b hb=>by
    obtain⟨o,e,_⟩:=T.obj _ _ st2 b hb
    exact Yr e
  refine wpAny_newObj_type (wpAny_newFunctionEnv S.nocell (by intro y hy;simp at hy) (fun h₁ hns₁ hsb₁=>?_) S.kind)
  dsimp only at hns₁ hsb₁ ⊢
  generalize hH2:s2.heap.push { cls:= .type "list",dict:=none,data:= .seq ([]:List Value).toArray }=G2 at hns₁ hsb₁ ⊢
  have hC:G2.objs.size=s2.heap.objs.size+1:=by rw[<-hH2,Heap.size_push]
  have hDC:s2.heap.objs.size≠G2.objs.size:=by rw[hC];exact YJ (X2 _)
  have hCle:s2.heap.objs.size<=G2.objs.size:=by rw[hC];exact X7 _
  have below:∀b,b<s2.heap.objs.size->b≠G2.objs.size/\b≠s2.heap.objs.size:=fun b hb=>⟨by rw[hC];exact YJ (Nat.lt_succ_of_lt hb),YJ hb⟩
  have at0:kJ X G2.objs.size fp s2 H2:=⟨⟨pins,σ,I2,f2⟩,hfl,hCle⟩
  have old:∀b o,s2.heap.get? b=some o->h₁.get? b=some o:=fun b o e=>hsb₁.extBut b o (below b (Yr e)).1 (Yk _ (hH2▸Yk _ e))
  have hacc:h₁.get? s2.heap.objs.size=some { cls:= .type "list",data:= .seq ([]:List Value).toArray 0 }:=hsb₁.extBut _ _ hDC (Yk _ (hH2▸YB _ rfl))
  have st1:tn 0 h₁:=T.keep _ _ _ st2 fun b _ o e=>old b o e
  have stat:∀{H':Hp},(∀b∈fp,H' b=none)->∀b∈fp,oN (cW X scope cl x ix G2.objs.size fp s2 H2) [] H' b:=fun hn b hb=>
    ⟨hn b hb,(below b (hfl b hb)).1,fun z=>by
      rcases YE.mp (I2.stkSub b z) with e | e
      · exact(f2 b hb).2.1 e
      · exact(f2 b hb).2.2.1 e,.inl hb,fun y c e=>(f2 b hb).2.2.2.2.1 y c (S.look e),fun p hp=>absurd (show p∈([]:List (Addr×Obj)) from hp) (by simp)⟩
  have I3:∀s₃:Shared,s₃={ s2 with heap:=h₁,toks:=s2.toks+([]:List (Str×Value)).length }->Inv (cW X scope cl x ix G2.objs.size fp s2 H2) [] (none::jR σ ix) H2 s₃:=fun s₃ e=>by
    subst e
    exact S.inv I2 f2 hfl hCle rfl I2.bare old hns₁
  let Acc:List V->Heap->Prop:=fun ys h=>∃its n,Vals ys its/\h.get? s2.heap.objs.size=some { cls:= .type "list",data:= .seq its.toArray n }
  have loop :∀s₃:Shared,s₃={ s2 with heap:=h₁,toks:=s2.toks+([]:List (Str×Value)).length }->
      codeAny (model X.prog X.w) X.A (.compLoop (.ListComp elt [⟨.Name x px,iter,ifs,0⟩] scope pos) 0 (.ref it) (.ref s2.heap.objs.size) (compEnvC scope cl G2.objs.size X.env)) (RR (.ref s2.heap.objs.size) G2.objs.size) s₃:=by
    intro s₃ e₃
    refine tY (fun n s'=>∃i ys H',Inv (cW X scope cl x ix G2.objs.size fp s2 H2) [] (none::jR σ ix) H' s'/\H' s2.heap.objs.size=none/\Acc ys s'.heap/\tn i s'.heap/\(∀b∈fp,H' b=none)/\W i n ys H') ?_ m0
      ⟨0, [],H2,I3 s₃ e₃,I2.hok.fresh (Yd _),⟨[],0,.nil,by rw[e₃];exact hacc⟩,by rw[e₃];exact st1,fun b hb=>(f2 b hb).1,w0⟩
    rintro n s4 ⟨i,ys,H4,I4,hD4,⟨its,kk,rv,eD⟩,st4,fr4,w4⟩
    obtain⟨hsz,q4⟩:=turn i n ys H4 w4
    have hlen:=rv.length
    rcases q4 with ⟨stop,qn⟩ | ⟨go,N,hN,step⟩
    · refine Y8 (T.done (cW X scope cl x ix G2.objs.size fp s2 H2) rfl rfl rfl hc i [(s2.heap.objs.size,{ cls:= .type "list",data:= .seq its.toArray kk })] s4 (none::jR σ ix) H4 (fun _ _=>False) ?_ ?_ st4 stop) (fun r s5 ⟨hr,I5⟩=>?_) fun _ _ z=>z.elim
      · refine I4.pins_of fun p hp=>?_
        rw[Yj.mp hp]
        exact⟨eD,hD4,hDC,fun z=>by
          have:=Xj I2.stack z
          obtain⟨_,o,ho,_⟩:=this
          exact Y2 _ (Yr ho),fun v z=>by cases z⟩
      · intro b hb
        obtain⟨a1,a2,a3,a4,a5,_⟩:=stat fr4 b hb
        exact⟨a1,a2,a3,a4,a5,fun p hp=>by
          rw[Yj.mp hp]
          exact fun z=>(below b (hfl b hb)).2 z.symm⟩
      subst hr
      have eD5:=(I5.pin _ (by simp:(s2.heap.objs.size,({ cls:= .type "list",data:= .seq its.toArray kk }:Obj))∈(cW X scope cl x ix G2.objs.size fp s2 H2).pn++[(s2.heap.objs.size,{ cls:= .type "list",data:= .seq its.toArray kk })])).1
      have neD:∀b u,H4 b=some u->b≠s2.heap.objs.size:=fun b u e z=>by rw[z,hD4]at e;cases e
      have new:HOk X.prog X.w (upd H4 s2.heap.objs.size (.lst ys)) s5.heap:=by
        intro b u e
        by_cases hb:b=s2.heap.objs.size
        · subst hb
          rw[aB]at e
          cases e
          exact⟨XI hsz,its,kk,rv,eD5⟩
        · rw[aK hb]at e
          exact(I5.hok b u e).stay (fun c v _ q=>q) (fun c q=>by rw[aK (neD c _ q)];exact q) fun c xs q=>by rw[aK (neD c _ q)];exact q
      have un:Un (frs X.stack) fp H2 (upd H4 s2.heap.objs.size (.lst ys)) s2.heap s5.heap:=by
        have B:=I5.base
        exact⟨B.keep,B.slot,fun b o e n hx=>by rw[aK (below b (Yr e)).2];exact B.free b o e n hx,B.there,
          fun b xs e=>by rw[aK (neD b _ (B.tups b xs e))];exact B.tups b xs e,fun b o u e=>by rw[aK (neD b _ (B.frzs b o u e))];exact B.frzs b o u e,
          fun b ps e=>by
            obtain⟨mm,z⟩:=B.tbls b ps e
            exact⟨mm,by rw[aK (neD b _ z)];exact z⟩⟩
      have J5:Inv X pins σ (upd H4 s2.heap.objs.size (.lst ys)) s5:=I2.call' (ch:=fp) I5.os un new I5.bare fun b hb=>⟨(f2 b hb).2.2.2.1,(f2 b hb).2.1,(f2 b hb).2.2.2.2.1,(f2 b hb).2.2.2.2.2⟩
      obtain⟨mC,hnC,_⟩:=I5.loc
      refine fin _ _ _ _ mC J5 hnC (by rw[aK (Ne.symm hDC)];exact I5.free) hCle (fun p hp z=>?_) (YJ (Yf I2.lt hCle)) (fun y c e z=>?_) (Y0 I2.sz hCle) (qn _ hD4)
      · exact absurd (Yf (Yr (I2.pin p hp).1) hCle) (by rw[z];exact Y2 _)
      · obtain⟨v,oc,hoc,_⟩:=I2.cell y c e
        exact absurd (Yf (Yr hoc) hCle) (by rw[z];exact Y2 _)
    · have pinD:∀{pl:List (Addr×Obj)}{σ':St}{H':Hp}{s':Shared}{its':List Value}{k':Nat},Inv (cW X scope cl x ix G2.objs.size fp s2 H2) pl σ' H' s'->s'.heap.get? s2.heap.objs.size=some { cls:= .type "list",data:= .seq its'.toArray k' }->H' s2.heap.objs.size=none->
          Inv (cW X scope cl x ix G2.objs.size fp s2 H2) [(s2.heap.objs.size,{ cls:= .type "list",data:= .seq its'.toArray k' })] σ' H' s':=fun I' e' n'=>I'.pins_of fun p hp=>by
        rw[Yj.mp hp]
        exact⟨e',n',hDC,fun z=>by
          obtain⟨_,o,ho,_⟩:=Xj I2.stack z
          exact Y2 _ (Yr ho),fun v z=>by cases z⟩
      have stat2:∀{H':Hp},(∀b∈fp,H' b=none)->∀b∈fp,oN (cW X scope cl x ix G2.objs.size fp s2 H2) [(s2.heap.objs.size,{ cls:= .type "list",data:= .seq its.toArray kk })] H' b:=fun hn b hb=>by
        obtain⟨a1,a2,a3,a4,a5,_⟩:=stat hn b hb
        exact⟨a1,a2,a3,a4,a5,fun p hp=>by
          rw[Yj.mp hp]
          exact fun z=>(below b (hfl b hb)).2 z.symm⟩
      refine Y8 (T.item (cW X scope cl x ix G2.objs.size fp s2 H2) rfl rfl rfl hc i _ s4 _ H4 (fun _ _=>False) (pinD I4 eD hD4) (stat2 fr4) st4 go) (fun r s5 hz9=>?_) fun _ _ z=>z.elim
      obtain⟨u,hr,h5⟩:=hz9
      subst hr
      refine Y8 h5 (fun _ s6 hz9=>?_) fun _ _ z=>z.elim
      obtain⟨y,H6,I6,r6,y6,st6,fr6⟩:=hz9
      have I6':=I6.pinned (stat2 fr6) (T.obj _ _ st6)
      have hxl:(relabel scope X.env).names.lookup x=some .local:=lookup_relabel_local S.loc
      refine wpAny_assign_Name (pP (X:=cW X scope cl x ix G2.objs.size fp s2 H2) (i:=0) I6' (YX.mp S.nd).2 rfl (.inl hxl) r6 (fun s7 I7=>?_) (.inr hxl))
      have q7:=step y H6 y6
      refine Y8 (ht _ _ _ _ at0 _ s7 (some y::jR σ ix) H6 _ I7 q7) (fun ok s8 hz9=>?_) fun _ _ z=>fex _ _ _ _ z
      obtain⟨H8,I8,q8⟩:=hz9
      have kept:∀{σ9:St}{H9:Hp}{s9:Shared},Inv (cW X scope cl x ix G2.objs.size fp s2 H2) ([(s2.heap.objs.size,{ cls:= .type "list",data:= .seq its.toArray kk })]++pY fp s6.heap) σ9 H9 s9->
          s9.heap.get? s2.heap.objs.size=some { cls:= .type "list",data:= .seq its.toArray kk }/\H9 s2.heap.objs.size=none/\tn (i+1) s9.heap/\∀b∈fp,H9 b=none:=fun {σ9 H9 s9} I9=>by
        have p0:=I9.pin (s2.heap.objs.size,{ cls:= .type "list",data:= .seq its.toArray kk }) (YV _ (Xr _ (Yj.mpr rfl)))
        refine⟨p0.1,p0.2.1,T.keep _ _ _ st6 fun b hb o e=>(I9.pin (b,o) (YV _ (YV _ (jJ hb e)))).1,fun b hb=>?_⟩
        obtain⟨o,e,d⟩:=T.obj _ _ st6 b hb
        exact(I9.pin (b,o) (YV _ (YV _ (jJ hb e)))).2.1
      have back:∀{pl:List (Addr×Obj)}{H9:Hp}{s9:Shared},Inv (cW X scope cl x ix G2.objs.size fp s2 H2) pl (some y::jR σ ix) H9 s9->Inv (cW X scope cl x ix G2.objs.size fp s2 H2) [] (none::jR σ ix) H9 s9:=fun {pl H9 s9} I9=>
        (I9.weak (σ':=none::jR σ ix) rfl fun j v e=>by
          cases j with
          |zero=>cases (show none=some v from Yq e)
          |succ j=>exact e).pins_of fun p hp=>nomatch hp
      cases ok with
      | true=>
        rw[if_pos rfl]at q8 ⊢
        refine Y8 (he _ _ _ _ at0 _ s8 (some y::jR σ ix) H8 _ I8 q8) (fun yv s9 hz9=>?_) fun _ _ z=>fex _ _ _ _ z
        obtain⟨yy,H9,I9,r9,n9⟩:=hz9
        obtain⟨m',hm',w9⟩:=hN _ _ n9
        obtain⟨kD,kn,kt,kf⟩:=kept I9
        refine append_at (hsz:=by rw[Yz];omega) kD fun h10 hs10 hD10=>?_
        have neD:∀b u,H9 b=some u->b≠s2.heap.objs.size:=fun b u e z=>by rw[z,kn]at e;cases e
        have I9':=back I9
        have cellne:∀y c,cl.lookup y=some c->c≠s2.heap.objs.size:=fun y c e z=>by
          obtain⟨v,oc,hoc,_⟩:=I2.cell y c (S.look e)
          exact absurd (Yr hoc) (by rw[z];exact Y2 _)
        have I10:Inv (cW X scope cl x ix G2.objs.size fp s2 H2) [] (none::jR σ ix) H9 { s9 with heap:=h10 }:=I9'.turned (t':=s9.toks) (it:=s2.heap.objs.size) (fun b o hb e=>hs10.extBut b o hb e) kn hDC (.inr (Yd _)) cellne fun p hp=>absurd (show p∈([]:List (Addr×Obj)) from hp) (by simp)
        refine⟨m',hm',i+1,ys++[yy],H9,I10,kn,⟨its++[yv],kk+1,rv.append (.cons r9 .nil),?_⟩,T.keep _ _ _ kt fun b hb o e=>hs10.extBut b o (below b (hfl b hb)).2 e,kf,w9⟩
        refine hD10.trans (YT some ?_)
        simp
      | false=>
        rw[if_neg Yt]at q8 ⊢
        obtain⟨m',hm',w9⟩:=hN _ _ q8
        obtain⟨kD,kn,kt,kf⟩:=kept I8
        exact⟨m',hm',i+1,ys,H8,back I8,kn,⟨its,kk,rv,kD⟩,kt,kf,w9⟩
  exact codeAny_compStart_list (loop _ rfl) (T.self _ 0 _ _ _ st1 (loop _ rfl))
def cH (env:Env):List (Str×NameKind)->List (Str×Addr)->List (Str×Addr)
 |[],cs=>cs
 |(n,k)::r,cs=>cH env r (if k == .free then (n,(env.cells.lookup n).getD 0)::cs else cs)
theorem tZ {env:Env}:∀(names:List (Str×NameKind))(cs:List (Str×Addr)),(∀y∈names,y.2= .free->∃c,env.cells.lookup y.1=some c)->
  (forIn names cs fun (p:Str×NameKind) (r:List (Str×Addr))=>match p with | (name,kind)=>if (kind == .free)=true then do let c<-cellOf env name;pure (ForInStep.yield ((name,c)::r)) else pure (ForInStep.yield r):Sem (List (Str×Addr)))=pure (cH env names cs)
 |[],cs,_=>rfl
 | (n, k)::r,cs,h=>by
  rw[List.forIn_cons]
  cases hk:k == NameKind.free with
  | true=>
   obtain⟨c,hc⟩:=h (n,k) YD (eq_of_beq hk)
   have e1:cellOf env n=pure c:=by unfold cellOf;rw[hc]
   have e2:cH env ((n,k)::r) cs=cH env r ((n,c)::cs):=by
    show cH env r (if (k == .free)=true then (n,(env.cells.lookup n).getD 0)::cs else cs)=_
    rw[hk,if_pos rfl,hc];rfl
   rw[e2,<-tZ r ((n,c)::cs) fun y hy=>h y (Ys _ hy)]
   dsimp only
   rw[if_pos hk,e1]
   rfl
  | false=>
   have e2:cH env ((n,k)::r) cs=cH env r cs:=by
    show cH env r (if (k == .free)=true then (n,(env.cells.lookup n).getD 0)::cs else cs)=_
    rw[hk,if_neg Yt]
   rw[e2,<-tZ r cs fun y hy=>h y (Ys _ hy)]
   dsimp only
   rw[if_neg (by rw[hk];exact Yt)]
   rfl
theorem mV {env:Env}{y:Str×Addr}:∀(names:List (Str×NameKind))(cs:List (Str×Addr)),y∈cH env names cs->y∈cs\/∃k∈names,k.2= .free/\k.1=y.1/\y.2=(env.cells.lookup y.1).getD 0
 |[],cs,h=> .inl h
 | (n, k)::r,cs,h=>by
  rcases mV r _ h with z | ⟨p,hp,e⟩
  ·cases hk:k == NameKind.free with
   | true=>
    rw[hk,if_pos rfl]at z
    rcases YE.mp z with z | z
    ·exact .inr ⟨(n,k),YD,eq_of_beq hk,by rw[z],by rw[z]⟩
    ·exact .inl z
   | false=>
    rw[hk,if_neg Yt]at z
    exact .inl z
  ·exact .inr ⟨p,Ys _ hp,e⟩
theorem iQ {y:Str}{c:Addr}:∀{l:List (Str×Addr)},(y,c)∈l->∃d,l.lookup y=some d
 |[],h=>by simp at h
 | (n, d)::r,h=>by
  rw[Xp]
  cases e:y == n with
  |true=>exact⟨d,rfl⟩
  | false=>
   rcases YE.mp h with z | z
   ·have:y=n:=(Prod.mk.inj z).1
    rw[this,beq_self_eq_true]at e;cases e
   ·exact iQ z
theorem lV {env:Env}{y:Str}:∀(names:List (Str×NameKind))(cs:List (Str×Addr)),((y,NameKind.free)∈names\/∃c,(y,c)∈cs)->∃c,(y,c)∈cH env names cs
 | [],cs,h=>by
  rcases h with h | h
  ·simp at h
  ·exact h
 | (n, k)::r,cs,h=>by
  refine lV r _ ?_
  rcases h with h | ⟨c,h⟩
  ·rcases YE.mp h with z | z
   ·obtain⟨e1,e2⟩:=Prod.mk.inj z
    subst e1 e2
    exact .inr ⟨(env.cells.lookup y).getD 0,by rw[if_pos (beq_self_eq_true _)];exact YD⟩
   ·exact .inl z
  ·refine .inr ⟨c,?_⟩
   split
   ·exact Ys _ h
   ·exact h
def xZ (scope:Scope)(env:Env)(x:Str):Bool:=scope.names.all fun y=>(y.2 != .local || ((y.1 == x || y.1 == ".0") && scope.names.lookup y.1 == some .local)) && y.2 != .cell && (y.2 != .free || env.kindOf y.1 == some .cell || env.kindOf y.1 == some .free)
theorem mR (ok:X.Ok)(hk:scope.kind= .function)(hx:scope.names.lookup x=some .local)(hall:xZ scope X.env x=true)(nd:((".0":Str)::x::oJ X.N ix).Nodup):dY X scope (cH X.env scope.names []) x ix:=by
 have all:∀y∈scope.names,(y.2= .local->(y.1=x\/y.1=".0")/\scope.names.lookup y.1=some .local)/\y.2≠ .cell/\(y.2= .free->(X.env.kindOf y.1=some .cell\/X.env.kindOf y.1=some .free)):=fun y hy=>by
  have z:=XN.mp hall y hy
  simp only[XJ,Bool.or_eq_true,bne_iff_ne,XV,ne_eq]at z
  refine⟨fun e=>z.1.1.resolve_left fun q=>q e,z.1.2,fun e=>?_⟩
  rcases z.2 with (q | q) | q
  ·exact absurd e q
  ·exact .inl q
  ·exact .inr q
 have cells:∀y∈scope.names,y.2= .free->∃c,X.env.cells.lookup y.1=some c:=fun y hy e=>ok.has y.1 ((all y hy).2.2 e)
 refine⟨?_,hk,hx,fun y hy e=>((all y hy).1 e).1,fun y hy e=>((all y hy).1 e).2,fun y hy=>(all y hy).2.1,fun y hy=>(all y hy).2.2,fun y hy e=>?_,fun y hy=>?_,nd⟩
 ·have q:=tZ scope.names [] cells
  unfold closureFor
  have q2:(forIn scope.names [] fun (p:Str×NameKind) (r:List (Str×Addr))=>match p with | (name,kind)=>if (kind == .free)=true then do let c<-cellOf X.env name;pure (ForInStep.yield ((name,c)::r)) else pure (ForInStep.yield r):Sem (List (Str×Addr))) >>= (fun cs=>pure cs)=pure (cH X.env scope.names []):=by
   rw[q];rfl
  exact q2
 ·obtain⟨n,k⟩:=y
  have e':k= .free:=e
  subst e'
  obtain⟨c,hc⟩:=lV (env:=X.env) scope.names [] (.inl hy)
  exact iQ hc
 ·rcases mV scope.names [] hy with z | ⟨p,hp,e1,e2,e3⟩
  ·simp at z
  ·obtain⟨c,hc⟩:=cells p hp e1
   rw[e2]at hc
   rw[e3,hc];rfl
theorem gH (hc:X.calm=true)(hi:PI X (.Name x px) iter wi)(ht:∀C fp s H,kJ X C fp s H->PTs (cW X scope (cH X.env scope.names []) x ix C fp s H) ifs tt)(he:∀C fp s H,kJ X C fp s H->PE (cW X scope (cH X.env scope.names []) x ix C fp s H) elt te)
  (hk:scope.kind= .function) (hx:scope.names.lookup x=some .local) (hall:xZ scope X.env x=true) (nd:((".0":Str)::x::oJ X.N ix).Nodup)
  (hs:∀x,foldedSetIterable iter X.env x=pure x:=by intro _;rfl):PE X (.ListComp elt [⟨.Name x px,iter,ifs,0⟩] scope pos) (b0H ix wi tt te):=by
 intro pins s σ H Q I h
 have S:dY X scope (cH X.env scope.names []) x ix:=mR I.ok hk hx hall nd
 rw[eval_ListComp]
 refine wpAny_comprehension_free (use:=none) rfl hs S.clos S.kind S.locs (thn (hi pins s σ H _ I h) fun v s1 h1=>thn h1 fun itv s2 h2=>?_)
 refine qO S hc ht he h2 (fun D C H' s' m J hn hCn hCle hp hL hcl hs0 q=>?_) fun D C e s' z=>z
 exact⟨m,hn,fun h' sb=>⟨.ref D,H',J.turned (t':=s'.toks) (fun b o hb e=>sb.extBut b o hb e) hCn (Ne.symm hL) (.inr hs0) hcl hp,rfl,q⟩⟩
theorem fZ {j:Nat}{y:Str}{py spos:Pos}(hN:X.N.Nodup)(hj:X.N[j]? =some y)(hy:X.env.scope.names.lookup y=some .local)(hc:X.calm=true)(hi:PI X (.Name x px) iter wi)
  (ht:∀C fp s H,kJ X C fp s H->PTs (cW X scope (cH X.env scope.names []) x ix C fp s H) ifs tt) (he:∀C fp s H,kJ X C fp s H->PE (cW X scope (cH X.env scope.names []) x ix C fp s H) elt te)
  (hk:scope.kind= .function) (hx:scope.names.lookup x=some .local) (hall:xZ scope X.env x=true) (nd:((".0":Str)::x::oJ X.N ix).Nodup)
  (hsw:swapsWith (.ListComp elt [⟨.Name x px,iter,ifs,0⟩] scope pos) (some (.Name y py)) spos.line X.env=pure true:=by rfl) (hs:∀x,foldedSetIterable iter X.env x=pure x:=by intro _;rfl) :
  PS X (.Assign [.Name y py] (.ListComp elt [⟨.Name x px,iter,ifs,0⟩] scope pos) spos) (b5A (b0H ix wi tt te) (vW j)):=by
 intro pins s σ H D I h
 have S:dY X scope (cH X.env scope.names []) x ix:=mR I.ok hk hx hall nd
 rw[exec_Assign_Name_used _ _ _ _ hsw]
 refine YH (wpAny_standAt (YH ?_))
 show wpAny _ _ (do let _<-comprehension (.ListComp elt [⟨.Name x px,iter,ifs,0⟩] scope pos) scope X.env _ (newList []) false (eval iter X.env) (some (assign (.Name y py) X.env))) _ _ s
 refine YH (Y8 (wpAny_comprehension_free (use:=some (assign (.Name y py) X.env)) (Q:=fun _ s'=>SP X pins D .next s') rfl hs S.clos S.kind S.locs
  (thn (hi pins s σ H _ I h) fun v s1 h1=>thn h1 fun itv s2 h2=>?_)) (fun _ s' hq=>Xa (Xa hq)) fun _ _ e=>e)
 refine qO (Q:=fun v H1=>D.nx (σ.set j (some v)) H1) S hc ht he h2 (fun D' C H' s' m J hn hCn hCle hp hL hcl hs0 q=>?_) fun D' C e s' z=>z
 show wpAny _ _ (assign (.Name y py) X.env (.ref D')) _ _ _
 refine wpAny_assign_Name (rO J hN hj (.inl hy) (v:= .ref D') rfl (fun s'' J' hz9=>?_) (.inr hy))
 obtain⟨a,sb,ha⟩:=hz9
 have hCa:C≠a:=by
  rcases ha with e | e
  ·rw[e];exact Ne.symm hL
  ·exact Ne.symm (hcl y a e)
 exact⟨m,hn.sameBut sb hCa,fun h' sb'=>⟨σ.set j (some (.ref D')),H',J'.turned (t':=s''.toks) (fun b o hb e=>sb'.extBut b o hb e) hCn (Ne.symm hL) (.inr hs0) hcl hp,q⟩⟩
end
theorem gC {lo:Int}{n:Nat}{tt:TT}{te:TE}{σc:V->St}{H:Hp}{Q:VK}(Pv:Nat->List V->Hp->Prop)(hn:∀i ys H,i<=n->Pv i ys H->ys.length<sizeLine)(h0:Pv 0 [] H)
  (hs:∀i ys H,i<n->Pv i ys H->tt (σc (.int (lo+i))) H fun b H3=>if b=true then te (σc (.int (lo+i))) H3 fun y H4=>Pv (i+1) (ys++[y]) H4 else Pv (i+1) ys H3)
  (hd:∀ys H,Pv n ys H->∀p,H p=none->Q (.ref p) (upd H p (.lst ys))):qQ (Itr lo n) tt te σc H Q:=by
 refine⟨fun i m ys H=>m=n-i/\i<=n/\Pv i ys H,⟨n,by simp,Xs _,h0⟩,?_⟩
 rintro i m ys H ⟨rfl,hi,p⟩
 refine⟨hn i ys H hi p,?_⟩
 by_cases hlt:i<n
 ·refine .inr ⟨hlt,Pv (i+1),fun ys' H' q=>⟨n-(i+1),by omega,rfl,hlt,q⟩,fun x H' y=>?_⟩
  obtain⟨e,y⟩:=y
  subst e y
  exact hs i ys _ hlt p
 ·have e:i=n:=by omega
  subst e
  exact .inl ⟨Yd _,hd ys H p⟩
theorem dX {K:W.Frag}{a:Addr}{xs:List V}{tt:TT}{te:TE}{σc:V->St}{H:Hp}{Q:VK}(Pv:Nat->List V->Hp->Prop)(hn:∀i ys H,i<=xs.length->Pv i ys H->ys.length<sizeLine)(h0:Pv 0 [] H)
  (hl:∀i ys H,i<=xs.length->Pv i ys H->SqL K H a xs)
  (hs:∀i x ys H,xs[i]? =some x->Pv i ys H->tt (σc x) H fun b H3=>if b=true then te (σc x) H3 fun y H4=>Pv (i+1) (ys++[y]) H4 else Pv (i+1) ys H3)
  (hd:∀ys H,Pv xs.length ys H->∀p,H p=none->Q (.ref p) (upd H p (.lst ys))):qQ (Itl K a) tt te σc H Q:=by
 refine⟨fun i m ys H=>m=xs.length-i/\i<=xs.length/\Pv i ys H,⟨xs.length,by simp,Xs _,h0⟩,?_⟩
 rintro i m ys H ⟨rfl,hi,p⟩
 have q:=hl i ys H hi p
 refine⟨hn i ys H hi p,?_⟩
 by_cases hlt:i<xs.length
 ·refine .inr ⟨⟨xs,xs[i],q,by simp[hlt]⟩,Pv (i+1),fun ys' H' q=>⟨xs.length-(i+1),by omega,rfl,hlt,q⟩,fun x H' y=>?_⟩
  obtain⟨e,y⟩:=y
  subst e
  exact hs i x ys _ (y xs q) p
 ·have e:i=xs.length:=by omega
  subst e
  exact .inl ⟨⟨xs,q,Yd _⟩,hd ys H p⟩
end L2
namespace L2
open PySem PySem.Spec PyProof.Rows PySem.W PySem.Builtin PySem.Builtin.ObjectAttr PySem.Builtin.Getset_descriptor
section
variable {prog:Program}{w:World}{A:Around}{E:Value->Shared->Prop}{K:W.Frag}{a C:Addr}
structure b9C (K:W.Frag)(C:Addr):Prop where
 cd:(W.clsIn K C).isSome=true
 ga:W.findIn K (.ref C) "__getattribute__"=some (some (.builtin "BaseException.__getattribute__"))
 hk:W.findIn K (.ref C) "__getattr__"=some none
 cl:W.findIn K (.ref C) "__class__"=some (some (.builtin "object.__class__"))
 gt:W.specialIn K (.builtin "object.__class__") "__get__"=some (some (.builtin "getset_descriptor.__get__"))
 tk:W.takesIn K (.builtin "object.__class__")=some true
 ob:W.mroIn K C (.type "object")=some true
 ba:W.mroIn K C (.type "BaseException")=some true
end
section
variable {X:Cx}
end
end L2
namespace L2
open PySem PySem.Spec PyProof.Rows
mutual
inductive DV (K:W.Frag)(H:Hp):V->PyData->Prop
 |non:DV K H .non .none
 |bl (b:Bool):DV K H (.bl b) (.bool b)
 |int (i:Int):DV K H (.int i) (.int i)
 |str (x:Str):DV K H (.str x) (.str x)
 |lst {a:Addr} {xs:List V} {ds:List PyData}:SqL K H a xs->DVs K H xs ds->DV K H (.ref a) (.list ds)
 |tup {a:Addr} {xs:List V} {ds:List PyData}:SqT K H a xs->DVs K H xs ds->DV K H (.ref a) (.tuple ds)
inductive DVs (K:W.Frag)(H:Hp):List V->List PyData->Prop
 |nil:DVs K H [] []
 |cons {x:V} {xs:List V} {d:PyData} {ds:List PyData}:DV K H x d->DVs K H xs ds->DVs K H (x::xs) (d::ds)
end
section
variable {X:Cx}{pins:List (Addr×Obj)}{σ:St}{H:Hp}{s:Shared}
mutual
theorem Inv.reads (I:Inv X pins σ H s):∀{x:V}{d:PyData}{u:Value},DV X.K H x d->RelV x u->∃as,Reads s.heap u d as
 |_,_,_,.non,r=>by cases r;exact⟨_,Reads.none⟩
 |_,_,_,.bl b,r=>by cases r;exact⟨_,Reads.bool b⟩
 |_,_,_,.int i,r=>by obtain⟨t,rfl⟩:=r;exact⟨_,Reads.int i t⟩
 |_,_,_,.str x,r=>by obtain⟨t,rfl⟩:=r;exact⟨_,Reads.str x t⟩
 | _,_,_,.lst h r,rr=>by
  cases rr
  obtain⟨its,rv,⟨o,n,e,c,_,dt⟩,_⟩:=I.list h
  obtain⟨as,q⟩:=Inv.readsAll I r rv
  exact⟨_,reads_list_at e c dt (by simpa using q)⟩
 | _,_,_,.tup h r,rr=>by
  cases rr
  obtain⟨its,rv,⟨o,e,c,n,dt⟩,_⟩:=I.tuple h
  obtain⟨as,q⟩:=Inv.readsAll I r rv
  exact⟨_,reads_tuple_at e c dt (by simpa using q)⟩
theorem Inv.readsAll (I:Inv X pins σ H s):∀{xs:List V}{ds:List PyData}{us:List Value},DVs X.K H xs ds->Vals xs us->∃as,ReadsAll s.heap us ds as
 |_,_,_,.nil,.nil=>⟨_,ReadsAll.nil⟩
 | _,_,_,.cons h r,.cons q p=>by
  obtain⟨as,q1⟩:=Inv.reads I h q
  obtain⟨bs,q2⟩:=Inv.readsAll I r p
  exact⟨_,ReadsAll.cons q1 q2⟩
end
end
section
variable {X:Cx}
theorem b4Q (hu:X.A.units+64<cLine):OpR X (compareOp .Eq) (fun x y H Q=>∃d e,DV X.K H x d/\DV X.K H y e/\SeqAt.shaped d=true/\SeqAt.shaped e=true/\Q (.bl (PyData.eqv d e)) H):=by
 intro pins s σ H x y v u Q I rx ry h
 obtain⟨d,e,hd,he,sd,se,q⟩:=h
 obtain⟨as,ra⟩:=I.reads hd rx
 obtain⟨bs,rb⟩:=I.reads he ry
 exact eq_dataH ra rb sd se hu ⟨.bl _,H,I,rfl,q⟩
def b8G (K:W.Frag):R2:=fun x y H Q=>vR x fun a=>vR y fun b=>∃ns ms:List Int,SqL K H a (ns.map V.int)/\SqL K H b (ms.map V.int)/\Q (.bl (!decide (ns=ms))) H
theorem a2O (hu:X.A.units+64<cLine):OpR X (compareOp .NotEq) (b8G X.K):=by
 intro pins s σ H x y v u Q I rx ry h
 obtain⟨a,rfl,hh⟩:=vR.ex h
 clear h
 obtain⟨b,rfl,ns,ms,h1,h2,q⟩:=vR.ex hh
 cases rx;cases ry
 obtain⟨its,rv,pl,_⟩:=I.list h1
 obtain⟨jts,rw',pl',_⟩:=I.list h2
 exact W.ne_intsK pl.isList (intsAre_of rv) pl'.isList (intsAre_of rw') hu ⟨.bl _,H,I,rfl,q⟩
end
end L2
namespace L2
open PySem PySem.Spec PyProof.Rows
section
variable {X:Cx}
theorem qI {its:List Value}{ns:List Int}(hi:IntsAre its ns):∃xs:Array (Int×Tok),its.toArray=intItems xs/\ns=xs.toList.map (·.1):=by
 obtain⟨xs,hx⟩:=hi.allInts.items
 refine⟨xs,hx,?_⟩
 rw[<-nums_intItems,<-hx]
 exact(show numsOf its.toArray.toList=ns from hi.numsOf).symm
def b8E (K:W.Frag):List V->Hp->VK->Prop:=fun xs H Q=>l1 xs fun x=>vR x fun p=>∃ns:List Int,SqL K H p (ns.map V.int)/\Q (.int ns.sum) H
theorem a9Z (hc:X.calm=true):fP X (.builtin "sum") (b8E X.K):=by
 intro pins s σ H xs us Q I r h
 obtain⟨x,rfl,h⟩:=l1.ex h
 obtain⟨p,rfl,ns,hS,q⟩:=vR.ex h
 obtain⟨u,rfl,ru⟩:=vals1 r
 cases ru
 obtain⟨its,rv,pl,_⟩:=I.list hS
 obtain⟨zs,e1,e2⟩:=qI (intsAre_of rv)
 have hl:s.heap.IsList p (intItems zs):=e1▸pl.isList
 refine sum_intListG (I.ok.hd hc) hl fun h' tk t' hk=>?_
 have e3:preSum (numAt zs) zs.size=ns.sum:=by rw[preSum_eq,Ym (by simp),e2]
 rw[e3]
 exact⟨.int ns.sum,H,I.kept hk,⟨_,rfl⟩,q⟩
def b6C (K:W.Frag)(lt:Int->Int->Prop):List V->Hp->VK->Prop:=fun xs H Q=>l1 xs fun x=>vR x fun p=>∃ns:List Int,SqL K H p (ns.map V.int)/\ns≠ []/\∀m,m∈ns->(∀z∈ns,lt m z)->Q (.int m) H
theorem a2P (hc:X.calm=true):fP X (.builtin "min") (b6C X.K (·<= ·)):=by
 intro pins s σ H xs us Q I r h
 obtain⟨x,rfl,h⟩:=l1.ex h
 obtain⟨p,rfl,ns,hS,hne,q⟩:=vR.ex h
 obtain⟨u,rfl,ru⟩:=vals1 r
 cases ru
 obtain⟨its,rv,pl,_⟩:=I.list hS
 obtain⟨zs,e1,e2⟩:=qI (intsAre_of rv)
 have hl:s.heap.IsList p (intItems zs):=e1▸pl.isList
 have hsz:0<zs.size:=by
  have h3:0<ns.length:=List.length_pos_iff.mpr hne
  rw[e2,Ya,XR]at h3;exact h3
 refine min_intList (I.ok.hd hc) hl hsz fun v h' tk hv hk=>?_
 obtain⟨t,rfl⟩:=intItems_at hv
 obtain⟨h1,h2⟩:=argBest_lt (numAt zs) (zs.size-1)
 refine⟨.int _,H,I.kept hk,⟨_,rfl⟩,q _ ?_ fun a ha=>?_⟩
 ·rw[e2,numAt_eq];exact getD_mem (by rw[Ya,XR];omega)
 ·rw[e2]at ha
  obtain⟨j,hj,rfl⟩:=mem_getD ha
  rw[Ya,XR]at hj
  rw[<-numAt_eq];exact h2 j (by omega)
def b8J:R2:=fun x y H Q=>vR x fun l=>vR y fun b=>∃xs zs,H l=some (.lst xs)/\H b=some (.lst zs)/\xs.length+zs.length<=sizeLine/\∀p,H p=none->Q (.ref p) (upd H p (.lst (xs++zs)))
theorem yL:OpR X (binaryOp .Add) b8J:=b2S.imp fun x y H Q h=>by
 obtain⟨l,rfl,hh⟩:=vR.ex h
 clear h
 obtain⟨b,rfl,xs,zs,h1,h2,h3,h4⟩:=vR.ex hh
 exact⟨l,b,xs,zs,rfl,rfl,h1,h2,h3,h4⟩
end
theorem a9O {bs:List Int}{a n:Nat}(h:a+n<=bs.length):lG (bs.map V.int) (some (a:Int)) (some ((a+n:Nat):Int))=((bs.drop a).take n).map V.int:=by
 unfold lG
 rw[HT.sIx_nat,HT.sIx_nat,Ya,Nat.min_eq_left (by omega),Nat.min_eq_left (by omega),Nat.add_sub_cancel_left,List.map_take,List.map_drop]
theorem a6L {bs:List Int}{a:Nat}(h:a<=bs.length):lG (bs.map V.int) (some (a:Int)) none=(bs.drop a).map V.int:=by
 unfold lG
 rw[HT.sIx_nat,HT.sIx_none,Ya,Nat.min_eq_left h,List.map_drop,Ym]
 rw[YU,Ya];exact Yd _
end L2
namespace L2
open PySem PySem.Spec PyProof.Rows
def l3 (vs:List V)(k:V->V->V->Prop):Prop:=@List.rec V (fun _=>Prop) False (fun x r _=>l2 r fun y z=>k x y z) vs
theorem l3.ex {vs:List V}{k:V->V->V->Prop}(h:l3 vs k):∃x y z,vs= [x,y,z]/\k x y z:=by
 match vs,h with
 |[x,y,z],h=>exact⟨x,y,z,rfl,h⟩
def a6Y (lo c:Int)(n:Nat):It:=⟨fun i _=>i<n,fun i H x H'=>H'=H/\x= .int (lo+i*c),fun i _=>n<=i⟩
theorem uO {P:Program}{w:World}{K:W.Frag}{tg:Expr}(it:Addr)(lo c:Int)(n:Nat):Turn P w K tg (a6Y lo c n) [it] it (fun i h=>IsRangeIter h it (lo+(i:Nat)*c) ((n:Int)-(i:Nat)) c) where
 mem:=by simp
 obj :=fun i h st b hb=>by
  have e:b=it:=by simpa using hb
  subst e
  exact⟨_,st,fun v z=>by
   have z':Data.fields _=Data.cell v:=z
   cases z'⟩
 keep:=fun i h h' st k=>k it (by simp) _ st
 item:=by
  intro X hP hw hK hc i pins s σ H E I hf st hg
  subst hP hw hK
  obtain⟨f0,f1,f2,f3,f4,f5⟩:=hf it (by simp)
  have W:=Walks.range (prog:=X.prog) (w:=X.w) (I.ok.hd hc) it lo c n
  refine W.item i s _ _ hg st fun v h' tk hv st' kk=>?_
  obtain⟨t,rfl⟩:=hv
  have I1:Inv X pins σ H { s with heap:=h',toks:=tk }:=I.turned (fun b o hb e=>kk b o (by simpa using hb) e) f0 f1 f3 f4 f5
  exact⟨_,rfl,zZ (s:={ s with heap:=h',toks:=tk }) (n:="range_iterator") st' rfl rfl (by decide) ⟨.int (lo+i*c),H,I1,⟨t,rfl⟩,⟨rfl,rfl⟩,st',fun b hb=>(hf b hb).1⟩⟩
 done:=by
  intro X hP hw hK hc i pins s σ H E I hf st hg
  subst hP hw hK
  obtain⟨f0,f1,f2,f3,f4,f5⟩:=hf it (by simp)
  exact wpAny_pyNext_range_end (I.ok.hd hc) st (by have:n<=i:=hg;omega) fun h' eb=>⟨rfl,I.turned (t':=s.toks) (fun b o hb e=>eb b o hb e) f0 f1 f3 f4 f5⟩
 self:=fun _ _ _ _ _ st h=>wpAny_pyIter_rangeiter st h
section
variable {X:Cx}{tg:Expr}
def b6O (ta:TA):TI:=fun σ H R=>ta σ H fun vs H1=>l3 vs fun x y z=>vI x fun i=>vI y fun j=>vI z fun c=>c≠0/\Builtin.divisionGoesByPylong (j-i) c=false/\∃n:Nat,Builtin.Range.small i j c=true/\Builtin.Range.rangeSize i j c=(n:Int)/\R (a6Y i c n) H1
theorem rR {a b c:Expr}{ta:TA}{p pos:Pos}(hg:Gl X "range")(hm:X.mg "range"=none)(ha:PA X [a,b,c] ta)(hs:starEach [a,b,c] X.env=(false,eval a X.env)::starEach [b,c] X.env:=by rfl)(hs2:(backTo pos (starEach [b,c] X.env)).any (·.1)=false:=by rfl) :
  PI X tg (.Call (.Name "range" p) [a,b,c] [] pos) (b6O ta):=by
 intro pins s σ H R I h
 refine Call_ (nM I hg hm boot_range (XD (thn (ha pos pins s σ H _ I h) fun us s1 hz9=>?_) hs hs2))
 obtain⟨vs,H1,I1,r1,q1⟩:=hz9
 obtain⟨x,y,z,rfl,q2⟩:=l3.ex q1
 obtain⟨i,rfl,q3⟩:=vI.ex q2
 obtain⟨j,rfl,q4⟩:=vI.ex q3
 obtain⟨c,rfl,hc,hp,n,hsm,hn,q⟩:=vI.ex q4
 cases r1 with
 | cons r rr=>
  cases rr with
  | cons r' rr=>
   cases rr with
   | cons r'' rr=>
    cases rr
    obtain⟨t,rfl⟩:=r
    obtain⟨t',rfl⟩:=r'
    obtain⟨t'',rfl⟩:=r''
    refine call_range_3 hc ?_ (.inl hp)
    refine wpAny_pyIter_range (IsRange.new ..) hsm ?_
    have I2:Inv X pins σ H1 { s1 with heap:=s1.heap.push { cls:= .type "range",data:= .fields #[.int i t,.int j t',.int c t''] },toks:=s1.toks }:=I1.kept fun b o e=>Yk _ e
    refine⟨(s1.heap.push { cls:= .type "range",data:= .fields #[.int i t,.int j t',.int c t''] }).objs.size, [(s1.heap.push { cls:= .type "range",data:= .fields #[.int i t,.int j t',.int c t''] }).objs.size],_,_,H1,rfl,
     I2.kept (t':=s1.toks) fun b o e=>Yk _ e,uO _ i c n,?_,fun b hb=>?_,q⟩
    ·show IsRangeIter _ _ (i+((0:Nat):Int)*c) ((n:Int)-((0:Nat):Int)) c
     have e1:i+((0:Nat):Int)*c=i:=by simp
     have e2:(n:Int)-((0:Nat):Int)=Builtin.Range.rangeSize i j c:=by rw[hn];simp
     rw[e1,e2]
     exact YB _ rfl
    ·have e:b=(s1.heap.push { cls:= .type "range",data:= .fields #[.int i t,.int j t',.int c t''] }).objs.size:=by simpa using hb
     subst e
     exact I2.fpOk (Yd _) (I2.hok.fresh (Yd _))
end
theorem qM {lo c:Int}{n:Nat}{g:TG}{tb:TS}{D:Ends}{σ:St}{H:Hp}(Pv:Nat->St->Hp->Prop)(h0:Pv 0 σ H)
  (hs:∀i σ H,i<n->Pv i σ H->g (.int (lo+i*c)) σ H fun σ2 H2=>tb { D with nx:=Pv (i+1),ct:=Pv (i+1),bk:=D.nx } σ2 H2) (hd:∀σ H,Pv n σ H->D.nx σ H) :
  ∃ W:Nat->Nat->St->Hp->Prop,(∃m,W 0 m σ H)/\∀i m σ H,W i m σ H->
   ((a6Y lo c n).stop i H/\D.nx σ H)\/((a6Y lo c n).go i H/\∃N:St->Hp->Prop,(∀σ' H',N σ' H'->∃m',m'<m/\W (i+1) m' σ' H')/\∀x H',(a6Y lo c n).yld i H x H'->g x σ H' fun σ2 H2=>tb { D with nx:=N,ct:=N,bk:=D.nx } σ2 H2):=by
 refine⟨fun i m σ H=>m=n-i/\i<=n/\Pv i σ H,⟨n,by simp,Xs _,h0⟩,?_⟩
 rintro i m σ H ⟨rfl,hi,p⟩
 by_cases hlt:i<n
 ·refine .inr ⟨hlt,Pv (i+1),fun σ' H' p'=>⟨n-(i+1),by omega,rfl,hlt,p'⟩,fun x H' y=>?_⟩
  obtain⟨e,y⟩:=y
  subst e y
  exact hs i σ _ hlt p
 ·have e:i=n:=by omega
  subst e
  exact .inl ⟨Yd _,hd σ H p⟩
section
variable {X:Cx}
end
end L2
namespace L2
open PySem PySem.Spec PyProof.Rows
section
variable {X:Cx}{a b c:Expr}{ta tb tc:TE}{pos:Pos}
def tX (r r':R2)(ta tb tc:TE):TE:=fun σ H Q=>ta σ H fun x H1=>tb σ H1 fun y H2=>r x y H2 fun z H3=>vB z fun k=>if k=true then tc σ H3 fun u H4=>r' y u H4 Q else Q (.bl false) H3
theorem sS (r r':R2)(ta tb tc:TE):tX r r' ta tb tc=tH r r' ta tb tc:=by
 funext σ H Q
 unfold tX tH
 simp only[pM]
theorem vM {op op':CmpOp}{r r':R2}(ho:OpR X (compareOp op) r)(ho':OpR X (compareOp op') r')(ha:PE X a ta)(hb:PE X b tb)(hc:PE X c tc)
  (hm:lastMarks [op,op'] [b,c]=false:=by with_unfolding_all rfl):PE X (.Compare a [op,op'] [b,c] pos) (tX r r' ta tb tc):=by
 rw[sS];exact a4W ho ho' ha hb hc hm
theorem qG {op op':CmpOp}{r r':R2}(ho:OpR X (compareOp op) r)(ho':OpR X (compareOp op') r')(ha:PE X a ta)(hb:PE X b tb)(hc:PE X c tc)
  (hm:lastMarks [op,op'] [b,c]=false:=by with_unfolding_all rfl):PT X (.Compare a [op,op'] [b,c] pos) (qN (tX r r' ta tb tc)):=by
 rw[sS,vZ];exact a4L ho ho' ha hb hc hm
theorem qJ (z:Int):∀ns:List Int,inV (.int z) (ns.map V.int)=decide (z∈ns)/\(ns.map V.int).all mO=true
 |[]=>⟨rfl,rfl⟩
 | n ::r=>by
  have ih:=qJ z r
  refine⟨?_,?_⟩
  ·unfold inV at ih ⊢
   rw[YS,X3,ih.1]
   show ((n == z) || decide (z∈r))=decide (z∈n::r)
   rw[X9]
   simp only[Bool.or_eq_true,XV,decide_eq_true_iff,YE]
   exact⟨fun h=>h.imp Eq.symm id,fun h=>h.imp Eq.symm id⟩
  ·rw[YS,XS,ih.2];rfl
def b6B (K:W.Frag)(f:Bool->Bool):R2:=fun x y H Q=>vI x fun z=>vR y fun p=>∃ns:List Int,SqA K H p (ns.map V.int)/\Q (.bl (f (decide (z∈ns)))) H
theorem b0A:OpR X (compareOp .In) (b6B X.K id):=a1H.imp fun x y H Q h=>by
 obtain⟨z,rfl,hh⟩:=vI.ex h
 clear h
 obtain⟨p,rfl,ns,h1,q⟩:=vR.ex hh
 have e:=qJ z ns
 exact⟨p,_,rfl,h1,rfl,e.2,by show Q (.bl (inV (.int z) (ns.map V.int))) H;rw[e.1];exact q⟩
theorem a2N:OpR X (compareOp .NotIn) (b6B X.K not):=tR.imp fun x y H Q h=>by
 obtain⟨z,rfl,hh⟩:=vI.ex h
 clear h
 obtain⟨p,rfl,ns,h1,q⟩:=vR.ex hh
 have e:=qJ z ns
 exact⟨p,_,rfl,h1,rfl,e.2,by show Q (.bl (!inV (.int z) (ns.map V.int))) H;rw[e.1];exact q⟩
end
end L2
namespace L2
open PySem PySem.Spec PyProof.Rows
section
variable {X:Cx}{K:W.Frag}
theorem b1B (hK:X.K=K:=by rfl):IxR X (b6A K):=by subst hK;exact cR
theorem lK (hK:X.K=K:=by rfl):IxR X (b5Z K):=by subst hK;exact fH
theorem b1A (hK:X.K=K:=by rfl):fP X (.builtin "len") (b5Y K):=by subst hK;exact cP
theorem a0M (hK:X.K=K:=by rfl):fP X (.type "list") (zM K):=by subst hK;exact dU
theorem b0Y (hK:X.K=K:=by rfl):SlR X (b5W K):=by subst hK;exact pK
end
end L2
namespace L2
open PySem PySem.Spec PyProof.Rows
theorem b4G:bootBuiltins "all"=some (.builtin "all"):=by decide +kernel
section
variable {X:Cx}
def b8F:R2:=fun x y H Q=>vR x fun l=>vI y fun k=>∃xs,H l=some (.lst xs)/\(-(2 ^ 63)<=k/\k<2 ^ 63)/\xs.length*k.toNat<=sizeLine/\∀p,H p=none->Q (.ref p) (upd H p (.lst (List.replicate k.toNat xs).flatten))
theorem a2M:OpR X (binaryOp .Mult) b8F:=b2P.imp fun x y H Q h=>by
 obtain⟨l,rfl,h⟩:=vR.ex h
 obtain⟨k,rfl,xs,h1,h2,h3,h4⟩:=vI.ex h
 exact⟨l,k,xs,rfl,rfl,h1,h2.1,h2.2,h3,h4⟩
def b8I:List V->Hp->VK->Prop:=fun xs H Q=>l1 xs fun x=>@V.rec (fun _=>Prop) False (fun b=>Q (.int (if b then 1 else 0)) H) (fun i=>Q (.int i) H) (fun _=>False) (fun _=>False) (fun _=>False) (fun _=>False) (fun _=>False) x
theorem b4P:fP X (.type "int") b8I:=a2I.imp fun xs H Q h=>by
 obtain⟨x,rfl,h⟩:=l1.ex h
 cases x with
 |int i=>exact .inl ⟨i,rfl,h⟩
 |bl b=>exact .inr ⟨b,rfl,h⟩
 |_=>exact h.elim
section
variable {o e:Expr}{es:List Expr}{to:TE}{t:TA}{apos cpos:Pos}
def a9L (to:TE)(t:TA):TE:=fun σ H Q=>to σ H fun x H1=>vR x fun l=>(∃xs,H1 l=some (.lst xs))/\t σ H1 fun vs H2=>l1 vs fun y=>vR y fun b=>∃xs zs,H2 l=some (.lst xs)/\H2 b=some (.lst zs)/\xs.length+zs.length<=sizeLine/\Q .non (upd H2 l (.lst (xs++zs)))
theorem a1O (ho:PE X o to)(ha:PA X [e] t)(hbase:attributeBase o "extend" X.env (eval o X.env)=eval o X.env:=by rfl)
  (hfew:((backTo cpos (starEach [e] X.env)).all (fun x=>!x.1) && (backToKw cpos (keywordEach [] X.env)).all (fun x=>x.1.isSome)
   && decide (([e]:List Expr).length+([]:List Keyword).length+(if ([]:List Keyword).isEmpty then 0 else 1)<30))=true:=by rfl)
  (hline:(apos.endLine == cpos.line)=true:=by rfl) (hs:starEach [e] X.env=(false,eval e X.env)::starEach [] X.env:=by rfl) (hplain:(backTo cpos (starEach [] X.env)).any (·.1)=false:=by rfl) :
  PE X (.Call (.Attribute o "extend" apos) [e] [] cpos) (a9L to t):=
 (a4Y PySem.F.plainAttrs_list PySem.F.slot_list_extend PySem.F.type_list_extend a1L (cG ho) (pZ ha) hbase hfew hline hs hplain).imp fun σ H Q h=>⟨_,h,fun x H1 q=>by
  obtain⟨l,rfl,⟨xs,q1⟩,q2⟩:=vR.ex q
  refine⟨.inl ⟨rfl,xs,SqL.of q1⟩,_,q2,fun vs H2 q3=>?_⟩
  obtain⟨y,rfl,q3⟩:=l1.ex q3
  obtain⟨b,rfl,xs,zs,h1,h2,h3,h4⟩:=vR.ex q3
  exact⟨l,b,xs,zs,rfl,rfl,h1,h2,h3,h4⟩⟩
def b3X (to:TE)(t:TA):TE:=fun σ H Q=>to σ H fun x H1=>vR x fun l=>(∃xs,H1 l=some (.lst xs))/\t σ H1 fun vs H2=>l1 vs fun y=>vI y fun i=>∃xs k y,H2 l=some (.lst xs)/\(-(2 ^ 63)<=i/\i<2 ^ 63)/\seqIndex? i xs.length=some k/\xs[k]? =some y/\Q y (upd H2 l (.lst (xs.eraseIdx k)))
theorem a5I (ho:PE X o to)(ha:PA X [e] t)(hbase:attributeBase o "pop" X.env (eval o X.env)=eval o X.env:=by rfl)
  (hfew:((backTo cpos (starEach [e] X.env)).all (fun x=>!x.1) && (backToKw cpos (keywordEach [] X.env)).all (fun x=>x.1.isSome)
   && decide (([e]:List Expr).length+([]:List Keyword).length+(if ([]:List Keyword).isEmpty then 0 else 1)<30))=true:=by rfl)
  (hline:(apos.endLine == cpos.line)=true:=by rfl) (hs:starEach [e] X.env=(false,eval e X.env)::starEach [] X.env:=by rfl) (hplain:(backTo cpos (starEach [] X.env)).any (·.1)=false:=by rfl) :
  PE X (.Call (.Attribute o "pop" apos) [e] [] cpos) (b3X to t):=
 (a4Y PySem.F.plainAttrs_list PySem.F.slot_list_pop PySem.F.type_list_pop a5H (cG ho) (pZ ha) hbase hfew hline hs hplain).imp fun σ H Q h=>⟨_,h,fun x H1 q=>by
  obtain⟨l,rfl,⟨xs,q1⟩,q2⟩:=vR.ex q
  refine⟨.inl ⟨rfl,xs,SqL.of q1⟩,_,q2,fun vs H2 q3=>?_⟩
  obtain⟨y,rfl,q3⟩:=l1.ex q3
  obtain⟨i,rfl,xs,k,y,h1,h2,h3,h4,h5⟩:=vI.ex q3
  exact⟨l,xs,i,k,y,rfl,rfl,h1,h2.1,h2.2,h3,h4,h5⟩⟩
end
theorem pL:∀{bs:List Bool}{us:List Value},Vals (bs.map V.bl) us->us=bs.map Value.bool
 |[],_,.nil=>rfl
 | b::r,_,.cons h t=>by
  cases (show _=Value.bool b from h)
  rw[pL t];rfl
def b8K (K:W.Frag):List V->Hp->VK->Prop:=fun xs H Q=>l1 xs fun x=>vR x fun p=>∃bs:List Bool,SqL K H p (bs.map V.bl)/\Q (.bl (bs.all id)) H
theorem all_range (bs:List Bool):(List.range bs.length).all (fun i=>bs.getD i false)=bs.all id:=by
 have e:(List.range bs.length).map (fun i=>bs.getD i false)=bs:=by
  apply List.ext_getElem
  ·simp
  ·intro i h1 h2
   simp[Yg,h2]
 conv=>rhs;rw[<-e,List.all_map]
 rfl
theorem b4R (hc:X.calm=true):fP X (.builtin "all") (b8K X.K):=by
 intro pins s σ H xs us Q I r h
 obtain⟨x,rfl,h⟩:=l1.ex h
 obtain⟨p,rfl,bs,hS,q⟩:=vR.ex h
 obtain⟨u,rfl,ru⟩:=vals1 r
 cases ru
 obtain⟨its,rv,pl,_⟩:=I.list hS
 have ei:=pL rv
 subst ei
 have hl:=pl.isList
 have hlt:p<s.heap.objs.size:=by obtain⟨_,e,_⟩:=hl;exact Yr e
 refine call_all_walk (wpAny_pyIter_list hl ?_)
 refine⟨_,_,_,_,_,_,fun i=>bs.getD i false,rfl,Walks.list (A:=X.A.in1) (I.ok.hd hc) _ p (YJ hlt) _,⟨⟨_,YB _ rfl,rfl,rfl⟩,hl.push _⟩,?_,fun h' tk hk=>?_⟩
 ·intro i v s' Q' E' hP hq
  have hv:(bs.map Value.bool)[i]? =some v:=by simpa using hP
  rw[Yi]at hv
  obtain⟨b,hb,rfl⟩:=YO.mp hv
  have:bs.getD i false=b:=by rw[Yg,hb];rfl
  simp only[this]at hq
  exact Xc hq
 ·have e:(bs.map Value.bool).toArray.size=bs.length:=by simp
  rw[e,all_range]
  exact⟨.bl _,H,I.kept (old_kept hk),rfl,q⟩
end
end L2
namespace L2
open PySem PySem.Spec PyProof.Rows
section
variable {P:Program}{w:World}{K:W.Frag}{mg:Str->Option Value}{base:Heap}{N:List Str}{qual:Str}{scope:Scope}{f:Addr}{cd:Value}{A:Around}{outer:List Env}{s:Shared}{H:Hp}{E:XK}
theorem a8R {pins:List (Addr×Obj)}{σ:St}{H1 H':Hp}{s1 s3:Shared}{h5 B:Heap}{a t C:Addr}{cls fl:Value}{od:Option Addr}(I:Inv (cY (CXR P w) P w K mg base N qual scope f cd A outer s H E) pins σ H1 s1)
  (F:Fly P w (cY (CXR P w) P w K mg base N qual scope f cd A outer s H E).stack H1 H' s1 s3 a t cls od B) (hC:s.heap.get? C=none) (hCf:H' C=none)
  (st:(W.hideAll B [C]).StaysIn h5) (ff:h5.FunFrames (W.hideAll B [C]) (cY (CXR P w) P w K mg base N qual scope f cd A outer s H E).stack) (tr:TrD h5 (W.hideAll B [C]) a cls (.ref t) od fl)
  (slt:∀b o,s3.heap.get? b=some o->b∈frs (cY (CXR P w) P w K mg base N qual scope f cd A outer s H E).stack->∃sl,h5.get? b=some { o with slots:=sl }) (hE:E cls od H') :
  (cY (CXR P w) P w K mg base N qual scope f cd A outer s H E).xe (.ref a) { s3 with heap:=h5 }:=by
 have fr:=I.ok.frames
 have nB:(W.hideAll B [C]).get? a=none:=by
  cases q:(W.hideAll B [C]).get? a with
  |none=>rfl
  |some o=>have z:=W.of_hideAll _ q;rw[F.fly.1.2]at z;cases z
 refine a1U (s:={ s3 with heap:=h5 }) fr rfl ⟨st,nB⟩ ff tr fun h2 x1 x2=>?_
 have inB:∀b o,b≠C->B.get? b=some o->(W.hideAll B [C]).get? b=some o:=fun b o n e=>W.hideAll_get _ e fun z=>n (Yj.mp z)
 have neC:∀b o,s.heap.get? b=some o->b≠C:=fun b o e z=>by rw[z,hC]at e;cases e
 have old:∀b o,s.heap.get? b=some o->H b=none->b∉frs outer->(W.hideAll B [C]).get? b=some o:=fun b o e n nf=>
  inB b o (neC b o e) (F.old b o (I.base.keep b o e n nf (fun z=>by cases z)) (I.base.free b o e n (fun z=>by cases z)) (iK I e nf))
 have hst:∀b,b∈frs outer->b∈frs (cY (CXR P w) P w K mg base N qual scope f cd A outer s H E).stack:=fun b hb=>by
  obtain⟨env,h,hf⟩:=YZ.mp hb
  exact YZ.mpr ⟨env,Ys _ h,hf⟩
 have slots:∀b o,s3.heap.get? b=some o->b∈frs outer->∃sl,h2.get? b=some { o with slots:=sl }:=fun b o e hb=>by
  obtain⟨_,o',ho',nf⟩:=Xj F.fly.2.1 (hst b hb)
  rw[e]at ho';cases ho'
  obtain⟨sl,e1⟩:=slt b o e (hst b hb)
  obtain⟨sl2,e2⟩:=x2 b _ e1 nf
  exact⟨sl2,e2⟩
 have trk:∀b u,H' b=some u->∃o,s3.heap.get? b=some o/\(W.hideAll B [C]).get? b=some o:=fun b u z=>by
  obtain⟨o,e1,e2⟩:=F.trk b u z
  exact⟨o,e1,inB b o (fun q=>by rw[q,hCf]at z;cases z) e2⟩
 refine⟨a,t,cls,od,H',_,rfl,⟨F.os.trans I.os,F.bare,⟨?_,?_,?_,?_,?_,?_,?_⟩,HOk.fromB F.hok trk x1.1.1,F.new,x1,old,?_,?_⟩,hE⟩
 ·exact fun b o e n nf _=>x1.1.1 b o (old b o e n nf)
 ·intro b o e n hb nx
  obtain⟨sl,q1⟩:=I.base.slot b o e n hb nx
  obtain⟨sl1,q2⟩:=F.un.slot b _ q1 (I.base.free b o e n nx) (hst b hb) (fun z=>by cases z)
  obtain⟨sl2,q3⟩:=slots b _ q2 hb
  exact⟨sl2,q3⟩
 ·exact fun b o e n nx=>by
   obtain⟨o1,q1⟩:=I.base.there b o e nx
   exact F.un.free b o1 q1 (I.base.free b o e n nx) (fun z=>by cases z)
 ·intro b o e nx
  obtain⟨o1,q1⟩:=I.base.there b o e nx
  obtain⟨o2,q2⟩:=F.un.there b o1 q1 (fun z=>by cases z)
  by_cases hb:b∈frs outer
  ·obtain⟨sl',q3⟩:=slots b _ q2 hb
   exact⟨_,q3⟩
  ·obtain⟨o3,q3⟩:=F.all b o1 q1 (iK I e hb)
   exact⟨o3,x1.1.1 b o3 (inB b o3 (neC b o e) q3)⟩
 ·exact fun b xs z=>F.un.tups b xs (I.base.tups b xs z)
 ·exact fun b o u z=>F.un.frzs b o u (I.base.frzs b o u z)
 ·intro b ps z
  obtain⟨m1,z1⟩:=I.base.tbls b ps z
  obtain⟨m2,z2⟩:=F.un.tbls b _ z1
  exact⟨m1++m2,by rw[<-Jg];exact z2⟩
 ·intro b u z
  obtain⟨o,_,e2⟩:=trk b u z
  exact⟨o,x1.1.1 b o e2,e2⟩
 ·intro b o e nf
  obtain⟨o1,q1⟩:=I.base.there b o e (fun z=>by cases z)
  obtain⟨o3,q3⟩:=F.all b o1 q1 (iK I e nf)
  exact⟨o3,inB b o3 (neC b o e) q3⟩
theorem b5K {E1:XK}{sc:Scope}{cl:List (Str×Addr)}{x:Str}{ix:List Nat}{C:Addr}{fp:List Addr}{s2:Shared}{H2:Hp}(hE:∀cls od H',E1 cls od H'->E cls od H')(at0:kJ (cY (CXR P w) P w K mg base N qual scope f cd A outer s H E) C fp s2 H2) :
  eG (CXR P w) (cW (cY (CXR P w) P w K mg base N qual scope f cd A outer s H E) sc cl x ix C fp s2 H2) E1:=by
 intro pins' σ' H1 s1 ev s3 J hq
 obtain⟨⟨pins,σ,I2,f2⟩,hfl,hCle⟩:=at0
 obtain⟨a,t,cls,od,H',B,rfl,F,q⟩:=hq
 have I:Inv (cY (CXR P w) P w K mg base N qual scope f cd A outer s H E) pins σ H1 s1:=I2.call' (ch:=fp) J.os J.base J.hok J.bare fun b hb=>⟨(f2 b hb).2.2.2.1,(f2 b hb).2.1,(f2 b hb).2.2.2.2.1,(f2 b hb).2.2.2.2.2⟩
 obtain⟨m,hn,_⟩:=J.loc
 have hnC:s1.heap.Ns C m:=hn
 have freeC:H1 C=none:=J.free
 have nfC:C∉frs (cY (CXR P w) P w K mg base N qual scope f cd A outer s H E).stack:=fun z=>by
  obtain⟨_,o,ho,_⟩:=Xj I2.stack z
  exact absurd (Yf (Yr ho) hCle) (Y2 _)
 have hC0:s.heap.get? C=none:=Heap.get?_none_of_le (Y0 I2.sz hCle)
 obtain⟨oC,es,ep,eC,rC⟩:=hnC
 have BC:B.get? C=some oC:=F.old C oC eC freeC nfC
 have n3:s3.heap.Ns C m:=⟨oC,es,ep,F.fly.1.1 C oC BC,rC⟩
 have H'C:H' C=none:=F.un.free C oC eC freeC (fun z=>by cases z)
 have aC:a≠C:=fun z=>by have:=F.fly.1.2;rw[z,BC]at this;cases this
 show wpAny (model P w) _ (noteFrame (.ref a) (cY (CXR P w) P w K mg base N qual scope f cd A outer s H E).env) _ _ s3
 refine zP I.ok.frames rfl F.fly fun h4 held sm=>?_
 refine⟨m,sm.ns n3,fun h' sb cenv hl=>?_⟩
 have sub:∀b o,(W.hideAll B [C]).get? b=some o->B.get? b=some o/\b≠C:=fun b o e=>⟨W.of_hideAll _ e,fun z=>by
  rw[z,W.hideAll_none [C] (Yj.mpr rfl)]at e;cases e⟩
 have st':(W.hideAll B [C]).StaysIn h':=fun b o e=>by
  obtain⟨e1,n⟩:=sub b o e
  exact(sb.2 b n).trans (held.1.1 b o e1)
 have nn:∀b,B.get? b=none->(W.hideAll B [C]).get? b=none:=fun b e=>by
  cases z:(W.hideAll B [C]).get? b with
  |none=>rfl
  |some o=>rw[(sub b o z).1]at e;cases e
 have ff':h'.FunFrames (W.hideAll B [C]) (cY (CXR P w) P w K mg base N qual scope f cd A outer s H E).stack:=by
  have go:∀l:List Env,(∀env∈l,env∈(cY (CXR P w) P w K mg base N qual scope f cd A outer s H E).stack)->h4.FunFrames B l->h'.FunFrames (W.hideAll B [C]) l:=by
   intro l
   induction l with
   |nil=>intro _ _;trivial
   | cons env r ih=>
    rintro hm ⟨z1,⟨L,o,z2,z3,z4,z5⟩,z6⟩
    refine⟨z1,⟨L,o,z2,nn L z3,(sb.2 L fun q=>nfC ?_).trans z4,z5⟩,ih (fun v hv=>hm v (Ys _ hv)) z6⟩
    rw[<-q]
    exact YZ.mpr ⟨env,hm env YD,z2⟩
  exact go _ (fun _ z=>z) held.2.1
 have tr':TrD h' (W.hideAll B [C]) a cls (.ref t) od (rawInt (cY (CXR P w) P w K mg base N qual scope f cd A outer s H E).env.locals):=by
  obtain⟨oe,vs,T,oT,ts,⟨q1,q2,q3,q4⟩,q5,⟨q7,q8⟩,q9,q10⟩:=held.2.2
  refine⟨oe,vs,T,oT,ts,⟨(sb.2 a aC).trans q1,q2,q3,q4⟩,q5,⟨nn T q7,q8⟩,(sb.2 T fun z=>?_).trans q9,q10⟩
  rw[z,BC]at q7;cases q7
 refine a8Q (s:={ s3 with heap:=h' }) ⟨st',nn a F.fly.1.2⟩ ff' tr' fun h5 fl' y1 y2 y3 y4=>?_
 have sl5:∀b o,s3.heap.get? b=some o->b∈frs (cY (CXR P w) P w K mg base N qual scope f cd A outer s H E).stack->∃sl,h5.get? b=some { o with slots:=sl }:=fun b o e hb=>by
  obtain⟨_,o',ho',nf⟩:=Xj F.fly.2.1 hb
  rw[e]at ho';cases ho'
  obtain⟨sl,e1⟩:=sm b o e nf
  have e2:h'.get? b=some { o with slots:=sl }:=(sb.2 b fun z=>nfC (z▸hb)).trans e1
  obtain⟨sl2,e3⟩:=y4 b _ e2 nf
  exact⟨sl2,e3⟩
 exact a8R (s3:=s3) I F hC0 H'C y1 y2 y3 sl5 (hE _ _ _ q)
end
end L2
namespace L2
open PySem PySem.Spec PyProof.Rows
section
variable {X:Cx}
abbrev Cx.pinned (X:Cx)(pins0:List (Addr×Obj)):Cx:={ X with pn:=X.pn++pins0 }
abbrev TH:=Ends->St->Value->Option Addr->Hp->Prop
variable {np hpos pos:Pos}{y n:Str}{C:Addr}{i:Nat}{b₀:Stmt}{suite:List Stmt}{ts:TS}{hs:List ExceptHandler}{th:TH}
end
end L2
namespace L2
open PySem PySem.Spec PyProof.Rows
section
variable {X:Cx}{o e value:Expr}{es:List Expr}{to ta tv:TE}{t:TA}{apos cpos pos pos':Pos}{C:Addr}{f m:Str}
def b8W (C:Addr)(ta:TE)(f:Str):TE:=fun σ H Q=>ta σ H fun x H1=>vR x fun a=>∃dx fs v,H1 a=some (.ins C dx fs)/\fs.lookup f=some v/\Q v H1
theorem aP (c:Cls X.K C)(n:bJ X.K C f)(he:PE X e ta)(hb:attributeBase e f X.env (eval e X.env)=eval e X.env:=by rfl):PE X (.Attribute e f pos) (b8W C ta f):=
 (a4T (cG he) hb).imp fun σ H Q h=>⟨_,h,fun x H1 q=>by
  obtain⟨a,rfl,dx,fs,v,h1,h2,h3⟩:=vR.ex q
  exact⟨a,C,dx,fs,v,rfl,h1,c,n,h2,h3⟩⟩
def b8U (C:Addr)(ta tv:TE)(f:Str):TS:=fun D σ H=>tv σ H fun y H1=>ta σ H1 fun x H2=>vR x fun a=>∃dx fs,H2 a=some (.ins C dx fs)/\fs.length<1000/\D.nx σ (upd H2 a (.ins C dx (fJ f y fs)))
theorem bO (c:Cls X.K C)(n:bJ X.K C f)(ha:PE X o ta)(hv:PE X value tv)(hs:swapsWith value (some (.Attribute o f pos')) pos.line X.env=pure false:=by rfl) :
  PS X (.Assign [.Attribute o f pos'] value pos) (b8U C ta tv f):=
 (a4N (cG ha) (cG hv) hs).imp fun D σ H h=>⟨_,h,fun y H1 q=>⟨_,q,fun x H2 q2=>by
  obtain⟨a,rfl,dx,fs,h1,h2,h3⟩:=vR.ex q2
  exact⟨a,C,dx,fs,rfl,h1,c,n,h2,h3⟩⟩⟩
variable {CX:CXT}{k:Nat}{fa:Addr}{fd:FuncData}{ps:List Str}{sp:Sp}{dvs:List V}{ds:List Value}{E:XK}
def b0U (C:Addr)(m:Str)(sp:Sp)(dvs:List V)(E:XK)(ta:TE)(t:TA):TE:=fun σ H Q=>ta σ H fun x H1=>vR x fun a=>(∃dx fs,H1 a=some (.ins C dx fs)/\fs.lookup m=none)/\t σ H1 fun vs H2=>sp (.ref a::(vs++dvs)) H2 Q E
theorem bQ {pl:Sem Bool}(c:Cls X.K C)(hm:Meth X.K C m fa)(F:fM X.prog X.w X.K X.mg X.base CX k fa fd ps sp)(hr:dM k X.A)(hb:Binds X.K fd ps ds)(hd:Vals dvs ds)(hx:eG CX X E)(he:PE X o ta)(ha:PA X (e::es) t)
  (hst:starEach (e::es) X.env=(false,eval e X.env)::starEach es X.env:=by rfl) (hpl:(backTo pos (starEach es X.env)).any (·.1)=false:=by rfl)
  (ht:eval (.Call (.Attribute o m apos) (e::es) [] pos) X.env=(do
   let ov<-eval o X.env
   standAt apos.atName
   let (f,first)<-holding [ov] (getMethod ov m pl)
   callWith pos f first (backTo pos (starEach (e::es) X.env)) (backToKw pos (keywordEach [] X.env))):=by rfl) :
  PE X (.Call (.Attribute o m apos) (e::es) [] pos) (b0U C m sp dvs E ta t):=
 (a8O (pl:=pl) (cG he) c hm F hr hb hd hx (pZ ha) hst hpl ht).imp fun σ H Q h=>⟨_,h,fun x H1 q=>by
  obtain⟨a,rfl,⟨dx,fs,h1,h2⟩,h3⟩:=vR.ex q
  exact⟨a,dx,fs,rfl,h1,h2,_,h3,fun vs H2 z=>z⟩⟩
theorem bR {pl:Sem Bool}(c:Cls X.K C)(hm:Meth X.K C m fa)(F:fM X.prog X.w X.K X.mg X.base CX k fa fd ps sp)(hr:dM k X.A)(hb:Binds X.K fd ps ds)(hd:Vals dvs ds)(hx:eG CX X E)(he:PE X o ta)
  (ht:eval (.Call (.Attribute o m apos) [] [] pos) X.env=(do
   let ov<-eval o X.env
   standAt apos.atName
   let (f,first)<-holding [ov] (getMethod ov m pl)
   callWith pos f first (backTo pos (starEach [] X.env)) (backToKw pos (keywordEach [] X.env))):=by rfl) :
  PE X (.Call (.Attribute o m apos) [] [] pos) (b0U C m sp dvs E ta a0P):=
 (a4R (pl:=pl) (cG he) c hm F hr hb hd hx ht).imp fun σ H Q h=>⟨_,h,fun x H1 q=>by
  obtain⟨a,rfl,⟨dx,fs,h1,h2⟩,h3⟩:=vR.ex q
  exact⟨a,dx,fs,rfl,h1,h2,h3⟩⟩
end
end L2
namespace L2
open PySem PySem.Spec PyProof.Rows
section
variable {X:Cx}
end
def prD (p:Int×Int):PyData:= .tuple [.int p.1,.int p.2]
theorem a8I (p q:Int×Int):PyData.eqv (prD p) (prD q)=decide (p=q):=by
 obtain⟨a,b⟩:=p
 obtain⟨c,d⟩:=q
 simp only[prD,PyData.eqv,PyData.eqvAll,Bool.and_true]
 by_cases h1:a=c <;> by_cases h2:b=d <;> simp[h1,h2]
theorem pW (p:Int×Int):SeqAt.shaped (prD p)=true:=by
 obtain⟨a,b⟩:=p
 rfl
inductive b4M (K:W.Frag)(H:Hp):List Addr->List (Int×Int)->Prop
 |nil:b4M K H [] []
 |cons {q:Addr} {p:Int×Int} {qs:List Addr} {ps:List (Int×Int)}:SqT K H q [.int p.1,.int p.2]->b4M K H qs ps->b4M K H (q::qs) (p::ps)
section
variable {X:Cx}
end
end L2
namespace L2
open PySem
end L2
namespace L2
open PySem
def yF (K:W.Frag)(a:Addr)(ns:List Int):Prop:=∃(o:Obj)(its:Array Value)(n:Nat),K.lookup a=some o/\o.cls= .type "tuple"/\o.data= .seq its n/\its.size<=sizeLine/\Vals (ns.map V.int) its.toList
theorem yF.of {K:W.Frag}{a:Addr}{od:Option Addr}{sl:Array (Option Value)}{n:Nat}{its:Array Value}{ns:List Int}(h:K.lookup a=some ⟨.type "tuple",od,.seq its n,sl⟩)(hs:its.size<=sizeLine)(hv:Vals (ns.map V.int) its.toList):yF K a ns:=⟨_,its,n,h,rfl,rfl,hs,hv⟩
theorem yF.sq {K:W.Frag}{a:Addr}{ns:List Int}(h:yF K a ns)(H:Hp):SqT K H a (ns.map V.int):= .inr h
end L2
namespace L2
open PySem PySem.Spec PyProof.Rows
end L2
namespace L2
open PySem PySem.Spec PyProof.Rows
end L2
namespace L2
open PySem PySem.Spec PyProof.Rows
section
variable {X:Cx}{o e:Expr}{to:TE}{t:TA}{apos cpos:Pos}
end
end L2
namespace L2
open PySem PySem.Spec PyProof.Rows
section
variable {X:Cx}{o e:Expr}{to:TE}{t:TA}{apos cpos:Pos}
end
end L2
namespace L2
open PySem PySem.Spec PyProof.Rows
section
variable {X:Cx}{o e:Expr}{to:TE}{t:TA}{apos cpos:Pos}
end
end L2
namespace L2
open PySem PySem.Spec PyProof.Rows PySem.MeetsSeq PySem.SeqAt
section
variable {X:Cx}{o e:Expr}{to:TE}{t:TA}{apos cpos:Pos}
end
end L2
namespace L2
open PySem PySem.Spec PyProof.Rows
set_option maxRecDepth 100000
section
variable {prog:Program}{w:World}{A:Around}{I:Addr}{fp wr:List Addr}{n:Nat}{P:Nat->Value->Prop}{St:Nat->Heap->Prop}{d:Value}
end
section
variable {prog:Program}{w:World}{A:Around}{E:Value->Shared->Prop}{s:Shared}
end
section
variable {X:Cx}
end
end L2
namespace L2
open PySem PySem.Spec PyProof.Rows
theorem uC:bootBuiltins "enumerate"=some (.type "enumerate"):=by decide +kernel
section
variable {X:Cx}{pins:List (Addr×Obj)}{σ:St}{H:Hp}{s:Shared}
theorem Inv.turnedT {h':Heap}{t':Nat}{fp:List Addr}{T:Addr}{xs:List V}(I:Inv X pins σ H s)(hf:∀b∈fp,oN X pins H b)(k:∀b o,b∉fp->s.heap.get? b=some o->h'.get? b=some o)(hT:s.heap.objs.size<=T)
  (new:dG X.prog X.w (upd H T (.tup xs)) h' T (.tup xs)):Inv X pins σ (upd H T (.tup xs)) { s with heap:=h',toks:=t' }:=by
 have hN:H T=none:=I.hok.fresh hT
 have neT:∀b o,s.heap.get? b=some o->b≠T:=fun b o e z=>by
  have:=Yr e
  rw[z]at this
  exact absurd (Yf this hT) (Y2 _)
 have up:∀b u,H b=some u->upd H T (.tup xs) b=some u:=fun b u e=>by rw[aK (aQ e hN)];exact e
 have nit:∀b u,H b=some u->b∉fp:=fun b u e z=>by rw[(hf b z).1]at e;cases e
 refine I.step (g':=s.gens) (d':=s.drawn) (ch:=fp) (fun b hb=>?_) (fun b o _ _ hc e _=>k b o hc e) (fun b o _ _ hc e _=>⟨o.slots,k b o hc e⟩) (fun b o _ e n=>by rw[aK (neT b o e)];exact n)
  (fun b o hc e=>⟨o,k b o hc e⟩) (fun b _ e=>up b _ e) (fun b _ _ e=>up b _ e) (fun b ps e=>⟨#[],by rw[up b _ e];simp⟩) (fun m hm=>?_) (fun b u e=>?_) I.bare
 ·obtain⟨f0,f1,f2,f3,f4,f5⟩:=hf b hb
  exact⟨f3,f1,f4,f5⟩
 ·obtain⟨o,es,ep,ho,r⟩:=hm
  exact⟨o,es,ep,k _ o (fun z=>(hf _ z).2.1 rfl) ho,r⟩
 ·by_cases hb:b=T
  ·subst hb
   rw[aB]at e
   cases e
   exact new
  ·rw[aK hb]at e
   refine(I.hok b u e).stay (fun c v hc q=>k c v ?_ q) (fun _ q=>up _ _ q) fun _ _ q=>up _ _ q
   rcases hc with z | z
   ·rw[z];exact nit b u e
   ·exact nit c _ z
end
def Ite (K:W.Frag)(a:Addr):It:=
 ⟨fun i H=>∃xs x,SqL K H a xs/\xs[i]? =some x,fun i H v H'=>∃p x,H p=none/\v= .ref p/\(∀xs,SqL K H a xs->xs[i]? =some x)/\H'=upd H p (.tup [.int ((i:Nat):Int),x]),fun i H=>∃xs,SqL K H a xs/\xs.length<=i⟩
theorem a0N {P:Program}{w:World}{K:W.Frag}{elts:List Expr}{k':Nat}{pos:Pos}(a e it:Addr)(hei:e≠it) :
  Turn P w K (.Tuple elts k' pos) (Ite K a) [e,it] e (fun i h=>(∃old,IsEnum h e it ((i:Nat):Int) old)/\h.IsListIter it a i) where
 mem:=by simp
 obj := fun i h st b hb=>by
  obtain⟨⟨old,he⟩,o,e1,c,d⟩:=st
  simp only[YE,XH,or_false]at hb
  rcases hb with rfl | rfl
  ·exact⟨_,he,fun v z=>by
    have z':Data.fields _=Data.cell v:=z
    cases z'⟩
  ·exact⟨o,e1,fun v z=>by rw[d]at z;cases z⟩
 keep:=fun i h h' st k=>by
  obtain⟨⟨old,he⟩,hit⟩:=st
  exact⟨⟨old,k e (by simp) _ he⟩,hit.at fun o x=>k it (by simp) o x⟩
 item :=by
  intro X hP hw hK hc i pins s σ H E I hf st hg
  subst hP hw hK
  obtain⟨⟨old,he⟩,hit⟩:=st
  obtain⟨xs,x,hq,hx⟩:=hg
  obtain⟨its,rv,p,hz⟩:=I.list hq
  obtain⟨u,hu,ru⟩:=rv.get hx
  refine wpAny_pyNext_enum_item he hit p.isList (x:=u) (by simpa using hu) hei fun h1 ho hit1 hT hsz hk=>?_
  refine⟨_,rfl,wpAny_letOwnedTupleGo_enum (s:={ s with heap:=h1,toks:=s.toks+1 }) ho fun h2 he2 hs2=>?_⟩
  have hs2':Heap.SameBut e h1 h2:=hs2
  have eT:e≠s.heap.objs.size:=YJ (Yr he)
  have iT:it≠s.heap.objs.size:=by obtain⟨o,e1,_⟩:=hit;exact YJ (Yr e1)
  have hN:H s.heap.objs.size=none:=I.hok.fresh (Yd _)
  refine⟨.ref s.heap.objs.size,upd H s.heap.objs.size (.tup [.int ((i:Nat):Int),x]),I.turnedT hf (fun b o hb q=>?_) (Yd _) ?_,rfl,⟨_,x,hN,rfl,fun ys hy=>by rw[I.list_inj hy hq];exact hx,rfl⟩,⟨⟨u,?_⟩,?_⟩,fun b hb=>?_⟩
  ·have b1:b≠e:=fun z=>hb (by simp[z])
   have b2:b≠it:=fun z=>hb (by simp[z])
   exact(hs2'.2 b b1).trans (hk b o b1 b2 q)
  ·exact⟨(by show 2<=sizeLine;decide), [.int ((i:Nat):Int) s.toks,u],.cons ⟨_,rfl⟩ (.cons ru .nil),⟨_,(hs2'.2 _ (Ne.symm eT)).trans hT,rfl,_,rfl⟩⟩
  ·have:((i+1:Nat):Int)=((i:Nat):Int)+1:=by push_cast;rfl
   rw[this];exact he2
  ·exact hit1.at fun o y=>(hs2'.2 it (Ne.symm hei)).trans y
  ·have h1:=(hf b hb).1
   have:b≠s.heap.objs.size:=by
    simp only[YE,XH,or_false]at hb
    rcases hb with rfl | rfl
    ·exact eT
    ·exact iT
   rw[aK this];exact h1
 done:=by
  intro X hP hw hK hc i pins s σ H E I hf st hg
  subst hP hw hK
  obtain⟨⟨old,he⟩,hit⟩:=st
  obtain⟨xs,hq,hx⟩:=hg
  obtain⟨its,rv,p,hz⟩:=I.list hq
  obtain⟨f0,f1,f2,f3,f4,f5⟩:=hf it (by simp)
  have hl:=rv.length
  exact wpAny_pyNext_enum_end (I.ok.hd hc) he hit p.isList (Array.getElem?_eq_none (by simp;omega)) fun h' eb=>⟨rfl,I.turned (t':=s.toks) (fun b o hb e=>eb b o hb e) f0 f1 f3 f4 f5⟩
 self:=fun _ _ _ _ _ st h=>by
  obtain⟨⟨old,he⟩,_⟩:=st
  exact wpAny_pyIter_enum he h
section
variable {X:Cx}
def b6T (K:W.Frag)(ta:TA):TI:=fun σ H R=>ta σ H fun vs H1=>l1 vs fun x=>vR x fun a=>(∃xs,SqL K H1 a xs)/\R (Ite K a) H1
theorem a8Z {a:Expr}{ta:TA}{p pos tpos:Pos}{elts:List Expr}{k':Nat}(hg:Gl X "enumerate")(hm:X.mg "enumerate"=none)(ha:PA X [a] ta)(hs:starEach [a] X.env= [(false,eval a X.env)]:=by rfl) :
  PI X (.Tuple elts k' tpos) (.Call (.Name "enumerate" p) [a] [] pos) (b6T X.K ta):=by
 intro pins s σ H R I h
 refine Call_ (nM I hg hm uC (XD (thn (ha pos pins s σ H _ I h) fun us s1 hz9=>?_) hs rfl))
 obtain⟨vs,H1,I1,r1,q1⟩:=hz9
 obtain⟨x,rfl,q1⟩:=l1.ex q1
 obtain⟨l,rfl,⟨xs,hq⟩,q⟩:=vR.ex q1
 obtain⟨u,rfl,ru⟩:=vals1 r1
 cases ru
 obtain⟨its,rv,pl,hz⟩:=I1.list hq
 refine call_enumerate_list pl.isList fun h' he hit hsz hk=>?_
 refine wpAny_pyIter_enum (s:={ s1 with heap:=h' }) he ?_
 have I2:Inv X pins σ H1 { s1 with heap:=h' }:=I1.kept (t':=s1.toks) hk
 refine⟨s1.heap.objs.size+1, [s1.heap.objs.size+1,s1.heap.objs.size],_,_,H1,rfl,I2,a0N l _ _ (Nat.succ_ne_self _),⟨⟨_,he⟩,hit⟩,fun b hb=>?_,q⟩
 simp only[YE,XH,or_false]at hb
 rcases hb with rfl | rfl
 ·exact I1.fpOk (X7 _) (I1.hok.fresh (X7 _))
 ·exact I1.fpOk (Yd _) (I1.hok.fresh (Yd _))
end
def gT2 (K:W.Frag)(i j:Nat):TG:=fun v σ H Q=>vR v fun a=>∃x y,SqT K H a [x,y]/\Q ((σ.set i (some x)).set j (some y)) H
theorem mg2 {X:Cx}{tg:Expr}{i j:Nat}(h:PG X tg (b6I X.K 2 (a6B (vW i) (a6B (vW j) b6J)))):PG X tg (gT2 X.K i j):=by
 intro pins s σ H v u Q I r q
 obtain⟨a,rfl,x,y,h1,h2⟩:=vR.ex q
 exact h pins s σ H _ u Q I r ⟨a,_,rfl,h1,rfl,_,_,rfl,_,_,rfl,rfl,h2⟩
theorem a6C {K:W.Frag}{a:Addr}{xs:List V}{g:TG}{tb:TS}{D:Ends}{σ:St}{H:Hp}(Pv:Nat->St->Hp->Prop)(h0:Pv 0 σ H)(hl:∀i σ H,i<=xs.length->Pv i σ H->SqL K H a xs)
  (hs:∀i x σ H p,xs[i]? =some x->Pv i σ H->H p=none->g (.ref p) σ (upd H p (.tup [.int ((i:Nat):Int),x])) fun σ2 H2=>tb { D with nx:=Pv (i+1),ct:=Pv (i+1),bk:=D.nx } σ2 H2) (hd:∀σ H,Pv xs.length σ H->D.nx σ H) :
  ∃ W:Nat->Nat->St->Hp->Prop,(∃m,W 0 m σ H)/\∀i m σ H,W i m σ H->
   ((Ite K a).stop i H/\D.nx σ H)\/((Ite K a).go i H/\∃N:St->Hp->Prop,(∀σ' H',N σ' H'->∃m',m'<m/\W (i+1) m' σ' H')/\∀x H',(Ite K a).yld i H x H'->g x σ H' fun σ2 H2=>tb { D with nx:=N,ct:=N,bk:=D.nx } σ2 H2):=by
 refine⟨fun i m σ H=>m=xs.length-i/\i<=xs.length/\Pv i σ H,⟨xs.length,by simp,Xs _,h0⟩,?_⟩
 rintro i m σ H ⟨rfl,hi,p⟩
 have q:=hl i σ H hi p
 by_cases hlt:i<xs.length
 ·refine .inr ⟨⟨xs,xs[i],q,by simp[hlt]⟩,Pv (i+1),fun σ' H' p'=>⟨xs.length-(i+1),by omega,rfl,hlt,p'⟩,?_⟩
  rintro v H' ⟨t,x,ht,rfl,hx,rfl⟩
  exact hs i x σ H t (hx xs q) p ht
 ·have e:i=xs.length:=by omega
  subst e
  exact .inl ⟨⟨xs,q,Yd _⟩,hd σ H p⟩
end L2
namespace L2
open PySem PySem.Spec PyProof.Rows
structure b0X (K:W.Frag)(C:Addr)(m:Str)(f:Addr):Prop where
 ga:W.specialIn K (.ref C) "__getattribute__"=some (some (.builtin "type.__getattribute__"))
 rd:W.readsIn K C (.type "type")=true
 at_:W.findCls K (.ref C) (.type "type") m=some (.val (.ref f))
 kp:W.keepIn K (.ref f)=true
section
variable {X:Cx}{o e value:Expr}{es:List Expr}{to ta tv:TE}{t:TA}{apos cpos pos pos':Pos}{C:Addr}{f m:Str}
variable {CX:CXT}{k:Nat}{fa:Addr}{fd:FuncData}{ps:List Str}{sp:Sp}{dvs:List V}{ds:List Value}{E:XK}
def b4A (C:Addr)(sp:Sp)(dvs:List V)(E:XK)(ta:TE)(t:TA):TE:=fun σ H Q=>ta σ H fun x H1=>x= .ref C/\t σ H1 fun vs H2=>sp (vs++dvs) H2 Q E
theorem vL {pl:Sem Bool}(hm:b0X X.K C m fa)(F:fM X.prog X.w X.K X.mg X.base CX k fa fd ps sp)(hr:dM k X.A)(hb:Binds X.K fd ps ds)(hd:Vals dvs ds)(hx:eG CX X E)(he:PE X o ta)(ha:PA X (e::es) t)
  (hst:starEach (e::es) X.env=(false,eval e X.env)::starEach es X.env:=by rfl) (hpl:(backTo pos (starEach es X.env)).any (·.1)=false:=by rfl)
  (ht:eval (.Call (.Attribute o m apos) (e::es) [] pos) X.env=(do
   let ov<-eval o X.env
   standAt apos.atName
   let (f,first)<-holding [ov] (getMethod ov m pl)
   callWith pos f first (backTo pos (starEach (e::es) X.env)) (backToKw pos (keywordEach [] X.env))):=by rfl) :
  PE X (.Call (.Attribute o m apos) (e::es) [] pos) (b4A C sp dvs E ta t):=by
 intro pins s σ H Q I h
 refine Xx (pl:=pl) (thn (he pins s σ H _ I h) fun u s1 hz9=>?_) ht
 obtain⟨x,H1,I1,rx,ex,q⟩:=hz9
 subst ex
 obtain rfl:u=Value.ref C:=rx
 refine W.method_cls I1.kIn hm.ga (W.cls_value I1.kIn hm.rd hm.at_ rfl ?_)
 refine X6 (first:=[]) (h₀:=X.base) I.ok.mod.kin hm.kp (thn (ha pos pins _ σ H1 _ (I1.tok _) q) fun us s2 ⟨vs,H2,I2,r,q2⟩=>⟨I2.kIn,?_⟩) hst hpl
 exact jT F hr hb hd hx I2 r q2
def b6S (K:W.Frag)(ta:TE)(f:Str):TE:=fun σ H Q=>ta σ H fun x H1=>vR x fun a=>∃C dx fs v,H1 a=some (.ins C dx fs)/\Cls K C/\bJ K C f/\fs.lookup f=some v/\Q v H1
theorem fD (he:PE X e ta)(hb:attributeBase e f X.env (eval e X.env)=eval e X.env:=by rfl):PE X (.Attribute e f pos) (b6S X.K ta f):=
 (a4T (cG he) hb).imp fun σ H Q h=>⟨_,h,fun x H1 q=>by
  obtain⟨a,rfl,C,dx,fs,v,h1,c,n,h2,h3⟩:=vR.ex q
  exact⟨a,C,dx,fs,v,rfl,h1,c,n,h2,h3⟩⟩
def b6N (K:W.Frag)(ta tv:TE)(f:Str):TS:=fun D σ H=>tv σ H fun y H1=>ta σ H1 fun x H2=>vR x fun a=>∃C dx fs,H2 a=some (.ins C dx fs)/\Cls K C/\bJ K C f/\fs.length<1000/\D.nx σ (upd H2 a (.ins C dx (fJ f y fs)))
theorem lA (ha:PE X o ta)(hv:PE X value tv)(hs:swapsWith value (some (.Attribute o f pos')) pos.line X.env=pure false:=by rfl) :
  PS X (.Assign [.Attribute o f pos'] value pos) (b6N X.K ta tv f):=
 (a4N (cG ha) (cG hv) hs).imp fun D σ H h=>⟨_,h,fun y H1 q=>⟨_,q,fun x H2 q2=>by
  obtain⟨a,rfl,C,dx,fs,h1,c,n,h2,h3⟩:=vR.ex q2
  exact⟨a,C,dx,fs,rfl,h1,c,n,h2,h3⟩⟩⟩
def a6K (K:W.Frag)(m:Str)(fa:Addr)(sp:Sp)(dvs:List V)(E:XK)(ta:TE)(t:TA):TE:=fun σ H Q=>ta σ H fun x H1=>vR x fun a=>(∃C dx fs,H1 a=some (.ins C dx fs)/\Cls K C/\Meth K C m fa/\fs.lookup m=none)/\t σ H1 fun vs H2=>sp (.ref a::(vs++dvs)) H2 Q E
theorem qH {pl:Sem Bool}(F:fM X.prog X.w X.K X.mg X.base CX k fa fd ps sp)(hr:dM k X.A)(hb:Binds X.K fd ps ds)(hd:Vals dvs ds)(hx:eG CX X E)(he:PE X o ta)(ha:PA X (e::es) t)
  (hst:starEach (e::es) X.env=(false,eval e X.env)::starEach es X.env:=by rfl) (hpl:(backTo pos (starEach es X.env)).any (·.1)=false:=by rfl)
  (ht:eval (.Call (.Attribute o m apos) (e::es) [] pos) X.env=(do
   let ov<-eval o X.env
   standAt apos.atName
   let (f,first)<-holding [ov] (getMethod ov m pl)
   callWith pos f first (backTo pos (starEach (e::es) X.env)) (backToKw pos (keywordEach [] X.env))):=by rfl) :
  PE X (.Call (.Attribute o m apos) (e::es) [] pos) (a6K X.K m fa sp dvs E ta t):=by
 intro pins s σ H Q I h
 refine Xx (pl:=pl) (thn (he pins s σ H _ I h) fun u s1 hz9=>?_) ht
 obtain⟨x,H1,I1,rx,q⟩:=hz9
 obtain⟨a,rfl,⟨C,dx,fs,ea,c,hm,l⟩,q⟩:=vR.ex q
 obtain rfl:u=Value.ref a:=rx
 refine fU I1 ea c hm l ?_
 refine X6 (first:=[.ref a]) (h₀:=X.base) I.ok.mod.kin hm.kp (thn (ha pos pins s1 σ H1 _ I1 q) fun us s2 ⟨vs,H2,I2,r,q2⟩=>⟨I2.kIn,?_⟩) hst hpl
 exact jT (us:= .ref a::us) (vs:= .ref a::vs) F hr hb hd hx I2 (.cons rfl r) q2
theorem a1N {pl:Sem Bool}(F:fM X.prog X.w X.K X.mg X.base CX k fa fd ps sp)(hr:dM k X.A)(hb:Binds X.K fd ps ds)(hd:Vals dvs ds)(hx:eG CX X E)(he:PE X o ta)
  (ht:eval (.Call (.Attribute o m apos) [] [] pos) X.env=(do
   let ov<-eval o X.env
   standAt apos.atName
   let (f,first)<-holding [ov] (getMethod ov m pl)
   callWith pos f first (backTo pos (starEach [] X.env)) (backToKw pos (keywordEach [] X.env))):=by rfl) :
  PE X (.Call (.Attribute o m apos) [] [] pos) (a6K X.K m fa sp dvs E ta a0P):=by
 intro pins s σ H Q I h
 refine Xx (pl:=pl) (thn (he pins s σ H _ I h) fun u s1 hz9=>?_) ht
 obtain⟨x,H1,I1,rx,q⟩:=hz9
 obtain⟨a,rfl,⟨C,dx,fs,ea,c,hm,l⟩,q⟩:=vR.ex q
 obtain rfl:u=Value.ref a:=rx
 refine fU I1 ea c hm l ?_
 exact W.callWith_K0 (first:=[.ref a]) I1.kIn hm.kp (jT (us:=[.ref a]) (vs:=[.ref a]) F hr hb hd hx I1 (.cons rfl .nil) q)
end
end L2
namespace L2
open PySem PySem.Spec PyProof.Rows
section
variable {X:Cx}{o e:Expr}{es:List Expr}{ta:TE}{t:TA}{apos pos:Pos}{C:Addr}{m:Str}
variable {k:Nat}{fa:Addr}{fd:FuncData}{ps:List Str}{sp:Sp}{dvs:List V}{ds:List Value}
end
end L2
namespace L2
open PySem PySem.Spec PyProof.Rows
section
variable {X:Cx}{tg:Expr}
def b8V (K:W.Frag)(tl:TE):TI:=fun σ H R=>tl σ H fun x H1=>vR x fun a=>((∃xs,SqL K H1 a xs)/\R (Itl K a) H1)\/((∃xs,SqT K H1 a xs)/\R (Itt K a) H1)
theorem b3B {l:Expr}{tl:TE}(hl:PE X l tl):PI X tg l (b8V X.K tl):=by
 intro pins s σ H R I h
 refine thn (hl pins s σ H _ I h) fun v s1 hz9=>?_
 obtain⟨x,H1,I1,r1,q1⟩:=hz9
 obtain⟨a,e,q⟩:=vR.ex q1
 subst e
 cases r1
 rcases q with ⟨⟨xs,hq⟩,q⟩ | ⟨⟨xs,hq⟩,q⟩
 ·obtain⟨its,rv,p,hz⟩:=I1.list hq
  refine wpAny_pyIter_list p.isList ?_
  refine⟨s1.heap.objs.size, [s1.heap.objs.size],_,_,H1,rfl,I1.kept (t':=s1.toks) fun b o e=>Yk _ e,rK a _,⟨_,YB _ rfl,rfl,rfl⟩,fun b hb=>?_,q⟩
  have e:b=s1.heap.objs.size:=by simpa using hb
  subst e
  exact I1.fpOk (Yd _) (I1.hok.fresh (Yd _))
 ·obtain⟨its,rv,p,hz⟩:=I1.tuple hq
  refine wpAny_pyIter_tuple (show s1.heap.IsTuple a its.toArray from p) ?_
  refine⟨s1.heap.objs.size, [s1.heap.objs.size],_,_,H1,rfl,I1.kept (t':=s1.toks) fun b o e=>Yk _ e,wM a _,⟨_,YB _ rfl,rfl,rfl⟩,fun b hb=>?_,q⟩
  have e:b=s1.heap.objs.size:=by simpa using hb
  subst e
  exact I1.fpOk (Yd _) (I1.hok.fresh (Yd _))
end
theorem a6M {K:W.Frag}{a:Addr}{xs:List V}{tt:TT}{te:TE}{σc:V->St}{H:Hp}{Q:VK}(Pv:Nat->List V->Hp->Prop)(hn:∀i ys H,i<=xs.length->Pv i ys H->ys.length<sizeLine)(h0:Pv 0 [] H)
  (hl:∀i ys H,i<=xs.length->Pv i ys H->SqT K H a xs)
  (hs:∀i x ys H,xs[i]? =some x->Pv i ys H->tt (σc x) H fun b H3=>if b=true then te (σc x) H3 fun y H4=>Pv (i+1) (ys++[y]) H4 else Pv (i+1) ys H3)
  (hd:∀ys H,Pv xs.length ys H->∀p,H p=none->Q (.ref p) (upd H p (.lst ys))):qQ (Itt K a) tt te σc H Q:=by
 refine⟨fun i m ys H=>m=xs.length-i/\i<=xs.length/\Pv i ys H,⟨xs.length,by simp,Xs _,h0⟩,?_⟩
 rintro i m ys H ⟨rfl,hi,p⟩
 have q:=hl i ys H hi p
 refine⟨hn i ys H hi p,?_⟩
 by_cases hlt:i<xs.length
 ·refine .inr ⟨⟨xs,xs[i],q,by simp[hlt]⟩,Pv (i+1),fun ys' H' q=>⟨xs.length-(i+1),by omega,rfl,hlt,q⟩,fun x H' y=>?_⟩
  obtain⟨e,y⟩:=y
  subst e
  exact hs i x ys _ (y xs q) p
 ·have e:i=xs.length:=by omega
  subst e
  exact .inl ⟨⟨xs,q,Yd _⟩,hd ys H p⟩
theorem a6N {K:W.Frag}{a:Addr}{xs:List V}{tt:TT}{te:TE}{σc:V->St}{H:Hp}{Q:VK}(h:SqA K H a xs)(Pv:Nat->List V->Prop)(hn:∀i ys,i<=xs.length->Pv i ys->ys.length<sizeLine)(h0:Pv 0 [])
  (hs:∀i x ys,xs[i]? =some x->Pv i ys->tt (σc x) H fun b H3=>if b=true then te (σc x) H3 fun y H4=>Pv (i+1) (ys++[y])/\H4=H else Pv (i+1) ys/\H3=H)
  (hd:∀ys,Pv xs.length ys->∀p,H p=none->Q (.ref p) (upd H p (.lst ys))):((∃xs,SqL K H a xs)/\qQ (Itl K a) tt te σc H Q)\/((∃xs,SqT K H a xs)/\qQ (Itt K a) tt te σc H Q):=by
 rcases h with h | h
 ·refine .inl ⟨⟨_,h⟩,dX (xs:=xs) (fun i ys H'=>Pv i ys/\H'=H) (fun i ys H' hi z=>hn i ys hi z.1) ⟨h0,rfl⟩ (fun i ys H' hi z=>by rw[z.2];exact h) ?_ ?_⟩
  ·rintro i x ys H' hx ⟨z,rfl⟩
   exact hs i x ys hx z
  ·rintro ys H' ⟨z,rfl⟩
   exact hd ys z
 ·refine .inr ⟨⟨_,h⟩,a6M (xs:=xs) (fun i ys H'=>Pv i ys/\H'=H) (fun i ys H' hi z=>hn i ys hi z.1) ⟨h0,rfl⟩ (fun i ys H' hi z=>by rw[z.2];exact h) ?_ ?_⟩
  ·rintro i x ys H' hx ⟨z,rfl⟩
   exact hs i x ys hx z
  ·rintro ys H' ⟨z,rfl⟩
   exact hd ys z
def MOk (P:Program)(w:World)(K:W.Frag)(mg:Str->Option Value)(base:Heap)(CX:CXT)(k:Nat)(C:Addr)(m:Str)(sp:Sp):Prop:=
 ∃fa fd ps,Cls K C/\Meth K C m fa/\fM P w K mg base CX k fa fd ps sp/\Binds K fd ps []
section
variable {X:Cx}{o e value:Expr}{es:List Expr}{to ta tv:TE}{t:TA}{apos cpos pos pos' p:Pos}{C:Addr}{f m x:Str}
variable {CX:CXT}{k:Nat}{fa:Addr}{fd:FuncData}{ps:List Str}{sp:Sp}{dvs:List V}{ds:List Value}{E:XK}{R:Addr->Sp->Prop}
def b3Z (R:Addr->Sp->Prop)(m:Str)(E:XK)(ta:TE)(t:TA):TE:=fun σ H Q=>ta σ H fun x H1=>vR x fun a=>∃C dx fs sp,H1 a=some (.ins C dx fs)/\fs.lookup m=none/\R C sp/\t σ H1 fun vs H2=>sp (.ref a::vs) H2 Q E
theorem vK {pl:Sem Bool}(hR:∀C sp,R C sp->MOk X.prog X.w X.K X.mg X.base CX k C m sp)(hr:dM k X.A)(hx:eG CX X E)(he:PE X o ta)(ha:PA X (e::es) t)
  (hst:starEach (e::es) X.env=(false,eval e X.env)::starEach es X.env:=by rfl) (hpl:(backTo pos (starEach es X.env)).any (·.1)=false:=by rfl)
  (ht:eval (.Call (.Attribute o m apos) (e::es) [] pos) X.env=(do
   let ov<-eval o X.env
   standAt apos.atName
   let (f,first)<-holding [ov] (getMethod ov m pl)
   callWith pos f first (backTo pos (starEach (e::es) X.env)) (backToKw pos (keywordEach [] X.env))):=by rfl) :
  PE X (.Call (.Attribute o m apos) (e::es) [] pos) (b3Z R m E ta t):=by
 intro pins s σ H Q I h
 refine Xx (pl:=pl) (thn (he pins s σ H _ I h) fun u s1 hz9=>?_) ht
 obtain⟨x,H1,I1,rx,q⟩:=hz9
 obtain⟨a,rfl,C,dx,fs,sp,ea,l,hC,q⟩:=vR.ex q
 obtain⟨fa,fd,ps,c,hm,F,hb⟩:=hR C sp hC
 obtain rfl:u=Value.ref a:=rx
 refine fU I1 ea c hm l ?_
 refine X6 (first:=[.ref a]) (h₀:=X.base) I.ok.mod.kin hm.kp (thn (ha pos pins s1 σ H1 _ I1 q) fun us s2 ⟨vs,H2,I2,r,q2⟩=>⟨I2.kIn,?_⟩) hst hpl
 exact jT (dvs:=[]) (us:= .ref a::us) (vs:= .ref a::vs) F hr hb .nil hx I2 (.cons rfl r) (by rw[YC];exact q2)
structure MkB (K:W.Frag)(C:Addr):Prop where
 makes:W.makesIn K C=true
 init:W.findIn K (.ref C) "__init__"=some (some (.builtin "object.__init__"))
 kp:W.keepIn K (.ref C)=true
def b1J (C:Addr):TE:=fun _ H Q=>∀x dx,H x=none->H dx=none->dx≠x->Q (.ref x) (upd (upd H dx (.own x)) x (.ins C dx []))
theorem a4S (M:MkB X.K C)(hg:Gl X x)(hm:X.mg x=some (.ref C))(hdb:(x == ("__debug__":Str))=false:=by decide):PE X (.Call (.Name x p) [] [] pos) (b1J C):=by
 intro pins s σ H Q I h
 refine Xi (jK I hg hm ?_ hdb)
 refine W.callWith_K0 I.kIn M.kp ?_
 have hq:=h (s.heap.objs.size+1) s.heap.objs.size (I.hok.fresh (X7 _)) (I.hok.fresh (Yd _)) (YJ (X2 _))
 have I2:=Inv.made (C:=C) I
 refine wpAny_call (a1P I.kIn M.makes M.init (fun self=>W.Looks.of_pure (W.oi_bind self)) ?_)
 have Y:=W.makes_of (M:=model X.prog X.w) I.kIn M.makes
 have hx:((s.heap.push W.emptyDict).push (W.instObj C s.heap.objs.size)).get? (s.heap.objs.size+1)=some (W.instObj C s.heap.objs.size):=by
  have:=YB (s.heap.push W.emptyDict) (o:=W.instObj C s.heap.objs.size) rfl
  rwa [Heap.size_push]at this
 have t1:W.Looks (model X.prog X.w) ((s.heap.push W.emptyDict).push (W.instObj C s.heap.objs.size)) (typeOf (.ref (s.heap.objs.size+1))) (.ref C):=(W.Looks.ld hx).andThen .now
 have t2:W.Looks (model X.prog X.w) ((s.heap.push W.emptyDict).push (W.instObj C s.heap.objs.size)) (isInstance (.ref (s.heap.objs.size+1)) (.type "object")) true:=t1.andThen (Y.top.keeps fun b o e=>Yk _ (Yk _ e))
 refine codeAny_call_builtin W.oi_plain W.entry_oi (@W.check_slot (model X.prog X.w) _ _ _ "object.__init__" "object" "__init__" (.ref (s.heap.objs.size+1)) [] [] _ W.oi_kind W.oi_split t2 (W.oi_args (.ref (s.heap.objs.size+1))) ?_)
 rw[W.oi_run]
 exact Xa (And.intro rfl ⟨V.ref (s.heap.objs.size+1),_,I2,rfl,hq⟩)
end
end L2
namespace L2
open PySem PySem.Spec PyProof.Rows
section
variable {X:Cx}{o e e2:Expr}{to:TE}{t:TA}{apos cpos:Pos}
end
end L2
namespace L2
open PySem PySem.Spec PyProof.Rows
section
variable {κ:Type}[DecidableEq κ]
def iG (kvs:List (κ×V))(k:κ):Option V:=(kvs.find? fun kv=>decide (kv.1=k)).map (·.2)
def putK (kvs:List (κ×V))(k:κ)(v:V):List (κ×V):=
 if (kvs.any fun kv=>decide (kv.1=k))=true then kvs.map (fun kv=>if kv.1=k then (kv.1,v) else kv) else kvs++[(k,v)]
theorem eU {p:κ×V}{r:List (κ×V)}{k:κ}(e:p.1=k):iG (p::r) k=some p.2:=by simp[iG,XT,e]
theorem eV {p:κ×V}{r:List (κ×V)}{k:κ}(e:¬ p.1=k):iG (p::r) k=iG r k:=by simp[iG,XT,e]
theorem lO (k:κ):∀kvs:List (κ×V),(kvs.any fun kv=>decide (kv.1=k))=(iG kvs k).isSome
 |[]=>rfl
 | p::r=>by
  rw[X3]
  by_cases e:p.1=k
  ·simp only[eU e,Yl e,Bool.true_or,Option.isSome_some]
  ·rw[eV e,Yu e,Bool.false_or];exact lO k r
theorem uM (k j:κ)(y:V):∀kvs:List (κ×V),iG (kvs.map fun kv=>if kv.1=k then (kv.1,y) else kv) j=(iG kvs j).map fun x=>if j=k then y else x
 |[]=>rfl
 | p ::r=>by
  have ih:=uM k j y r
  rw[YS]
  by_cases h:p.1=k
  ·rw[if_pos h]
   by_cases e:p.1=j
   ·rw[eU (p:=(p.1,y)) e,eU e,Jb,if_pos (e.symm.trans h)]
   ·rw[eV (p:=(p.1,y)) e,eV e,ih]
  ·rw[if_neg h]
   by_cases e:p.1=j
   ·rw[eU (p:=p) e,eU e,Jb,if_neg (fun z=>h (e.trans z))]
   ·rw[eV (p:=p) e,eV e,ih]
theorem rJ (k j:κ)(y:V):∀kvs:List (κ×V),iG kvs k=none->iG (kvs++[(k,y)]) j=if j=k then some y else iG kvs j
 | [],_=>by
  by_cases e:k=j
  ·rw[if_pos e.symm];exact eU (p:=(k,y)) e
  ·rw[if_neg (fun z=>e z.symm)];exact eV (p:=(k,y)) e
 | p::r,hn=>by
  rw[List.cons_append]
  have hk:¬ p.1=k:=fun z=>by rw[eU z]at hn;cases hn
  rw[eV hk]at hn
  have ih:=rJ k j y r hn
  by_cases e:p.1=j
  ·rw[eU e,eU e,if_neg (fun z=>hk (e.trans z))]
  ·rw[eV e,eV e,ih]
theorem a2V (kvs:List (κ×V))(k j:κ)(y:V):iG (putK kvs k y) j=if j=k then some y else iG kvs j:=by
 unfold putK
 by_cases a:(kvs.any fun kv=>decide (kv.1=k))=true
 ·rw [if_pos a,uM]
  rw[lO]at a
  by_cases e:j=k
  ·obtain⟨x,hx⟩:=Option.isSome_iff_exists.mp a
   rw[if_pos e,e,hx,Jb,if_pos rfl]
  ·rw[if_neg e]
   cases iG kvs j with
   |none=>rfl
   |some x=>rw[Jb,if_neg e]
 ·rw[if_neg a]
  refine rJ k j y kvs ?_
  rw[lO]at a
  cases q:iG kvs k with
  |none=>rfl
  |some x=>rw[q]at a;exact(a rfl).elim
theorem oF (kvs:List (κ×V))(k:κ)(v:V):(putK kvs k v).length<=kvs.length+1:=by
 unfold putK
 split
 ·rw[Ya];omega
 ·rw[Yc,YN,List.length_nil];omega
theorem lH.isSome_eq {o:Option V}{u:Option Value}(r:lH o u):o.isSome=u.isSome:=by
 cases o with
 | none=>cases u with
  |none=>rfl
  |some _=>exact(show False from r).elim
 | some _=>cases u with
  |none=>exact(show False from r).elim
  |some _=>rfl
theorem lH.getD {o:Option V}{u:Option Value}{d:V}{d':Value}(r:lH o u)(rd:RelV d d'):RelV (o.getD d) (u.getD d'):=by
 cases o with
 | none=>cases u with
  |none=>exact rd
  |some _=>exact(show False from r).elim
 | some _=>cases u with
  |none=>exact(show False from r).elim
  |some _=>exact r
theorem KV.val {kvs:List (κ×V)}{vs:List (κ×Value)}(r:KV kvs vs)(k:κ):lH (iG kvs k) (valueAt vs k):=by
 unfold KV at r
 induction r with
 |nil=>exact True.intro
 | @cons p q ps qs h t ih=>
  obtain⟨h1,h2⟩:=h
  by_cases e:p.1=k
  ·have e':q.1=k:=h1.symm.trans e
   have b:valueAt (q::qs) k=some q.2:=by simp[valueAt,XT,e']
   rw[eU e,b];exact h2
  ·have e':¬ q.1=k:=fun z=>e (h1.trans z)
   have b:valueAt (q::qs) k=valueAt qs k:=by simp[valueAt,XT,e']
   rw[eV e,b];exact ih
theorem KV.any {kvs:List (κ×V)}{vs:List (κ×Value)}(r:KV kvs vs)(k:κ):(kvs.any fun kv=>decide (kv.1=k))=vs.any fun kv=>decide (kv.1=k):=by
 unfold KV at r
 induction r with
 |nil=>rfl
 |cons h t ih=>rw[X3,X3,ih,h.1]
theorem KV.repl {kvs:List (κ×V)}{vs:List (κ×Value)}(r:KV kvs vs)(k:κ){y:V}{u:Value}(ry:RelV y u) :
  KV (kvs.map fun kv=>if kv.1=k then (kv.1,y) else kv) (vs.map fun kv=>if kv.1=k then (kv.1,u) else kv):=by
 unfold KV at r ⊢
 induction r with
 |nil=>exact .nil
 | @cons p q ps qs h t ih=>
  rw[YS,YS]
  refine .cons ?_ ih
  obtain⟨h1,h2⟩:=h
  by_cases e:p.1=k
  ·rw[if_pos e,if_pos (h1.symm.trans e)];exact⟨h1,ry⟩
  ·rw[if_neg e,if_neg (fun z=>e (h1.trans z))];exact⟨h1,h2⟩
theorem KV.put {kvs:List (κ×V)}{vs:List (κ×Value)}(r:KV kvs vs)(k:κ){y:V}{u:Value}(ry:RelV y u):KV (putK kvs k y) (stored vs k u):=by
 unfold putK stored
 rw[r.any k]
 by_cases e:(vs.any fun kv=>decide (kv.1=k))=true
 ·rw[if_pos e,if_pos e];exact r.repl k ry
 ·rw[if_neg e,if_neg e];exact Paired.snoc r ⟨rfl,ry⟩
theorem KV.length {kvs:List (κ×V)}{vs:List (κ×Value)}(r:KV kvs vs):kvs.length=vs.length:=Paired.length r
end
theorem a5W {P:Program}{w:World}{k:Key}{u:Value}(r:RelV (kV k) u):(dR P w).is k u=true:=by
 cases k with
 |inl i=>obtain⟨t,e⟩:=(show ∃t,u=Value.int i t from r);subst e;exact vJ P w i t
 |inr x=>obtain⟨t,e⟩:=(show ∃t,u=Value.str x t from r);subst e;exact vH P w x t
theorem sE {P:Program}{w:World}:∀{ks:List Key}{us:List Value},Vals (ks.map kV) us->ItemsAre (dR P w) ks us
 |[],_,r=>by rw[List.map_nil]at r;cases r;exact .nil
 | k::ks,_,r=>by
  rw[YS]at r
  cases r with
  |cons h t=>exact .cons (a5W h) (sE t)
abbrev KT (H:Hp):List (List Key×V)->List (List Key×Addr×Value)->Prop:=Paired fun p q=>p.1=q.1/\H q.2.1=some (.tup (p.1.map kV))/\RelV p.2 q.2.2
theorem KT.val {H:Hp}{kvs:List (List Key×V)}{xs:List (List Key×Addr×Value)}(r:KT H kvs xs)(k:List Key):lH (iG kvs k) ((atKey xs k).map (·.2)):=by
 induction r with
 |nil=>exact True.intro
 | @cons p q ps qs h t ih=>
  obtain⟨h1,_,h2⟩:=h
  by_cases e:p.1=k
  ·have e':q.1=k:=h1.symm.trans e
   have b:atKey (q::qs) k=some q.2:=by simp[atKey,XT,e']
   rw[eU e,b];exact h2
  ·have e':¬ q.1=k:=fun z=>e (h1.trans z)
   have b:atKey (q::qs) k=atKey qs k:=by simp[atKey,XT,e']
   rw[eV e,b];exact ih
theorem KT.repl {H:Hp}{kvs:List (List Key×V)}{xs:List (List Key×Addr×Value)}(r:KT H kvs xs)(k:List Key){y:V}{u:Value}(ry:RelV y u) :
  KT H (kvs.map fun kv=>if kv.1=k then (kv.1,y) else kv) (xs.map (putAt k u)):=by
 induction r with
 |nil=>exact .nil
 | @cons p q ps qs h t ih=>
  rw[YS,YS]
  refine .cons ?_ ih
  obtain⟨h1,h2,h3⟩:=h
  unfold putAt
  by_cases e:p.1=k
  ·rw[if_pos e,if_pos (h1.symm.trans e)];exact⟨h1,h2,ry⟩
  ·rw[if_neg e,if_neg (fun z=>e (h1.trans z))];exact⟨h1,h2,h3⟩
theorem KT.put {H:Hp}{kvs:List (List Key×V)}{xs:List (List Key×Addr×Value)}(r:KT H kvs xs)(k:List Key){b:Addr}{y:V}{u:Value}(hb:H b=some (.tup (k.map kV)))(ry:RelV y u) :
  KT H (putK kvs k y) (storedH xs k b u):=by
 have e:(kvs.any fun kv=>decide (kv.1=k))=(atKey xs k).isSome:=by
  rw[lO,(r.val k).isSome_eq,Option.isSome_map]
 unfold putK storedH
 rw[e]
 by_cases q:(atKey xs k).isSome=true
 ·rw[if_pos q,if_pos q];exact r.repl k ry
 ·rw[if_neg q,if_neg q];exact Paired.snoc r ⟨rfl,hb,ry⟩
theorem KT.keeps {H H':Hp}{kvs:List (List Key×V)}{xs:List (List Key×Addr×Value)}(r:KT H kvs xs)(ht:∀b ys,H b=some (.tup ys)->H' b=some (.tup ys)):KT H' kvs xs:=
 Paired.mapP r fun _ _ z=>⟨z.1,ht _ _ z.2.1,z.2.2⟩
section
variable {P:Program}{w:World}{H:Hp}{h:Heap}{a:Addr}
theorem b0L {u:HO}(ok:HOk P w H h)(e:Rd H a u):dG P w H h a u:=e.ok ok
theorem a6F {kvs:List (Key×V)}(ok:HOk P w H h)(e:Rd H a (.dK kvs)):kvs.length<=sizeLine/\(a == sysModules)=false/\∃vs,KV kvs vs/\h.DictOf (dR P w) a vs:=
 show dG P w H h a (.dK kvs) from b0L ok e
theorem b6M {kvs:List (Key×V)}(ok:HOk P w H h)(e:H a=some (.dK kvs)):kvs.length<=sizeLine/\(a == sysModules)=false/\∃vs,KV kvs vs/\h.DictOf (dR P w) a vs:=a6F ok (.inl e)
theorem xP {ks:List Key}(ok:HOk P w H h)(e:H a=some (.tup (ks.map kV))):(tupleKind (dR P w)).is h ks a:=by
 obtain⟨_,its,r,o,h1,h2,n,h3⟩:=(show dG P w H h a (.tup (ks.map kV)) from ok a _ e)
 exact⟨o,its.toArray,n,h1,h2,h3,by simpa using sE r⟩
theorem a6E {kvs:List (List Key×V)}(ok:HOk P w H h)(e:Rd H a (.dT kvs)):kvs.length<=sizeLine/\(a == sysModules)=false/\
  ∃xs,KT H kvs xs/\h.DictOfH (tupleKind (dR P w)) a xs:=by
 obtain⟨z,y,xs,r,o,es,ep,h1,h2,h3,h4,h5⟩:=(show dG P w H h a (.dT kvs) from b0L ok e)
 refine⟨z,y,xs,r,o,es,ep,h1,h2,h3,h4,fun x hx=>?_,h5⟩
 have all:∀{l:List (List Key×V)}{m:List (List Key×Addr×Value)},KT H l m->∀x∈m,(tupleKind (dR P w)).is h x.1 x.2.1:=by
  intro l m q
  induction q with
  |nil=>intro x hx;exact nomatch hx
  | @cons p q ps qs hq t ih=>
   intro x hx
   rcases YE.mp hx with e | hx
   ·subst e
    exact xP ok (by rw[<-hq.1];exact hq.2.1)
   ·exact ih x hx
 exact all r x hx
theorem b6L {kvs:List (List Key×V)}(ok:HOk P w H h)(e:H a=some (.dT kvs)):kvs.length<=sizeLine/\(a == sysModules)=false/\
  ∃xs,KT H kvs xs/\h.DictOfH (tupleKind (dR P w)) a xs:=a6E ok (.inl e)
end
def b7D (H:Hp)(a:Addr)(y:V)(r:Option V):Prop:=
 (∃kvs k,Rd H a (.dK kvs)/\y=kV k/\r=iG kvs k)\/∃kvs k b,Rd H a (.dT kvs)/\y= .ref b/\H b=some (.tup (k.map kV))/\r=iG kvs k
def b7C (H:Hp)(a:Addr)(y v:V)(H':Hp):Prop:=
 (∃kvs k,H a=some (.dK kvs)/\y=kV k/\kvs.length<sizeLine/\H'=upd H a (.dK (putK kvs k v)))\/
 ∃kvs k b,H a=some (.dT kvs)/\y= .ref b/\H b=some (.tup (k.map kV))/\kvs.length<sizeLine/\H'=upd H a (.dT (putK kvs k v))
section
variable {X:Cx}{pins:List (Addr×Obj)}{σ:St}{H:Hp}{s:Shared}{a:Addr}{y v:V}{u r:Value}{o:Option V}{A:Around}{E:Value->Shared->Prop}
theorem Inv.big (I:Inv X pins σ H s):sysModules<s.heap.objs.size:=by
 have h:mainGlobals<s.heap.objs.size:=(I.mod.glob.keeps I.bk).lt
 exact Nat.lt_trans (by decide) h
theorem a0E {h':Heap}{t':Nat}{ob:HO}(I:Inv X pins σ H s)(mu:Mut (H a))(hs:Heap.SameBut a s.heap h')(he:∃q,h'.get? a=some q)(new:dG X.prog X.w (upd H a ob) h' a ob) :
  Inv X pins σ (upd H a ob) { s with heap:=h',toks:=t' }:=
 I.write (x:=a) (e:=a) mu (.inl rfl) (fun b q hb z=>(hs.2 b hb).trans z) he new
theorem b3V {P:Program}{w:World}{H':Hp}{h':Heap}{kvs:List (Key×V)}{vs:List (Key×Value)}(z:kvs.length<=sizeLine)(hd:(a == sysModules)=false)(rel:KV kvs vs)(dd:h'.DictOf (dR P w) a vs) :
  dG P w H' h' a (.dK kvs):=⟨z,hd,vs,rel,dd⟩
theorem a2F {H':Hp}{Q:Unit->Shared->Prop}(hu:A.units+1<cLine)(I:Inv X pins σ H s)(g:b7C H a y v H')(ry:RelV y u)(rv:RelV v r)(h:∀s',Inv X pins σ H' s'->Q () s') :
  wpAny (model X.prog X.w) A (setItem (.ref a) u r) Q E s:=by
 rcases g with ⟨kvs,k,e,ey,l,eH⟩ | ⟨kvs,k,b,e,ey,eb,l,eH⟩
 ·subst ey eH
  obtain⟨z,hd,vs,rel,dd⟩:=b6M I.hok e
  have hz:vs.length<=sizeLine:=by rw[<-rel.length];exact z
  have hl:(putK kvs k v).length<=sizeLine:=by have:=oF kvs k v;omega
  refine wpAny_setItem_pairs (hsz:=hz) (a5W ry) dd fun h' dd' hs=>h _ ?_
  have he:∃q,h'.get? a=some q:=let ⟨q,_,_,hq,_⟩:=dd';⟨q,hq⟩
  exact a0E I (by rw[e];exact True.intro) hs he (b3V hl hd (rel.put k rv) dd')
 ·subst ey eH
  cases (show u=Value.ref b from ry)
  obtain⟨z,hd,xs,rel,dd⟩:=b6L I.hok e
  have hz:xs.length<=sizeLine:=by rw[<-Paired.length rel];exact z
  have hl:(putK kvs k v).length<=sizeLine:=by have:=oF kvs k v;omega
  refine wpAny_setItem_heap (hsz:=hz) (tupleKind_room_in1 hu) (xP I.hok eb) dd fun h' dd' hs=>h _ ?_
  obtain⟨q,es,ep,hq,h2,h3,h4,_,h5⟩:=dd'
  refine a0E I (by rw[e];exact True.intro) hs ⟨q,hq⟩ ⟨hl,hd,_,(rel.put k eb rv).keeps fun c ys ec=>?_,q,es,ep,hq,h2,h3,h4,h5⟩
  rw[aK (b5U ec e (fun z=>nomatch z))]
  exact ec
end
section
variable {X:Cx}{pins:List (Addr×Obj)}{σ:St}{H:Hp}{s:Shared}{a:Addr}{kvs:List (Key×V)}{k:Key}{u:Value}{A:Around}{E:Value->Shared->Prop}
end
def b5I (td ty tv:TE):TS:=fun D σ H=>tv σ H fun v H1=>td σ H1 fun x H2=>ty σ H2 fun y H3=>∃a H4,x= .ref a/\b7C H3 a y v H4/\D.nx σ H4
section
variable {X:Cx}{o i e value:Expr}{pos pos' tpos:Pos}{td ty tv:TE}
theorem a8G (hu:X.A.units+1<cLine)(ho:PE X o td)(hi:PE X i ty)(hv:PE X value tv)(hs:swapsWith value (some (.Subscript o i pos')) pos.line X.env=pure false) :
  PS X (.Assign [.Subscript o i pos'] value pos) (b5I td ty tv):=by
 intro pins s σ H D I h
 refine wpAny_Assign_Subscript (thn (hv pins s σ H _ I h) fun r s1 ⟨v,H1,I1,rv,q1⟩=>thn (ho pins s1 σ H1 _ I1 q1) fun u s2 ⟨x,H2,I2,rx,q2⟩=>thn (hi pins s2 σ H2 _ I2 q2) fun iv s3 ⟨y,H3,I3,ry,a,H4,ex,g,q3⟩=>?_) hs
 subst ex
 obtain rfl:u=Value.ref a:=rx
 exact a2F hu I3 g ry rv fun s4 I4=>⟨σ,H4,I4,q3⟩
end
theorem a6G {P:Program}{w:World}{H:Hp}(h:Heap)(hb:sysModules<h.objs.size):dG P w H (h.push { cls:= .type "dict",data:= .dict #[] }) h.objs.size (.dK []):=
 ⟨Xs _,Xm.mpr (Ne.symm (YJ hb)), [],.nil,Heap.DictOf.new h⟩
def b1K:TE:=fun _ H Q=>∀p,H p=none->Q (.ref p) (upd H p (.dK []))
section
variable {X:Cx}{pos:Pos}
theorem a4U:PE X (.Dict [] [] pos) b1K:=fun pins s σ H Q I h=>
 wpAny_Dict_empty ⟨.ref s.heap.objs.size,_,I.laid (a:=s.heap.objs.size) (o:= .dK []) (t':=s.toks) (fun _ _ q=>Yk _ q) (Yd _) (a6G s.heap I.big),rfl,h _ (I.hok.fresh (Yd _))⟩
end
structure M1 (X:Cx)(o:Expr)(m:Str)(apos:Pos)(e:Expr)(cpos:Pos):Prop where
 base:attributeBase o m X.env (eval o X.env)=eval o X.env
 few:((backTo cpos (starEach [e] X.env)).all (fun x=>!x.1) && (backToKw cpos (keywordEach [] X.env)).all (fun x=>x.1.isSome)
  && decide (([e]:List Expr).length+([]:List Keyword).length+(if ([]:List Keyword).isEmpty then 0 else 1)<30))=true
 line:(apos.endLine == cpos.line)=true
 trees:backTo cpos (starEach [e] X.env)= [(false,eval e X.env)]
structure M2 (X:Cx)(o:Expr)(m:Str)(apos:Pos)(e f:Expr)(cpos:Pos):Prop where
 base:attributeBase o m X.env (eval o X.env)=eval o X.env
 few:((backTo cpos (starEach [e,f] X.env)).all (fun x=>!x.1) && (backToKw cpos (keywordEach [] X.env)).all (fun x=>x.1.isSome)
  && decide (([e,f]:List Expr).length+([]:List Keyword).length+(if ([]:List Keyword).isEmpty then 0 else 1)<30))=true
 line:(apos.endLine == cpos.line)=true
 trees:backTo cpos (starEach [e,f] X.env)= [(false,eval e X.env),(false,eval f X.env)]
def IsD (H:Hp)(a:Addr):Prop:=(∃kvs,Rd H a (.dK kvs))\/∃kvs,Rd H a (.dT kvs)
theorem b3M {X:Cx}{pins:List (Addr×Obj)}{σ:St}{H:Hp}{s:Shared}{a:Addr}(I:Inv X pins σ H s)(d:IsD H a) :
  s.TypeIs (.ref a) "dict"/\(∀b,Value.ref a= .ref b->∃ob,s.heap.get? b=some ob/\ob.dict=none)/\(a == sysModules)=false:=by
 rcases d with ⟨kvs,e⟩ | ⟨kvs,e⟩
 ·obtain⟨_,hd,vs,_,dd⟩:=a6F I.hok e
  refine⟨dd.typeIs,fun b q=>?_,hd⟩
  cases q
  obtain⟨ob,_,_,h1,h2,_⟩:=dd
  exact⟨ob,h1,h2.2.1⟩
 ·obtain⟨_,hd,xs,_,dd⟩:=a6E I.hok e
  refine⟨dd.typeIs,fun b q=>?_,hd⟩
  cases q
  obtain⟨ob,_,_,h1,h2,_⟩:=dd
  exact⟨ob,h1,h2.2.1⟩
section
variable {X:Cx}{pins:List (Addr×Obj)}{σ:St}{H:Hp}{s:Shared}{a:Addr}{y d:V}{u r:Value}{o:Option V}{A:Around}{E:Value->Shared->Prop}
theorem b3W {Q:Value->Shared->Prop}(hu:A.units+1<cLine)(I:Inv X pins σ H s)(g:b7D H a y o)(ry:RelV y u)(rd:RelV d r)(h:∀w' s',Inv X pins σ H s'->RelV (o.getD d) w'->Q w' s') :
  wpAny (model X.prog X.w) A (call (.builtin "dict.get") [.ref a,u,r]) Q E s:=by
 rcases g with ⟨kvs,k,e,ey,l⟩ | ⟨kvs,k,b,e,ey,eb,l⟩
 ·subst ey
  obtain⟨z,hd,vs,rel,dd⟩:=a6F I.hok e
  refine call_meetsIn PySem.F.slot_dict_get dd.typeIs PySem.F.entry_dict_get (PySem.F.args_dict_get_3 _ _ _) (meets_dict_get_default (dR X.prog X.w) a (a5W ry) hd r) ⟨_,dd.mapOf,h _ _ (I.tok _) ?_⟩
  rw[l]
  exact(rel.val k).getD rd
 ·subst ey
  cases (show u=Value.ref b from ry)
  obtain⟨z,hd,xs,rel,dd⟩:=a6E I.hok e
  refine call_meetsIn PySem.F.slot_dict_get dd.typeIs PySem.F.entry_dict_get (PySem.F.args_dict_get_3 _ _ _) (meetsH_dict_get_default (tupleKind (dR X.prog X.w)) a b hd r) ⟨tupleKind_room_in1 hu,k,xs,xP I.hok eb,dd,h _ _ (I.tok _) ?_⟩
  rw[l]
  exact(rel.val k).getD rd
end
def b1L (td ty tx:TE):TE:=fun σ H Q=>td σ H fun x H1=>∃a,x= .ref a/\IsD H1 a/\ty σ H1 fun y H2=>tx σ H2 fun z H3=>∃o,b7D H3 a y o/\Q (o.getD z) H3
section
variable {X:Cx}{o e f:Expr}{apos cpos:Pos}{td ty tx:TE}
theorem a4V (hu:X.A.units+1<cLine)(ho:PE X o td)(he:PE X e ty)(hf:PE X f tx)(m:M2 X o "get" apos e f cpos):PE X (.Call (.Attribute o "get" apos) [e,f] [] cpos) (b1L td ty tx):=by
 intro pins s σ H Q I h
 refine wpAny_Call_method m.base m.few m.line PySem.F.plainAttrs_dict PySem.F.slot_dict_get PySem.F.type_dict_get (thn (ho pins s σ H _ I h) fun u s1 hz9=>?_)
 obtain⟨x,H1,I1,rx,a,ex,d,q1⟩:=hz9
 subst ex
 obtain rfl:u=Value.ref a:=rx
 obtain⟨t1,t2,_⟩:=b3M I1 d
 refine⟨t1,t2,?_⟩
 rw[m.trees]
 refine Calls.callWith_builtin rfl (Calls.evalArgs_plain (Calls.spliced_cons (thn (he pins s1 σ H1 _ I1 q1) fun iv s2 ⟨y,H2,I2,ry,q2⟩=>
  Calls.spliced_cons (thn (hf pins s2 σ H2 _ I2 q2) fun fv s3 ⟨z,H3,I3,rz,ov,g,q3⟩=>Calls.spliced_nil ?_))))
 exact b3W hu I3 g ry rz fun w' s4 I4 rw'=>⟨_,H3,I4,rw',q3⟩
end
section
variable {X:Cx}{pins:List (Addr×Obj)}{σ:St}{H:Hp}{s:Shared}{a:Addr}{kvs:List (Key×V)}{A:Around}{E:Value->Shared->Prop}
end
section
variable {X:Cx}{pins:List (Addr×Obj)}{σ:St}{H:Hp}{s:Shared}{a:Addr}{y:V}{u:Value}{A:Around}{E:Value->Shared->Prop}
end
end L2
namespace L2
open PySem PySem.Spec PyProof.Rows
section
variable {κ:Type}[DecidableEq κ]
end
end L2
namespace L2
open PySem PySem.Spec PyProof.Rows
def kO (c:Addr)(v:V):HO:= .ext fun h=>∃u,RelV v u/\h.IsCell c (some u)
def jB (c:Addr)(qual:Str):HO:= .ext fun h=>h.CodeRec (.ref c) qual
def lF (H:Hp)(cs:List Addr):Hp:=fun b=>if b∈cs then none else H b
def wD (H H':Hp)(cs:List Addr):Hp:=fun b=>if b∈cs then H b else H' b
theorem mD {H:Hp}{cs:List Addr}{b:Addr}(h:b∈cs):lF H cs b=none:=by unfold lF;rw[if_pos h]
theorem dF {H:Hp}{cs:List Addr}{b:Addr}(h:b∉cs):lF H cs b=H b:=by unfold lF;rw[if_neg h]
theorem a0I {H H':Hp}{cs:List Addr}{b:Addr}(h:b∈cs):wD H H' cs b=H b:=by unfold wD;rw[if_pos h]
theorem gR {H H':Hp}{cs:List Addr}{b:Addr}(h:b∉cs):wD H H' cs b=H' b:=by unfold wD;rw[if_neg h]
def Cells (H:Hp)(cl:List (Str×Addr))(ys:List Str)(ws:List V):Prop:=
 cl.map (·.1)=ys/\(cl.map (·.2)).Nodup/\Paired (fun (p:Str×Addr) (v:V)=>H p.2=some (kO p.2 v)) cl ws
theorem Cells.at {H:Hp}:∀{cl:List (Str×Addr)}{ws:List V},Paired (fun (p:Str×Addr) (v:V)=>H p.2=some (kO p.2 v)) cl ws->∀{i:Nat}{p:Str×Addr},cl[i]? =some p->∃v,ws[i]? =some v/\H p.2=some (kO p.2 v)
 |_,_,.nil,i,p,h=>by simp at h
 |_,_,.cons r t,0,p,h=>by simp at h;subst h;exact⟨_,rfl,r⟩
 |_,_,.cons r t,i+1,p,h=>Cells.at t (i:=i) (by simpa using h)
theorem Cells.is {H:Hp}{cl:List (Str×Addr)}{ws:List V}(r:Paired (fun (p:Str×Addr) (v:V)=>H p.2=some (kO p.2 v)) cl ws){c:Addr}(h:c∈cl.map (·.2)):∃v,H c=some (kO c v):=by
 obtain⟨p,hp,rfl⟩:=Y1.mp h
 obtain⟨i,hi,e⟩:=Xb hp
 obtain⟨v,_,q⟩:=Cells.at r (i:=i) (p:=p) (by rw[Yb hi,e])
 exact⟨v,q⟩
structure uI (N ps ys:List Str)(sc:Scope):Prop where
 kind:sc.kind= .function
 co:sc.isCoroutine=false
 gen:sc.isGenerator=false
 nd:N.Nodup
 pre:N.take (ps.length+ys.length)=ps++ys
 par:∀x∈ps,sc.names.lookup x=some .local
 fre:∀x∈ys,sc.names.lookup x=some .free
 only:∀y∈sc.names,y.2≠ .cell/\(y.2= .free->y.1∈ys)
def pQ (N:List Str)(vs ws:List V):St:=(vs++ws).map some++List.replicate (N.length-(vs++ws).length) none
def cxC (P:Program)(w:World)(K:W.Frag)(mg:Str->Option Value)(base:Heap)(N:List Str)(qual:Str)(scope:Scope)(f:Addr)(cd:Value)(cl:List (Str×Addr))(A:Around)(outer:List Env)(s:Shared)(H:Hp):Cx where
 prog:=P
 w:=w
 K:=K
 mg:=mg
 base:=base
 A:=A.deeper (W.envX qual scope s.heap.objs.size f cd cl)
 N:=N
 s₀:=s
 H₀:=H
 env:=W.envX qual scope s.heap.objs.size f cd cl
 outer:=outer
 stack:=W.envX qual scope s.heap.objs.size f cd cl::outer
 ex:=[]
 calm:=true
 fn:=fun _=>false
 pn:=[]
 xe:=fun _ _=>False
theorem lW {α:Type}:∀{l:List (Str×α)}{x:Str}{u:α},(l.map (·.1)).Nodup->(x,u)∈l->l.lookup x=some u
 |[],_,_,_,h=>nomatch h
 | (y, v)::r,x,u,nd,h=>by
  rw[YS,YX]at nd
  rcases YE.mp h with e | h'
  ·cases e
   rw[List.lookup_cons_self]
  ·have hne:(x == y)=false:=by
    rw[Xm]
    intro z
    exact nd.1 (by rw[<-z];exact Y1.mpr ⟨(x,u),h',rfl⟩)
   rw[Xp,hne]
   exact lW nd.2 h'
theorem a5X {P:Program}{w:World}{H:Hp}{h h':Heap}{cs:List Addr}(x:HOk P w H h)(hc:∀c∈cs,∃v,H c=some (kO c v))(k:∀b u,h.get? b=some u->h'.get? b=some u):HOk P w (lF H cs) h':=fun a o e=>by
 have ha:a∉cs:=fun z=>by rw[mD z]at e;cases e
 rw[dF ha]at e
 have nx:∀b u,H b=some u->(∀φ,u≠ .ext φ)->b∉cs:=fun b u q hn z=>by
  obtain⟨v,e2⟩:=hc b z
  rw[q]at e2
  exact hn _ (Yq e2)
 refine(x a o e).stay (fun b u _ q=>k b u q) (fun b q=>?_) fun b xs q=>?_
 ·rw[dF (nx b _ q fun φ z=>by cases z)];exact q
 ·rw[dF (nx b _ q fun φ z=>by cases z)];exact q
theorem xR {P:Program}{w:World}{K:W.Frag}{mg:Str->Option Value}{base:Heap}{N ps ys:List Str}{qual:Str}{scope:Scope}{f:Addr}{cd:Value}{cl:List (Str×Addr)}{A:Around}{outer:List Env}{s:Shared}{h':Heap}{tk:Nat}{H:Hp}{us:List Value}{vs ws:List V}
  (S:uI N ps ys scope) (hd:A.handled=none) (e0:nZ P w K mg base A outer s H) (hl:vs.length=ps.length) (r:Vals vs us) (hc:Cells H cl ys ws)
  (hn:h'.Ns s.heap.objs.size (fun x=>(ps.zip us).reverse.lookup x)) (hk:∀b o,s.heap.get? b=some o->h'.get? b=some o) :
  Inv (cxC P w K mg base N qual scope f cd cl A outer s (lF H (cl.map (·.2)))) [] (pQ N vs ws) (lF H (cl.map (·.2))) { s with heap:=h',toks:=tk }:=by
 obtain⟨c1,c2,c3⟩:=hc
 have his:∀c∈cl.map (·.2),∃v,H c=some (kO c v):=fun c h=>Cells.is c3 h
 have cwl:cl.length=ws.length:=Paired.length c3
 have cyl:cl.length=ys.length:=by rw[<-c1,Ya]
 have hpl:ps.length+ys.length<=N.length:=by have:=YT List.length S.pre;rw[Yo,Yc]at this;omega
 have ndPY:(ps++ys).Nodup:=by rw[<-S.pre];exact S.nd.sublist (List.take_sublist _ _)
 have ndP:=(List.nodup_append.mp ndPY).1
 have ndY:=(List.nodup_append.mp ndPY).2.1
 have lk:∀x c,cl.lookup x=some c->c∈cl.map (·.2):=fun x c h=>Y1.mpr ⟨(x,c),Y4 h,rfl⟩
 have old:∀c∈cl.map (·.2),c<s.heap.objs.size:=fun c h=>by
  obtain⟨v,e⟩:=his c h
  exact(e0.hok c _ e).lt
 refine⟨⟨e0.mod,S.kind,rfl,rfl,Yd _,fun y z c h1 h2=>?_,fun y hy=>?_,(fun y c h _=>by cases h),(fun _=>hd),Around.frames_deeper e0.frames,.inr ⟨rfl,rfl⟩,fun b z=>absurd (show b∈([]:List Addr) from z) (by simp),fun b o e=>⟨(e0.bs b o e).1,?_⟩,e0.bsz,fun b _ _ z=>absurd (show b∈([]:List Addr) from z) (by simp),fun b z=>absurd (show b∈([]:List Addr) from z) (by simp),e0.funs,fun b hb=>?_⟩,
  rfl,e0.bare,Un.kept hk,⟨_,hn,fun i y v h1 h2 h3=>?_⟩,fun y c h=>?_,?_,fun y c h=>mD (lk y c h),fun p hp=>absurd (show p∈([]:List (Addr×Obj)) from hp) (by simp),a5X e0.hok his hk,?_⟩
 ·have m1:(y,c)∈cl:=Y4 h1
  have m2:(z,c)∈cl:=Y4 h2
  obtain⟨i,hi,e1⟩:=Xb m1
  obtain⟨j,hj,e2⟩:=Xb m2
  have:(cl.map (·.2))[i]? =(cl.map (·.2))[j]?:=by
   rw[Yi,Yi,Yb hi,Yb hj,e1,e2];rfl
  have:=(List.getElem?_inj (by rw[Ya];exact hi) c2).mp this
  subst this
  rw[e1]at e2
  exact YT Prod.fst e2
 ·have hy:scope.names.lookup y=some .cell\/scope.names.lookup y=some .free:=hy
  have hf:y∈ys:=by
   rcases hy with hy | hy
   ·exact absurd rfl (S.only _ (Y4 hy)).1
   ·exact(S.only _ (Y4 hy)).2 rfl
  rw[<-c1]at hf
  obtain⟨p,hp,rfl⟩:=Y1.mp hf
  have q:cl.lookup p.1=some p.2:=lW (by rw[c1];exact ndY) hp
  exact⟨p.2,q⟩
 ·by_cases hb:b∈cl.map (·.2)
  ·exact mD hb
  ·exact(dF hb).trans (e0.bs b o e).2
 ·by_cases hb':b∈cl.map (·.2)
  ·exact mD hb'
  ·exact(dF hb').trans (e0.frf b hb)
 ·have hiv:i<(vs++ws).length:=by
   unfold pQ at h2
   by_cases hi:i<(vs++ws).length
   ·exact hi
   ·rw[Yv (by simpa using hi),List.getElem?_replicate]at h2
    split at h2 <;> cases h2
  have ha:(vs++ws)[i]? =some v:=by
   unfold pQ at h2
   rw[Yx (by simpa using hiv),Yi]at h2
   cases e:(vs++ws)[i]? with
   |none=>rw[e]at h2;cases h2
   |some a=>rw[e]at h2;cases h2;rfl
  rw[Yc]at hiv
  have hp:(ps++ys)[i]? =some y:=by
   rw[<-S.pre,Xw (by omega)];exact h1
  by_cases hi:i<ps.length
  ·rw[Yx hi]at hp
   rw[Yx (by omega)]at ha
   obtain⟨u,hu,rv⟩:=r.get ha
   refine⟨u,rv,.inl ⟨S.par y (Yp hp),?_⟩⟩
   have hm:(y,u)∈ps.zip us:=Yp (i:=i) (by rw[List.getElem?_zip_eq_some];exact⟨hp,hu⟩)
   have ul:us.length=ps.length:=by rw[<-r.length];exact hl
   refine lW ?_ (List.mem_reverse.mpr hm)
   unfold List.Nodup
   rw[List.map_reverse,List.pairwise_reverse,List.map_fst_zip (by omega)]
   exact ndP.imp fun h=>h.symm
  ·rw [Yv (by omega)]at hp
   rw[Yv (by omega),hl]at ha
   obtain⟨p,hp2,e⟩:∃p,cl[i-ps.length]? =some p/\p.1=y:=by
    rw[<-c1,Yi]at hp
    exact YO.mp hp
   obtain⟨v',ev,q⟩:=Cells.at c3 hp2
   rw[ha]at ev;cases ev
   obtain⟨⟨u,ru,hcell⟩,_,st⟩:=e0.hok _ _ q
   refine⟨u,ru,.inr ⟨.inr (S.fre y (Yp hp)),p.2,?_,?_⟩⟩
   ·subst e
    have q:cl.lookup p.1=some p.2:=lW (by rw[c1];exact ndY) (Yp hp2)
    exact q
   ·obtain⟨o,ho,hd⟩:=hcell
    exact⟨o,hk _ _ ho,hd⟩
 ·obtain⟨v,e⟩:=his c (lk y c h)
  obtain⟨⟨u,ru,o,ho,hd⟩,_,st⟩:=e0.hok _ _ e
  exact⟨_,o,hk _ _ ho,hd⟩
 ·show lF H _ s.heap.objs.size=none
  rw[dF fun z=>absurd (old _ z) (Y2 _)]
  exact e0.hok.fresh (Yd _)
 ·unfold pQ
  show _=N.length
  rw[Yc,Ya,YM,Yc]
  omega
end L2
namespace L2
open PySem PySem.Spec PyProof.Rows
def Bm (K:W.Frag)(mg:Str->Option Value)(bm:Addr):Prop:=mg "__builtins__"=some (.ref bm)/\bm≠builtinsNs/\bm≠mainGlobals/\∃o,K.lookup bm=some o/\o.cls= .type "module"/\o.dict=some builtinsNs/\o.data= .plain
def a2J (P:Addr)(pos:Pos)(qual:Str)(H:Hp):Prop:=∃ps,H P=some (.tbl ps)/\TriplesOk ps.toList/\(codeAmong pos ps.toList=none\/∃c',codeAmong pos ps.toList=some (.ref c')/\H c'=some (jB c' qual))
theorem jB.stb {c:Addr}{qual:Str}:∀h1 h2:Heap,h1.CodeRec (.ref c) qual->(∀o,h1.get? c=some o->h2.get? c=some o)->h2.CodeRec (.ref c) qual:=fun h1 h2 x k=>by
 obtain⟨c2,oc,vs,t,e,ho,hd,hv⟩:=x
 cases e
 exact⟨_,oc,vs,t,rfl,k _ ho,hd,hv⟩
section
variable {X:Cx}{pins:List (Addr×Obj)}{σ:St}{H:Hp}{s:Shared}{A:Around}{E:Value->Shared->Prop}{c0 P bm:Addr}{nm qual:Str}{params:Arguments}{body:List Stmt}{scope:Scope}{pos:Pos}{cl:List (Str×Addr)}{Q:Value->Shared->Prop}
end
end L2
namespace L2
open PySem PySem.Spec PyProof.Rows
def PF (X:Cx)(sts:List Stmt)(u:St->Hp->Prop)(Φ:Flow->Shared->Prop):Prop:=∀(pins:List (Addr×Obj))(s:Shared)(σ:St)(H:Hp),Inv X pins σ H s->u σ H->wpAny (model X.prog X.w) X.A (execs sts X.env) Φ X.xe s
def b7H (t:TS)(u:St->Hp->Prop):St->Hp->Prop:=fun σ H=>t { nx:=u,rt:=fun _ _=>False } σ H
section
variable {X:Cx}{st:Stmt}{rest:List Stmt}{t:TS}{u:St->Hp->Prop}{Φ:Flow->Shared->Prop}
theorem yW (h1:PS X st t)(h2:PF X rest u Φ):PF X (st::rest) (b7H t u) Φ:=by
 intro pins s σ H I h
 refine wpAny_execs_cons (thn (h1 pins s σ H _ I h) fun f s1 q=>?_)
 cases f with
 | next=>
  obtain⟨σ',H',I',q⟩:=q
  exact h2 pins s1 σ' H' I' q
 |ret v=>obtain⟨_,_,_,_,_,q⟩:=q;exact q.elim
 |brk=>obtain⟨_,_,_,q⟩:=q;exact q.elim
 |cont=>obtain⟨_,_,_,q⟩:=q;exact q.elim
end
end L2
namespace L2
open PySem PySem.Spec PyProof.Rows
def b0W (P:Program)(w:World)(K:W.Frag)(mg:Str->Option Value)(base:Heap)(k:Nat)(spc:Addr->List V->Hp->VK->Prop):Prop:=
 ∀(f:Addr)(A:Around)(outer:List Env)(s:Shared)(H:Hp)(us:List Value)(vs:List V)(Q:VK),dM k A->nZ P w K mg base A outer s H->Vals vs us->spc f vs H Q->codeAny (model P w) A (.call (.ref f) ⟨us, []⟩) (CR CX0 outer P w H s Q E0) s
section
variable {X:Cx}{k i:Nat}{x:Str}{p pos:Pos}{e:Expr}{es:List Expr}{t:TA}{spc:Addr->List V->Hp->VK->Prop}{K:W.Frag}
end
def a6X (ts:List Addr)(H:Hp):Prop:=(∀P∈ts,H P=some (.tbl #[]))/\∀b,b∈ts\/H b=none\/∃o xs,H b=some (.frz o (.lst xs))
theorem a1V {P:Program}{w:World}{K:W.Frag}{mg mb:Str->Option Value}{CX:CXT}{k:Nat}{fa a:Addr}{fd:FuncData}{x:Str}{sp:Sp}{s₁:Shared}{vs:List Value}{ns:List Int}{ts:List Addr}
    (hts:∀T∈ts,K.lookup T=none/\s₁.heap.get? T=some (W.tabObj #[])/\isCodeTable s₁.heap T)
    (KX:K.In s₁.heap) (hns:s₁.heap.Ns mainGlobals mg) (hb:s₁.heap.Ns builtinsNs mb) (hbb:∀x:Str,x≠"__name__"->mb x=bootBuiltins x) (hlim:s₁.heap.NoLimit) (hg:s₁.gens=#[])
    (ha:s₁.heap.get? a=some { cls:= .type "list",data:= .seq vs.toArray }) (hi:IntsAre vs ns) (hl:ns.length<=sizeLine) (hr:dM k callerA)
    (F:∀base:Heap,K.In base->base.Ns mainGlobals mg->fM P w K mg base CX k fa fd [x] sp) (hbind:∀(s:Shared)(u:Value),BindsTo s fd ⟨[u], []⟩ [(x,u)])
    (hsp:∀H:Hp,a6X ts H->SqL K H a (ns.map V.int)->sp [.ref a] H (fun v _=>v= .bl true) fun _ _ _=>False)
    (hCX:∀H e s',CX [] H s₁ (fun _ _ _=>False) e s'->False) :
    codeAny (model P w) callerA (.call (.ref fa) ⟨[.ref a], []⟩) (fun r s'=>r= .ok (.ret (.bool true))/\OldK s₁.heap s'.heap/\s'.os=s₁.os/\AllBare s'.gens) s₁:=by
  have rv:=nG hi
  have lenV:=hi.length
  have aT:a∉ts:=fun z=>by
    have:=(hts a z).2.1
    rw[ha]at this;cases this
  have core : ∀H0:Hp,(∀b,H0 b=none\/∃o xs,H0 b=some (.frz o (.lst xs)))->SqL K H0 a (ns.map V.int)->HOk P w H0 s₁.heap->(∀b,H0 b≠none->b=a)->(H0 a≠none->K.lookup a=none)->
      codeAny (model P w) callerA (.call (.ref fa) ⟨[.ref a], []⟩) (fun r s'=>r= .ok (.ret (.bool true))/\OldK s₁.heap s'.heap/\s'.os=s₁.os/\AllBare s'.gens) s₁:=by
    intro H0 hO0 hS0 hok0 hA0 hK0
    obtain⟨H,hH⟩:∃H:Hp,H=fun b=>if b∈ts then some (.tbl #[]) else H0 b:=⟨_,rfl⟩
    have hin:∀b,b∈ts->H b=some (.tbl #[]):=fun b z=>by rw[hH];exact if_pos z
    have hout:∀b,b∉ts->H b=H0 b:=fun b z=>by rw[hH];exact if_neg z
    have h0T:∀b,b∈ts->H0 b=none:=fun b z=>by
      cases q:H0 b with
      |none=>rfl
      |some u=>exact absurd (by rw[<-hA0 b (by rw[q];simp)];exact z) aT
    have sub:∀b u,H0 b=some u->H b=some u:=fun b u q=>by
      rw[hout b fun z=>by rw[h0T b z]at q;cases q];exact q
    have hO:a6X ts H:=⟨hin,fun b=>by
      by_cases z:b∈ts
      · exact .inl z
      · rw[hout b z];exact .inr (hO0 b)⟩
    have hS:SqL K H a (ns.map V.int):=by
      rcases hS0 with (h | ⟨o,h⟩) | h
      · exact .inl (.inl (sub _ _ h))
      · exact .inl (.inr ⟨o,sub _ _ h⟩)
      · exact .inr h
    have hok:HOk P w H s₁.heap:=fun b u e=>by
      by_cases z:b∈ts
      · rw[hin b z]at e
        cases e
        exact(hts b z).2.1
      · rw[hout b z]at e
        exact(hok0 b u e).stay (fun _ _ _ q=>q) (fun d q=>sub d _ q) fun d xs q=>sub d _ q
    have fr:∀{b:Addr}{o:Obj},s₁.heap.get? b=some o->o.cls≠ .none->b≠a->H b=none:=fun {b o} e hc hb'=>by
      have z:b∉ts:=fun z=>by
        have:=(hts b z).2.1
        rw[e]at this
        cases this
        exact hc rfl
      rw[hout b z]
      cases q:H0 b with
      |none=>rfl
      |some u=>exact absurd (hA0 b (by rw[q];simp)) hb'
    have base_of:∀{b:Addr}{o:Obj},s₁.heap.get? b=some o->H b=none->(lZ s₁.heap H).get? b=some o:=fun e n=>vU e n
    have noD:∀{b:Addr}{o:Obj}{es:Array DictEntry}{ep:Nat},s₁.heap.get? b=some o->o.data= .dict es ep->H b=none:=fun {b o es ep} e d=>by
      have z:b∉ts:=fun z=>by
        have:=(hts b z).2.1
        rw[e]at this
        cases this
        cases d
      rw[hout b z]
      cases q:H0 b with
      |none=>rfl
      | some u=>
        have e':b=a:=hA0 b (by rw[q];simp)
        subst e'
        rw[ha]at e;cases e
        cases d
    have nsK:∀{b:Addr}{m:Str->Option Value},s₁.heap.Ns b m->(lZ s₁.heap H).Ns b m:=fun {b m} ⟨o,es,ep,e,d,r⟩=>⟨o,es,ep,base_of e (noD e d),d,r⟩
    have hKb:K.In (lZ s₁.heap H):=fun b o e=>base_of (KX b o e) (by
      have z:b∉ts:=fun z=>by rw[(hts b z).1]at e;cases e
      rw[hout b z]
      cases q:H0 b with
      |none=>rfl
      | some u=>
        have e':b=a:=hA0 b (by rw[q];simp)
        subst e'
        rw[hK0 (by rw[q];simp)]at e;cases e)
    have hM:Mod K mg (lZ s₁.heap H):=⟨hKb,nsK hns,⟨mb,nsK hb,hbb⟩,let ⟨mc,h1,h2⟩:=hlim;⟨mc,nsK h1,h2⟩⟩
    have e0:nZ P w K mg (lZ s₁.heap H) callerA [] s₁ H:=⟨rfl,hM,fun b o e=>zG e,Nat.le_of_eq (sH _ _),trivial,fun b hb=>absurd (show b∈([]:List Addr) from hb) (by simp),hok,.of_eq hg⟩
    refine X5 ((F _ hKb (nsK hns)).run callerA [] s₁ H ⟨[.ref a], []⟩ [.ref a] [.ref a] _ _ hr e0 (hbind s₁ (.ref a)) (.cons rfl .nil) (hsp H hO hS)) fun r s' h=>?_
    cases r with
    |error e=>exact(hCX H e s' h).elim
    | ok fl =>
      cases fl with
      |next=>exact False.elim h
      |brk=>exact False.elim h
      |cont=>exact False.elim h
      | ret u =>
        obtain⟨v,H',os,bare,un,hok',r',q⟩:=h
        have q':v= .bl true:=q
        subst q'
        obtain rfl:u=Value.bool true:=r'
        refine⟨rfl,⟨fun b o e=>?_,fun b o e=>un.there b o e (by simp)⟩,os,bare⟩
        by_cases z:b∈ts
        · obtain⟨t1,t2,t3⟩:=hts b z
          rw[e]at t2
          cases t2
          obtain⟨more,e2⟩:=un.tbls b #[] (hin b z)
          have e3:s'.heap.get? b=some { cls:= .none,data:= .fields (#[]++more) }:=hok' b _ e2
          exact .inr (.inl ⟨t3,rfl, #[],more,rfl,e3⟩)
        · refine .inl ?_
          cases q:H0 b with
          |none=>exact un.keep b o e (by rw[hout b z];exact q) (fun z=>absurd (show b∈([]:List Addr) from z) (by simp)) (by simp)
          | some u=>
            rcases hO0 b with z1 | ⟨ob,xs,z1⟩
            · rw[q]at z1;cases z1
            · have z2:=un.frzs b ob _ (sub _ _ z1)
              obtain⟨e1,_⟩:=hok0 b _ z1
              obtain⟨e2,_⟩:=hok' b _ z2
              rw[e]at e1;cases e1
              exact e2
  cases hk:K.lookup a with
  | some o=>
    have e:=KX a o hk
    rw[ha]at e
    cases e
    refine core (fun _=>none) (fun _=> .inl rfl) (.inr ⟨_,vs.toArray,_,hk,rfl,rfl,rfl,by rw[Yz,lenV];exact hl,by simpa using rv⟩) (fun b u z=>by cases (show (none:Option HO)=some u from z)) (fun b z=>absurd rfl z) fun z=>absurd rfl z
  | none =>
    refine core (fun b=>if b=a then some (.frz { cls:= .type "list",data:= .seq vs.toArray } (.lst (ns.map V.int))) else none) (fun b=>?_) (.inl (.inr ⟨{ cls:= .type "list",data:= .seq vs.toArray },if_pos rfl⟩)) (fun b u z=>?_) (fun b z=>?_) fun _=>hk
    · by_cases hb:b=a
      · exact .inr ⟨_,_,if_pos hb⟩
      · exact .inl (if_neg hb)
    · by_cases hb:b=a
      · cases (if_pos hb).symm.trans z
        subst hb
        exact⟨ha,by rw[Ya];exact hl,vs,_,rv,ha⟩
      · cases (if_neg hb).symm.trans z
    · by_cases hb:b=a
      · exact hb
      · exact absurd (if_neg hb) z
theorem walk_ofT {l:W.OpenLaw}{n k:Nat}{q:Program}{loose:List Str}{XP:(Str->Option Value)->Heap->Prop}{YP:World->Heap->Prop}{d:DefRec}{K:Params->W.Frag}{CX:World->CXT}{sp:World->Sp}{x:Str}{tc:List (Addr×Addr)}
  (hn:l.most=some n) (hn2:n<=sizeLine) (hdf:d.params.defaults= []) (hr:dM k callerA)
  (hY:∀(w:World)(h:Heap),YP w h->(K w.params).In h/\∀q∈tc,(K w.params).lookup q.2=none/\h.get? q.2=some (W.tabObj #[])/\W.codeHdIn (K w.params) q.1 q.2=true)
  (F : ∀(w:World)(mg:Str->Option Value)(fa:Addr)(h:Heap),(K w.params).In h->h.Ns mainGlobals mg->mg d.name=some (.ref fa)->
   ∃ fd:FuncData,(∀(s:Shared)(u:Value),BindsTo s fd ⟨[u], []⟩ [(x,u)])/\
    ∀base:Heap,(K w.params).In base->base.Ns mainGlobals mg->fM l.prog w (K w.params) mg base (CX w) k fa fd [x] (sp w))
  (hsp:∀(w:World)(H:Hp)(a:Addr)(ns:List Int),ns.length<=n->a6X (tc.map (·.2)) H->SqL (K w.params) H a (ns.map V.int)->sp w [.ref a] H (fun v _=>v= .bl true) fun _ _ _=>False)
  (hCX:∀(w:World)(H:Hp)(s:Shared)(e:Value)(s':Shared),CX w [] H s (fun _ _ _=>False) e s'->False) :
  W.WalkO q loose XP YP l.row.toRowW d [] (fun f vs=>PySem.call f vs):=by
 refine Att.attach_call hn hdf fun w s₀ s₁ mg mb fa o pm cd doc a vs ns G Y ho hd hcd hmg hobj hints hlen hg=>?_
 obtain⟨KX,T⟩:=hY w _ Y
 obtain⟨fd,hb,hF⟩:=F w mg fa _ KX G.T.g hmg
 refine a1V (ts:=tc.map (·.2)) (fun t ht=>?_) KX G.T.g G.T.b G.T.builtins G.T.nolimit hg hobj hints (Y0 hlen hn2) hr hF hb (fun H hO hS=>hsp w H a ns hlen hO hS) fun H e s'=>hCX w H s₁ e s'
 obtain⟨q,hq,rfl⟩:=Y1.mp ht
 obtain⟨t1,t2,t3⟩:=T q hq
 exact⟨t1,t2,((W.codeHd_of_K KX t3).tab t2).isCodeTable⟩
end L2
namespace L2
open PySem PySem.Spec PyProof.Rows
def nC (f:Addr)(qual:Str)(params:Arguments)(body:Expr)(scope:Scope)(cl:List (Str×Addr))(c':Addr):HO:=
 .ext fun h=>∃pm ctv,h.get? f=some (W.kla_obj "<lambda>" qual params body scope cl pm c' ctv)
theorem nC.stb {qual:Str}{params:Arguments}{body:Expr}{scope:Scope}{cl:List (Str×Addr)}{c' f:Addr}:∀h1 h2:Heap,(∃pm ctv,h1.get? f=some (W.kla_obj "<lambda>" qual params body scope cl pm c' ctv))->(∀o,h1.get? f=some o->h2.get? f=some o)->
  ∃pm ctv,h2.get? f=some (W.kla_obj "<lambda>" qual params body scope cl pm c' ctv):=fun h1 h2 ⟨pm,ctv,e⟩ k=>⟨pm,ctv,k _ e⟩
def wF (P:Addr)(pos:Pos)(c':Addr)(H:Hp):Prop:=∃ps,H P=some (.tbl ps)/\TriplesOk ps.toList/\codeAmong pos ps.toList=some (.ref c')
section
variable {X:Cx}{pins:List (Addr×Obj)}{σ:St}{H:Hp}{s:Shared}{A:Around}{E:Value->Shared->Prop}{c0 P bm:Addr}{qual:Str}{params:Arguments}{body:Expr}{scope:Scope}{pos:Pos}{cl:List (Str×Addr)}{Q:Value->Shared->Prop}
theorem b3A (I:Inv X pins σ H s)(hcode:X.env.code= .ref c0)(C:W.codeHdIn X.K c0 P=true)(hb:Bm X.K X.mg bm)(hT:a2J P pos qual H)(hcl:closureFor scope X.env=pure cl)
  (h:∀f c' H' s',H f=none->(∀b o,b≠P->H b=some o->H' b=some o)->wF P pos c' H'->(H c'=none\/wF P pos c' H)->H' c'=some (jB c' qual)->H' f=some (nC f qual params body scope cl c')->Inv X pins σ H' s'->Q (.ref f) s') :
  wpAny (model X.prog X.w) A (makeFunction "<lambda>" qual params (.expr body) scope X.env [] [] [] pos pos.line) Q E s:=by
 obtain⟨ps,hP,ht,hh⟩:=hT
 have hPo:s.heap.get? P=some (W.tabObj ps):=I.hok _ _ hP
 have hPl:=Yr hPo
 have hg:=I.mod.glob.keeps I.bk
 have CH:W.CodeHd s.heap c0 P:=W.codeHd_of_K I.kIn C
 obtain⟨b1,b2,b3,ob,b4,b5,b6,b7⟩:=hb
 have bob:=I.kIn _ _ b4
 have hgP:mainGlobals≠P:=fun q=>by
  obtain⟨o,es,ep,e,hd,_⟩:=hg
  rw[q,hPo]at e;cases e;cases hd
 have hbP:bm≠P:=fun q=>by
  rw[q,hPo]at bob;cases bob;cases b5
 have hB:s.heap.BuiltinsAt X.mg P:=⟨bm,ob,b1,b2,b3,hbP,bob,b5,b6,b7⟩
 have nP:∀d u,H d=some u->(∀qs,u≠ .tbl qs)->d≠P:=fun d u q hn z=>by
  rw[z,hP]at q
  exact hn _ (Yq q).symm
 rcases hh with hnf | ⟨c',hf,hc'⟩
 ·refine W.kla_makeFunction (mg:=X.mg) hcl I.ok.glob hg hcode CH hPo ht hnf hgP hB fun c' ctv h' tk hx hge hlt hrec htb=>?_
  obtain⟨fO,hfO⟩:∃fO,fO=W.kla_obj "<lambda>" qual params body scope cl ((X.mg "__name__").getD .none) c' ctv:=⟨_,rfl⟩
  rw[<-hfO]
  have fne:h'.objs.size≠P:=Nat.ne_of_gt (Yr htb)
  have cne:c'≠P:=Nat.ne_of_gt (Yf hPl hge)
  have fc:h'.objs.size≠c':=Nat.ne_of_gt hlt
  have hsz:s.heap.objs.size<=h'.objs.size:=Y0 hge (XI hlt)
  have hfn:H h'.objs.size=none:=I.hok.fresh hsz
  have hcn:H c'=none:=I.hok.fresh hge
  obtain⟨H',hH'⟩:∃H',H'=upd (upd (upd H P (.tbl (ps++#[rawInt pos.line,rawInt pos.col,.ref c']))) c' (jB c' qual)) h'.objs.size (nC h'.objs.size qual params body scope cl c'):=⟨_,rfl⟩
  have h1:H' h'.objs.size=some (nC h'.objs.size qual params body scope cl c'):=by rw[hH',aB]
  have h2:H' c'=some (jB c' qual):=by rw[hH',aK fc.symm,aB]
  have h3:H' P=some (.tbl (ps++#[rawInt pos.line,rawInt pos.col,.ref c'])):=by rw[hH',aK fne.symm,aK cne.symm,aB]
  have h4:∀b,b≠P->b≠c'->b≠h'.objs.size->H' b=H b:=fun b n1 n2 n3=>by rw[hH',aK n3,aK n2,aK n1]
  have h5:∀b o,b≠P->H b=some o->H' b=some o:=fun b o n q=>by
   have l:=(I.hok b o q).lt
   rw[h4 b n (YJ (Yf l hge)) (YJ (Yf l hsz))];exact q
  have hk:∀b o,b≠P->s.heap.get? b=some o->(h'.push fO).get? b=some o:=fun b o n q=>Yk _ (hx b o n q)
  refine h h'.objs.size c' H' _ hfn h5 ⟨_,h3,?_,?_⟩ (.inl hcn) h2 h1 (I.call' (ch:=[]) rfl ⟨fun b o e n _ _=>hk b o (fun z=>by rw[z,hP]at n;cases n) e,fun b o e n _ _=>⟨o.slots,hk b o (fun z=>by rw[z,hP]at n;cases n) e⟩,fun b o e n _=>?_,fun b o e _=>?_,fun b xs q=>h5 b _ (nP b _ q fun _ z=>by cases z) q,fun b o u q=>h5 b _ (nP b _ q fun _ z=>by cases z) q,fun b qs q=>?_⟩ (fun b o e=>?_) I.bare (fun b z=>absurd z (by simp)))
  ·rw[Array.toList_append];exact TriplesOk_snoc _ _ _ _ ht
  ·rw[Array.toList_append];exact codeAmong_snoc _ ht hnf
  ·have l:=Yr e
   rw[h4 b (fun z=>by rw[z,hP]at n;cases n) (YJ (Yf l hge)) (YJ (Yf l hsz))];exact n
  ·by_cases z:b=P
   ·rw[z];exact⟨_,Yk _ htb⟩
   ·exact⟨o,hk b o z e⟩
  ·by_cases z:b=P
   ·rw[z,hP]at q
    cases q
    exact⟨_,by rw[z];exact h3⟩
   ·exact⟨#[],by rw[h5 b _ z q];simp⟩
  ·by_cases z1:b=h'.objs.size
   ·subst z1
    rw[h1]at e
    cases e
    refine⟨⟨(X.mg "__name__").getD .none,ctv,?_⟩,⟨fO,YB _ (by rw[hfO];rfl)⟩,nC.stb⟩
    rw[hfO]
    exact YB _ rfl
   ·by_cases z2:b=c'
    ·subst z2
     rw[h2]at e
     cases e
     have hr:(h'.push fO).CodeRec (.ref b) qual:=jB.stb _ _ hrec fun o q=>Yk _ q
     obtain⟨c2,oc,vs,t,e2,ho,_⟩:=id hr
     cases e2
     exact⟨hr,⟨oc,ho⟩,jB.stb⟩
    ·by_cases z3:b=P
     ·subst z3
      rw[h3]at e
      cases e
      exact Yk _ htb
     ·rw[h4 b z3 z2 z1]at e
      refine(I.hok b o e).stay (fun d u hd q=>hk d u ?_ q) (fun d q=>h5 d _ (nP d _ q fun _ z=>by cases z) q) fun d xs q=>h5 d _ (nP d _ q fun _ z=>by cases z) q
      rcases hd with rfl | hd
      ·exact z3
      ·exact nP d _ hd fun _ z=>by cases z
 ·refine W.kla_makeFunctionHit (mg:=X.mg) hcl I.ok.glob hg hcode CH hPo ht hf hB fun ctv h' tk hx hsz=>?_
  obtain⟨fO,hfO⟩:∃fO,fO=W.kla_obj "<lambda>" qual params body scope cl ((X.mg "__name__").getD .none) c' ctv:=⟨_,rfl⟩
  have hk:∀b o,s.heap.get? b=some o->(h'.push fO).get? b=some o:=fun b o q=>Yk _ (hx b o q)
  have hfn:H h'.objs.size=none:=I.hok.fresh hsz
  have h5:∀b o,H b=some o->upd H h'.objs.size (nC h'.objs.size qual params body scope cl c') b=some o:=fun b o q=>by
   rw[aK (aQ q hfn)];exact q
  rw[show (⟨.type "function",none,.func (W.kla_fn "<lambda>" qual params body scope cl ((X.mg "__name__").getD .none) (.ref c') ctv), #[]⟩:Obj)=fO from hfO.symm]
  refine h h'.objs.size c' (upd H h'.objs.size (nC h'.objs.size qual params body scope cl c')) _ hfn (fun b o _ q=>h5 b o q) ⟨ps,h5 _ _ hP,ht,hf⟩ (.inr ⟨ps,hP,ht,hf⟩) (h5 _ _ hc') aB (I.call' (ch:=[]) rfl (Un.laid hk hsz hfn) (I.hok.laid hk hsz ?_) I.bare (fun b z=>absurd z (by simp)))
  refine⟨⟨(X.mg "__name__").getD .none,ctv,?_⟩,⟨fO,YB _ (by rw[hfO];rfl)⟩,nC.stb⟩
  rw[hfO]
  exact YB _ rfl
end
theorem a9B {P:Program}{w:World}{K:W.Frag}{mg:Str->Option Value}{base:Heap}{k:Nat}{f c':Addr}{params:Arguments}{body:Expr}{scope:Scope}{qual:Str}{cl:List (Str×Addr)}{N ps ys:List Str}{A:Around}{outer:List Env}{s:Shared}{H:Hp}{args:Args}{us:List Value}{vs ws:List V}{Q:VK}{E:XK}
  (S:uI N ps ys scope) (hr:dM (k+1) A) (e0:nZ P w K mg base A outer s H) (hf:H f=some (nC f qual params body scope cl c')) (hcd:H c'=some (jB c' qual)) (hc:Cells H cl ys ws) (hl:vs.length=ps.length) (r:Vals vs us)
  (hb:∀pm ctv,BindsTo s (W.kla_fn "<lambda>" qual params body scope cl pm (.ref c') ctv) args (ps.zip us))
  (hbody:dM k (A.deeper (W.envX qual scope s.heap.objs.size f (.ref c') cl))->∃t,PE (cxC P w K mg base N qual scope f (.ref c') cl A outer s (lF H (cl.map (·.2)))) body t/\
   t (pQ N vs ws) (lF H (cl.map (·.2))) fun v H'=>Q v (wD H H' (cl.map (·.2)))) :
  codeAny (model P w) A (.call (.ref f) args) (CR CX0 outer P w H s Q E) s:=by
 obtain⟨⟨pm,ctv,ho⟩,_,_⟩:=e0.hok _ _ hf
 obtain⟨hrec,_,_⟩:=e0.hok _ _ hcd
 have his:∀c∈cl.map (·.2),∃v,H c=some (kO c v):=fun c h=>Cells.is hc.2.2 h
 have lim:s.heap.NoLimit:=e0.mod.nolimit.keeps fun b o e=>(e0.bs b o e).1
 have hloc:∀y∈ps.zip us,scope.names.lookup y.1=some .local:=fun ⟨n,v⟩ hy=>S.par n (Ja hy).1
 refine W.kla_callFunE hr.depth ho rfl S.co S.gen rfl hrec (hb pm ctv _ _ _ _ ?_)
 refine wpAny_newFunctionEnv (fun y hy=>(S.only y hy).1) hloc (fun h' hn hsb=>?_) S.kind
 have hk:∀b o,s.heap.get? b=some o->h'.get? b=some o:=fun b o e=>by
  have hne:b≠s.heap.objs.size:=YJ (Yr e)
  rw[hsb.2 b hne]
  exact Yk _ e
 refine⟨lim.keeps hk,W.kla_codeExpr ?_⟩
 obtain⟨t,ht,hq⟩:=hbody (hr.deeper _)
 have I:=xR (qual:=qual) (f:=f) (cd:= .ref c') (tk:=s.toks+(ps.zip us).length) S hr.hd e0 hl r hc hn hk
 refine Y8 (ht [] _ _ _ _ I hq) (fun u0 s' hs=>?_) fun e s' hs=>hs.elim
 have fin :∀{σ':St}{H':Hp}{v:V}{u:Value},Inv (cxC P w K mg base N qual scope f (.ref c') cl A outer s (lF H (cl.map (·.2)))) [] σ' H' s'->RelV v u->Q v (wD H H' (cl.map (·.2)))->CE outer P w H s Q u s':=by
  intro σ' H' v u J rv q
  have nx:∀b u,H b=some u->(∀φ,u≠ .ext φ)->b∉cl.map (·.2):=fun b u q hn z=>by
   obtain⟨v,e2⟩:=his b z
   rw[q]at e2
   exact hn _ (Yq e2)
  have nn:∀b,H b=none->b∉cl.map (·.2):=fun b q z=>by
   obtain⟨v,e2⟩:=his b z
   rw[q]at e2;cases e2
  have hJ:∀c∈cl.map (·.2),H' c=none:=fun c hm=>by
   obtain⟨p,hp,rfl⟩:=Y1.mp hm
   have q:cl.lookup p.1=some p.2:=lW (by rw[hc.1];exact(List.nodup_append.mp (show (ps++ys).Nodup by rw[<-S.pre];exact S.nd.sublist (List.take_sublist _ _))).2.1) hp
   exact J.freeC p.1 p.2 q
  have un:=J.base
  have un':Un (frs outer) [] (lF H (cl.map (·.2))) H' s.heap s'.heap:=un
  refine⟨v,wD H H' (cl.map (·.2)),J.os,J.bare,⟨fun b o e n hb he=>un'.keep b o e (by rw[dF (nn b n)];exact n) hb he,fun b o e n hb he=>un'.slot b o e (by rw[dF (nn b n)];exact n) hb he,fun b o e n he=>?_,un'.there,fun b xs q=>?_,fun b o u q=>?_,fun b ps' q=>?_⟩,fun b o e=>?_,rv,q⟩
  ·rw[gR (nn b n)]
   exact un'.free b o e (by rw[dF (nn b n)];exact n) he
  ·have hb:=nx b _ q fun φ z=>by cases z
   rw[gR hb]
   exact un'.tups b xs (by rw[dF hb];exact q)
  ·have hb:=nx b _ q fun φ z=>by cases z
   rw[gR hb]
   exact un'.frzs b o u (by rw[dF hb];exact q)
  ·have hb:=nx b _ q fun φ z=>by cases z
   obtain⟨more,e⟩:=un'.tbls b ps' (by rw[dF hb];exact q)
   exact⟨more,by rw[gR hb];exact e⟩
  ·by_cases hb:b∈cl.map (·.2)
   ·rw [a0I hb]at e
    obtain⟨v2,e2⟩:=his b hb
    have hbf:b∉frs outer:=fun z=>by
     have:=e0.frf b z
     rw[e2]at this;cases this
    rw[e2]at e
    cases e
    obtain⟨p,⟨ob,eo⟩,stb⟩:=e0.hok b _ e2
    have kk:∀u,s.heap.get? b=some u->s'.heap.get? b=some u:=fun u q=>un'.keep b u q (mD hb) hbf (by simp)
    exact⟨stb _ _ p kk,⟨ob,kk _ eo⟩,stb⟩
   ·rw [gR hb]at e
    refine(J.hok b o e).stay (fun d u _ q=>q) (fun d q=>?_) fun d xs q=>?_
    ·have hd:d∉cl.map (·.2):=fun z=>by rw[hJ d z]at q;cases q
     rw[gR hd];exact q
    ·have hd:d∉cl.map (·.2):=fun z=>by rw[hJ d z]at q;cases q
     rw[gR hd];exact q
 obtain⟨v,H',J,rv,q⟩:=hs
 exact fin J rv q
def FnE (K:W.Frag)(H:Hp)(f:Addr):Prop:=(∃oc od fd sl,K.lookup f=some ⟨oc,od,.func fd,sl⟩)\/∃φ,H f=some (.ext φ)/\∀h,φ h->W.FnAt f h
theorem FnE.lam {K:W.Frag}{H:Hp}{f c':Addr}{qual:Str}{params:Arguments}{body:Expr}{scope:Scope}{cl:List (Str×Addr)}(h:H f=some (nC f qual params body scope cl c')):FnE K H f:=
 .inr ⟨_,h,fun _ ⟨_,_,e⟩=>⟨_,_,_,_,e⟩⟩
def b1M (K:W.Frag)(spc:Addr->List V->Hp->VK->Prop)(i:Nat)(t:TA):TE:=fun σ H Q=>∃f,σ[i]? =some (some (.ref f))/\FnE K H f/\t σ H fun vs H1=>FnE K H1 f/\spc f vs H1 Q
section
variable {X:Cx}{k i:Nat}{x:Str}{p pos:Pos}{e:Expr}{es:List Expr}{t:TA}{spc:Addr->List V->Hp->VK->Prop}{K:W.Frag}
theorem FnE.at {pins:List (Addr×Obj)}{σ:St}{H:Hp}{s:Shared}{f:Addr}(I:Inv X pins σ H s)(h:FnE X.K H f):W.FnAt f s.heap:=by
 rcases h with ⟨oc,od,fd,sl,e⟩ | ⟨φ,e,z⟩
 ·exact⟨oc,od,fd,sl,I.kIn _ _ e⟩
 ·exact z _ (I.hok _ _ e).1
theorem a4X (F:b0W X.prog X.w X.K X.mg X.base k spc)(hr:dM k X.A)(hv:PE X (.Name x p) (b1H i))(ha:PA X (e::es) t)(hK:X.K=K:=by rfl)(he:starEach (e::es) X.env=(false,eval e X.env)::starEach es X.env:=by rfl)(hpl:(backTo pos (starEach es X.env)).any (·.1)=false:=by rfl) :
  PE X (.Call (.Name x p) (e::es) [] pos) (b1M K spc i t):=by
 subst hK
 intro pins s σ H Q I ⟨f,h1,h2,h3⟩
 refine Xi (thn (hv pins s σ H (fun v H'=>v= .ref f/\H'=H) I ⟨_,h1,rfl,rfl⟩) fun u s1 hz9=>?_)
 obtain⟨v,H1,I1,rv,e1,e2⟩:=hz9
 subst e1 e2
 obtain rfl:u=Value.ref f:=rv
 refine W.callWith_F (h2.at I1) (thn (ha pos pins s1 σ H1 _ I1 h3) fun us s2 ⟨vs,H2,I2,r,h4,h5⟩=>⟨h4.at I2,?_⟩) he hpl
 refine wpAny_call (X5 (F f X.A X.stack s2 H2 us vs Q hr I2.env0 r h5) fun r s' hq=>?_)
 cases r with
 |error e=>exact hq.elim
 | ok fl=>
  cases fl with
  |ret u=>exact I2.after hq
  |next=>exact False.elim hq
  |brk=>exact False.elim hq
  |cont=>exact False.elim hq
end
section
variable {X:Cx}
def b7B (X:Cx)(Q:VK)(fl:Flow)(s':Shared):Prop:=∃u,fl= .ret u/\∃v H',s'.os=X.s₀.os/\AllBare s'.gens/\Un X.fs X.ex X.H₀ H' X.s₀.heap s'.heap/\HOk X.prog X.w H' s'.heap/\RelV v u/\Q v H'
def b7I (C P:Addr)(m iq y:Str)(ip:Arguments)(ib:Expr)(isc:Scope)(pos:Pos)(iy:Nat)(sp:Sp)(ta:TE)(Q:VK):St->Hp->Prop:=fun σ H=>ta σ H fun x H1=>∃a dx fs w,x= .ref a/\H1 a=some (.ins C dx fs)/\fs.lookup m=none/\σ[iy]? =some (some w)/\a2J P pos iq H1/\
 ∀f c c' H2,H1 f=none->H1 c=none->(∀b o,b≠P->H1 b=some o->H2 b=some o)->wF P pos c' H2->(H1 c'=none\/wF P pos c' H1)->H2 c'=some (jB c' iq)->H2 c=some (kO c w)->H2 f=some (nC f iq ip ib isc [(y,c)] c')->sp [.ref a,.ref f] H2 Q fun _ _ _=>False
theorem b2F {C c0 P bm fa:Addr}{fd:FuncData}{ps:List Str}{k iy:Nat}{sp:Sp}{m iq y:Str}{ip:Arguments}{ib:Expr}{isc:Scope}{lpos pos apos p2:Pos}{o:Expr}{ta:TE}{Q:VK}{pl:Sem Bool}(he:PE X o ta)(c:Cls X.K C)(hm:Meth X.K C m fa)(F:fM X.prog X.w X.K X.mg X.base CX0 k fa fd ps sp)(hr:dM k X.A)(hb:Binds X.K fd ps [])
    (hcode:X.env.code= .ref c0) (Cd:W.codeHdIn X.K c0 P=true) (hbm:Bm X.K X.mg bm) (hcl:∀c,X.env.cells.lookup y=some c->closureFor isc X.env=pure [(y,c)]) (hy:X.N[iy]? =some y) (hyc:X.env.scope.names.lookup y=some .cell) (hfn:X.fn y=true) (hdef:defaultsOf ip X.env=([], [])) (hq:X.env.qual++"<lambda>"=iq)
    (hst:starEach [.Lambda ip ib isc lpos] X.env=(false,eval (.Lambda ip ib isc lpos) X.env)::starEach [] X.env:=by rfl)
    (ht:eval (.Call (.Attribute o m apos) [.Lambda ip ib isc lpos] [] pos) X.env=(do
      let ov<-eval o X.env
      standAt apos.atName
      let (f,first)<-holding [ov] (getMethod ov m pl)
      callWith pos f first (backTo pos (starEach [.Lambda ip ib isc lpos] X.env)) (backToKw pos (keywordEach [] X.env))):=by rfl) :
    PF X [.Return (some (.Call (.Attribute o m apos) [.Lambda ip ib isc lpos] [] pos)) p2] (b7I C P m iq y ip ib isc lpos iy sp ta Q) (b7B X Q):=by
  intro pins s σ H I h
  obtain⟨cc,hc⟩:=I.ok.has y (.inl hyc)
  refine wpAny_execs_cons (wpAny_Return_some ?_)
  have lam:PE X (.Lambda ip ib isc lpos) (fun σ H Q=>a2J P lpos iq H/\∀f c' H',H f=none->(∀b o,b≠P->H b=some o->H' b=some o)->wF P lpos c' H'->(H c'=none\/wF P lpos c' H)->H' c'=some (jB c' iq)->H' f=some (nC f iq ip ib isc [(y,cc)] c')->Q (.ref f) H'):=by
    intro pins s σ H Q I ⟨hT,kk⟩
    refine W.kla_eval hdef ?_
    rw[hq]
    exact b3A I hcode Cd hbm hT (hcl cc hc) fun f c' H' s' hf hsm hT' hor hc' hf' J=>⟨.ref f,H',J,rfl,kk f c' H' hf hsm hT' hor hc' hf'⟩
  refine Xx (pl:=pl) (thn (he pins s σ H _ I h) fun u s1 hz1=>?_) ht
  obtain⟨x,H1,I1,rx,a,dx,fs,w,ex,ea,l,hw,hT,q⟩:=hz1
  subst ex
  obtain rfl:u=Value.ref a:=rx
  refine fU I1 ea c hm l ?_
  have hn1:=I1.freeC y cc hc
  refine X6 (first:=[.ref a]) (h₀:=X.base) I.ok.mod.kin hm.kp (thn ((aA lam aD hst) pos pins s1 σ H1 (fun vs H2=>∃f c',vs= [.ref f]/\H1 f=none/\(∀b o,b≠P->H1 b=some o->H2 b=some o)/\wF P lpos c' H2/\(H1 c'=none\/wF P lpos c' H1)/\H2 c'=some (jB c' iq)/\H2 f=some (nC f iq ip ib isc [(y,cc)] c')) I1 ⟨hT,fun f c' H' h1 h2 h3 h3' h4 h5=>⟨f,c',rfl,h1,h2,h3,h3',h4,h5⟩⟩) fun us s2 hz2=>?_) hst rfl
  obtain⟨vs,H2,I2,r,f,c',e1,h1,h2,h3,h3',h4,h5⟩:=hz2
  refine⟨I2.kIn,?_⟩
  subst e1
  have hn2:=I2.freeC y cc hc
  obtain⟨mm,_,hl⟩:=I2.loc
  obtain⟨uv,ru,lk⟩:=hl iy y w hy hw (.inr (.inl hyc))
  have hcell:s2.heap.IsCell cc (some uv):=by
    rcases lk with ⟨hk,_⟩ | ⟨_,c2,hc2,hcell⟩
    · have hk':X.env.scope.names.lookup y=some .local:=hk
      rw[hyc]at hk';cases hk'
    · rw[hc]at hc2
      cases hc2
      exact hcell
  have hco:∃o,s2.heap.get? cc=some o:=by obtain⟨o,ho,_⟩:=hcell;exact⟨o,ho⟩
  have hcs:X.s₀.heap.objs.size<=cc:=I2.ok.cab y cc hfn hc
  obtain⟨H3,hH3⟩:∃H3,H3=upd H2 cc (kO cc w):=⟨_,rfl⟩
  have up:∀b o,H2 b=some o->H3 b=some o:=fun b o z=>by rw[hH3,aK (aQ z hn2)];exact z
  have hok3:HOk X.prog X.w H3 s2.heap:=fun b o z=>by
    by_cases hbc:b=cc
    · subst hbc
      rw[hH3,aB]at z
      cases z
      exact⟨⟨uv,ru,hcell⟩,hco,fun k1 k2 ⟨v1,r1,o1,ho1,hd1⟩ kk=>⟨v1,r1,o1,kk _ ho1,hd1⟩⟩
    · rw[hH3,aK hbc]at z
      exact(I2.hok b o z).stay (fun d u' _ zz=>zz) (fun d zz=>up d _ zz) fun d xs zz=>up d _ zz
  have e0:=I2.env0
  have ltc:∀b,b<X.s₀.heap.objs.size->b≠cc:=fun b z=>YJ (Yf z hcs)
  have e3 :nZ X.prog X.w X.K X.mg X.base X.A X.stack s2 H3:=⟨e0.frames,e0.mod,fun b o z=>⟨(e0.bs b o z).1,by
      rw[hH3,aK (ltc b (Yf (Yr z) I2.ok.bsz))];exact(e0.bs b o z).2⟩,e0.bsz,e0.funs,fun b z=>by
      rw[hH3,aK fun q=>?_]
      · exact e0.frf b z
      · rcases YE.mp (I2.stkSub b z) with e | hb'
        · exact I2.cne y cc hc (q.symm.trans e)
        · obtain⟨_,o,ho,_⟩:=I2.ok.funs.mem hb'
          exact ltc b (Yr ho) q,hok3,e0.bare⟩
  have hspec:=q f cc c' H3 h1 hn1 (fun b o n z=>up b o (h2 b o n z)) (by
    obtain⟨qs,a1,a2,a3⟩:=h3
    exact⟨qs,up _ _ a1,a2,a3⟩) h3' (up _ _ h4) (by rw[hH3,aB]) (up _ _ h5)
  have hl2:((Value.ref a::us)++[]).length=ps.length:=by
    rw[YC,<-(show Vals (.ref a::[.ref f]) (Value.ref a::us) from .cons rfl r).length];exact F.len _ _ _ _ hspec
  have hbd:=hb s2 (.ref a::us) I2.kIn hl2
  rw[YC]at hbd
  refine wpAny_call (X5 (F.run X.A X.stack s2 H3 ⟨.ref a::us, []⟩ (.ref a::us) [.ref a,.ref f] Q _ hr e3 hbd (.cons rfl r) hspec) fun r s' hq'=>?_)
  cases r with
  |error e=>exact hq'.elim
  | ok fl =>
    cases fl with
    |next=>exact False.elim hq'
    |brk=>exact False.elim hq'
    |cont=>exact False.elim hq'
    | ret u=>
      obtain⟨v,H',os,bare,un,hok,rv,qq⟩:=hq'
      have b0:=I2.base
      have h30:∀b ob,X.s₀.heap.get? b=some ob->H2 b=none->H3 b=none:=fun b ob z n=>by
        rw[hH3,aK (ltc b (Yr z))];exact n
      have nst:∀b ob,X.s₀.heap.get? b=some ob->b∉X.fs->b∉frs X.stack:=fun b ob z n hb'=>by
        rcases YE.mp (I2.stkSub b hb') with e | hb''
        · have:=I2.ok.above
          rw[<-e]at this
          exact absurd (Yr z) (Nat.not_lt.mpr this)
        · exact n hb''
      refine⟨u,rfl,v,H',os.trans I2.os,bare,⟨fun b ob z n hb' hx=>?_,fun b ob z n hb' hx=>?_,fun b ob z n hx=>?_,fun b ob z hx=>?_,fun b xs z=>?_,fun b ob uu z=>?_,fun b qs z=>?_⟩,hok,rv,qq⟩
      · exact un.keep b ob (b0.keep b ob z n hb' hx) (h30 b ob z (b0.free b ob z n hx)) (nst b ob z hb') (by simp)
      · obtain⟨sl,e1⟩:=b0.slot b ob z n hb' hx
        obtain⟨sl',e2⟩:=un.any e1 (h30 b ob z (b0.free b ob z n hx)) (by simp)
        exact⟨sl',e2⟩
      · obtain⟨o',e1⟩:=b0.there b ob z hx
        exact un.free b o' e1 (h30 b ob z (b0.free b ob z n hx)) (by simp)
      · obtain⟨o',e1⟩:=b0.there b ob z hx
        exact un.there b o' e1 (by simp)
      · exact un.tups b xs (up _ _ (b0.tups b xs z))
      · exact un.frzs b ob uu (up _ _ (b0.frzs b ob uu z))
      · obtain⟨m1,z1⟩:=b0.tbls b qs z
        obtain⟨m2,z2⟩:=un.tbls b _ (up _ _ z1)
        exact⟨m1++m2,by rw[z2,Jg]⟩
end
theorem Fun.okL {CX:CXT}{P:Program}{w:World}{K:W.Frag}{mg:Str->Option Value}{base:Heap}{x qual:Str}{st:Stmt}{f c0:Addr}{fd:FuncData}{N ps:List Str}{k:Nat}{sp:Sp}(F:Fun K x qual st f fd)(hcode:fd.code= .ref c0)(S:gK N ps (bM st))(len:∀vs H Q E,sp vs H Q E->vs.length=ps.length)
  (hbody:∀(A:Around)(outer:List Env)(s:Shared)(H:Hp)(vs:List V)(Q:VK)(E:XK),dM k (A.deeper (envOfC qual (bM st) s.heap.objs.size f (.ref c0)))->sp vs H Q E->
   ∃u,PF (cY CX P w K mg base N qual (bM st) f (.ref c0) A outer s H E) (gJ st) u (b7B (cY CX P w K mg base N qual (bM st) f (.ref c0) A outer s H E) Q)/\u (start N vs) H):fM P w K mg base CX (k+1) f fd ps sp:=by
 obtain⟨oc,od,kV,doc,pm,an,cdv,ct,osl,rfl,lk,hcd⟩:=F.ex
 have hcv:cdv= .ref c0:=hcode
 subst hcv
 refine⟨len,fun A outer s H args us vs Q E hr e0 hb r hsp=>?_⟩
 have hl:=len _ _ _ _ hsp
 have KX:K.In s.heap:=e0.mod.kin.keeps fun b o e=>(e0.bs b o e).1
 have lim:s.heap.NoLimit:=e0.mod.nolimit.keeps fun b o e=>(e0.bs b o e).1
 refine codeAny_call_function hr.depth (KX _ _ lk) rfl S.co S.gen rfl (W.codeRec_of KX hcd) (hb _ _ _ _ ?_)
 refine wpAny_newFunctionEnv_cells S.kind (fun ⟨n,v⟩ hy=>by
  rcases S.par n (Ja hy).1 with q | q
  ·exact .inl q
  ·exact .inr ⟨q,W.cellsFrom_some _ _ _ (.inl q)⟩) fun env he s1 xx=>?_
 subst he
 refine⟨lim.keeps xx.toInCall.keep,codeAny_func ?_⟩
 obtain⟨u,hu,hq⟩:=hbody A outer s H vs Q E (hr.deeper _) hsp
 have I:Inv (cY CX P w K mg base N qual (bM st) f (.ref c0) A outer s H E) [] (start N vs) H s1:=sG S hr.hd e0 hl r xx
 refine Y8 (hu [] s1 (start N vs) H I hq) (fun fl s' hs=>?_) fun e s' hs=>hs
 obtain⟨v,rfl,v',H',os,bare,un,hok,rv,q⟩:=hs
 exact⟨v',H',os,bare,un,hok,rv,q⟩
end L2
namespace Bm
def kE (n j:Nat):Int:=if n.testBit j then 1 else 0
def bY (n m:Nat):List Int:=(List.range m).map fun i=>kE n (m-1-i)
def jH (bs:List Int):Int:=bs.foldl (fun x b=>x*2+b) 0
def bG (bs:List Int):Prop:=∀b∈bs,b=0\/b=1
theorem a9S (n j:Nat):kE n j=0\/kE n j=1:=by unfold kE;split <;> simp
theorem gD (n m:Nat):bG (bY n m):=fun b hb=>by
 obtain⟨i,_,rfl⟩:=Y1.mp hb
 exact a9S _ _
theorem cC (n m:Nat):(bY n m).length=m:=by unfold bY;rw[Ya,Xk]
theorem sJ {n m k:Nat}(h:k<(bY n m).length):(bY n m)[k]=kE n (m-1-k):=by simp[bY]
theorem a6H (n j:Nat):((n / 2 ^ j:Nat):Int)=((n / 2 ^ (j+1):Nat):Int)*2+kE n j:=by
 have e:n / 2 ^ (j+1)=n / 2 ^ j / 2:=by rw[XM,Nat.div_div_eq_div_mul]
 unfold kE
 rw[YY,e]
 generalize n / 2 ^ j=q
 by_cases h:q % 2=1
 ·rw[Yl h,if_pos rfl];omega
 ·rw[Yu h,if_neg (by decide)];omega
theorem a5E:jH []=0:=rfl
theorem nH (l:List Int)(b:Int):jH (l++[b])=jH l*2+b:=by
 unfold jH;rw[Xu];rfl
theorem a1J (l:List Int):∀x:Int,l.foldl (fun x b=>x*2+b) x=x*2 ^ l.length+jH l:=by
 induction l with
 |nil=>intro x;simp[jH]
 | cons b r ih=>
  intro x
  unfold jH
  rw[Y3,Y3,ih,ih,YN,Int.pow_succ]
  have:(x*2+b)*2 ^ r.length=x*(2 ^ r.length*2)+b*2 ^ r.length:=by
   rw[Int.add_mul,Int.mul_assoc,Int.mul_comm 2 (2 ^ r.length)]
  rw[this]
  simp only[Int.zero_mul,Xn]
  omega
theorem rQ (b:Int)(l:List Int):jH (b::l)=b*2 ^ l.length+jH l:=by
 show (b::l).foldl _ 0=_
 rw[Y3,a1J];simp
theorem tW {l:List Int}(h:bG l):0<=jH l/\jH l<2 ^ l.length:=by
 induction l with
 |nil=>exact⟨Int.le_refl _,by decide⟩
 | cons b r ih=>
  have:=ih fun z hz=>h z (Ys _ hz)
  rw[rQ,YN,Int.pow_succ]
  have p:(0:Int)<2 ^ r.length:=Int.pow_pos (by decide)
  rcases h b YD with rfl | rfl
  ·omega
  ·omega
theorem a5C (n m:Nat)(hn:n<2 ^ m):∀k,k<=m->jH ((bY n m).take k)=((n / 2 ^ (m-k):Nat):Int):=by
 intro k
 induction k with
 | zero=>
  intro _
  rw[Ji,a5E,Nat.sub_zero,Nat.div_eq_of_lt hn];rfl
 | succ k ih=>
  intro hk
  have hl:k<(bY n m).length:=by rw[cC];omega
  rw[Yh hl,nH,ih (by omega)]
  have e1:(bY n m)[k]=kE n (m-1-k):=sJ hl
  rw[e1]
  have e2:m-k=(m-1-k)+1:=by omega
  have e3:m-(k+1)=m-1-k:=by omega
  rw[e2,e3,a6H n (m-1-k)]
theorem a5D {n m:Nat}(hn:n<2 ^ m):jH (bY n m)=(n:Int):=by
 have h:=a5C n m hn m (Yd _)
 rw[Ym (by rw[cC];exact Yd _),XO,Nat.pow_zero,Nat.div_one]at h
 exact h
def left (n m k:Nat):Int:=((n / 2 ^ (m-k)*2 ^ (m-k):Nat):Int)
end Bm
namespace Rn
open Bm
def Win (l:List Int)(a n:Nat):Prop:=a+n<=l.length/\∀i j,a<=i->i<a+n->a<=j->j<a+n->l.getD i 0=l.getD j 0
structure b8Y (l:List Int)(k:Nat)(longest run:Nat):Prop where
 le:longest<=k
 rle:run<=k
 rpos:0<k->0<run
 hit:∃a,a+longest<=k/\Win l a longest
 most:∀a n,a+n<=k->Win l a n->n<=longest
 tail:Win l (k-run) run
 tmost:∀n,n<=k->Win l (k-n) n->n<=run
theorem pO {l:List Int}(h:bG l):0<=l.sum/\l.sum<=l.length:=by
 induction l with
 |nil=>exact⟨Int.le_refl _,Int.le_refl _⟩
 | cons b r ih=>
  have:=ih fun z hz=>h z (Ys _ hz)
  rw[X4,YN]
  rcases h b YD with rfl | rfl <;> omega
theorem uP {l:List Int}(h:bG l)(e:l.sum=0):∀b∈l,b=0:=by
 induction l with
 |nil=>intro b hb;cases hb
 | cons c r ih=>
  have hr:bG r:=fun z hz=>h z (Ys _ hz)
  have s:=pO hr
  rw[X4]at e
  intro b hb
  rcases h c YD with rfl | rfl
  ·rcases YE.mp hb with rfl | hb
   ·rfl
   ·exact ih hr (by omega) b hb
  ·omega
theorem uQ {l:List Int}(h:bG l)(e:l.sum=l.length):∀b∈l,b=1:=by
 induction l with
 |nil=>intro b hb;cases hb
 | cons c r ih=>
  have hr:bG r:=fun z hz=>h z (Ys _ hz)
  have s:=pO hr
  rw[X4,YN]at e
  intro b hb
  rcases h c YD with rfl | rfl
  ·omega
  ·rcases YE.mp hb with rfl | hb
   ·rfl
   ·exact ih hr (by omega) b hb
theorem a0R {c:Int}{l:List Int}(h:∀b∈l,b=c):l.sum=c*l.length:=by
 induction l with
 |nil=>simp
 | cons b r ih=>
  rw[X4,ih fun z hz=>h z (Ys _ hz),h b YD,YN]
  have:((r.length+1:Nat):Int)=(r.length:Int)+1:=by omega
  rw[this,Int.mul_add,Int.mul_one];omega
theorem a0F {l:List Int}{a n i:Nat}(h:i<n)(ha:a+n<=l.length):((l.drop a).take n).getD i 0=l.getD (a+i) 0:=by
 rw[Yg,Yg,Xw h,List.getElem?_drop]
theorem mQ {l:List Int}{a n:Nat}(ha:a+n<=l.length):((l.drop a).take n).length=n:=by
 rw[Yo,YU];omega
theorem a9A {l:List Int}{a n:Nat}{b:Int}(ha:a+n<=l.length)(h:b∈(l.drop a).take n):∃i,i<n/\b=l.getD (a+i) 0:=by
 obtain⟨i,hi,e⟩:=List.mem_iff_getElem.mp h
 have hi':i<n:=by rw[mQ ha]at hi;exact hi
 refine⟨i,hi',?_⟩
 rw[<-a0F hi' ha,Yg,Yb hi,<-e];rfl
theorem a7C {l:List Int}(hb:bG l){a n:Nat}(hn:0<n)(ha:a+n<=l.length):((l.drop a).take n).sum % (n:Int)=0↔Win l a n:=by
 have hc:bG ((l.drop a).take n):=fun b h=>hb b (X8 (Xf h))
 have s:=pO hc
 rw[mQ ha]at s
 constructor
 ·intro h
  have:((l.drop a).take n).sum=0\/((l.drop a).take n).sum=n:=by
   by_cases z:((l.drop a).take n).sum=n
   ·exact .inr z
   ·rw[Int.emod_eq_of_lt s.1 (by omega)]at h;exact .inl h
  refine⟨ha,fun i j i1 i2 j1 j2=>?_⟩
  have gi:∀k,a<=k->k<a+n->l.getD k 0∈(l.drop a).take n:=fun k k1 k2=>by
   have h1:k-a<((l.drop a).take n).length:=by rw[mQ ha];omega
   have e:=a0F (l:=l) (a:=a) (n:=n) (i:=k-a) (by omega) ha
   have e2:a+(k-a)=k:=by omega
   rw[e2,Yg,Yb h1]at e
   rw[<-e];exact YL h1
  rcases this with e | e
  ·rw[uP hc e _ (gi i i1 i2),uP hc e _ (gi j j1 j2)]
  ·have e':((l.drop a).take n).sum=((l.drop a).take n).length:=by rw[mQ ha];exact e
   rw[uQ hc e' _ (gi i i1 i2),uQ hc e' _ (gi j j1 j2)]
 ·intro h
  have:∀b∈(l.drop a).take n,b=l.getD a 0:=fun b hm=>by
   obtain⟨i,hi,rfl⟩:=a9A ha hm
   exact h.2 (a+i) a (by omega) (by omega) (by omega) (by omega)
  rw[a0R this,mQ ha]
  exact Int.mul_emod_left _ _
end Rn
namespace Cl
def xs:Nat->(Nat->Nat)->Nat
 |0,_=>0
 |n+1,f=>xs n f ^^^ f n
theorem xs_congr {n:Nat}{f g:Nat->Nat}(h:∀k,k<n->f k=g k):xs n f=xs n g:=by
 induction n with
 |zero=>rfl
 | succ n ih=>
  show xs n f ^^^ f n=xs n g ^^^ g n
  rw[ih (fun k hk=>h k (by omega)),h n (by omega)]
theorem xs_zero {n:Nat}{f:Nat->Nat}(h:∀k,k<n->f k=0):xs n f=0:=by
 induction n with
 |zero=>rfl
 | succ n ih=>
  show xs n f ^^^ f n=0
  rw[ih (fun k hk=>h k (by omega)),h n (by omega)];rfl
theorem xor4 (a b c d:Nat):(a ^^^ b) ^^^ (c ^^^ d)=(a ^^^ c) ^^^ (b ^^^ d):=by
 rw[Xo,<-Xo b c d,XY b c,Xo c b d,<-Xo]
theorem xs_xor {n:Nat}{f g:Nat->Nat}:xs n (fun k=>f k ^^^ g k)=xs n f ^^^ xs n g:=by
 induction n with
 |zero=>exact(Xv 0).symm
 | succ n ih=>
  show xs n (fun k=>f k ^^^ g k) ^^^ (f n ^^^ g n)=(xs n f ^^^ f n) ^^^ (xs n g ^^^ g n)
  rw[ih,xor4]
theorem xs_more {n m:Nat}{f:Nat->Nat}(hnm:n<=m)(h:∀k,n<=k->k<m->f k=0):xs m f=xs n f:=by
  induction m with
  | zero => have:n=0:=by omega
            subst this;rfl
  | succ m ih=>
    by_cases e:n=m+1
    · subst e;rfl
    · show xs m f ^^^ f m=xs n f
      rw[ih (by omega) (fun k h1 h2=>h k h1 (by omega)),h m (by omega) (by omega)]
      exact Xv _
def pw (a b k:Nat):Nat:=if b.testBit k then a <<< k else 0
def cl (n a b:Nat):Nat:=xs n (pw a b)
theorem self {n:Nat}:∀{a:Nat},a<2 ^ n->a=xs n (fun j=>if a.testBit j then 1 <<< j else 0):=by
  induction n with
  | zero => intro a h;have:a=0:=by simpa using h
            subst this;rfl
  | succ n ih=>
    intro a h
    show a=xs n (fun j=>if a.testBit j then 1 <<< j else 0) ^^^ (if a.testBit n then 1 <<< n else 0)
    have hlow:a % 2 ^ n<2 ^ n:=Nat.mod_lt _ (XU n)
    have e1:xs n (fun j=>if a.testBit j then 1 <<< j else 0)=xs n (fun j=>if (a % 2 ^ n).testBit j then 1 <<< j else 0):=by
      refine xs_congr fun k hk=>?_
      rw[Nat.testBit_mod_two_pow]
      simp[hk]
    rw[e1,<-ih hlow]
    apply Nat.eq_of_testBit_eq
    intro i
    rw[XB,Nat.testBit_mod_two_pow]
    by_cases hi:i<n
    · have e2:(if a.testBit n=true then 1 <<< n else 0).testBit i=false:=by
        split
        · rw[X1];simp;omega
        · simp
      rw[e2];simp[hi]
    · by_cases hin:i=n
      · subst hin
        cases hb:a.testBit i with
        |true=>simp[X1]
        |false=>simp
      · have hgt:a.testBit i=false:=Y6 (Yf h (Yw (by decide) (by omega)))
        have e2:(if a.testBit n=true then 1 <<< n else 0).testBit i=false:=by
          split
          · rw[X1]
            have h1:(1:Nat).testBit (i-n)=false:=Y6 (Yf (by decide:1<2 ^ 1) (Yw (by decide) (by omega)))
            rw[h1,Bool.and_false]
          · simp
        rw[e2,hgt];simp[hi]
theorem xs_lt {n m:Nat}{f:Nat->Nat}(h:∀k,k<n->f k<2 ^ m):xs n f<2 ^ m:=by
 induction n with
 |zero=>exact XU m
 |succ n ih=>exact Jj (ih fun k hk=>h k (by omega)) (h n (by omega))
end Cl
namespace Rm
open Bm
theorem b1C {a b n:Nat}(ha:a<2 ^ (n+1))(hb:b<2 ^ (n+1))(ha':2 ^ n<=a)(hb':2 ^ n<=b):a ^^^ b<2 ^ n:=by
 apply Nat.lt_pow_two_of_testBit
 intro i hi
 rw[XB]
 by_cases e:i=n
 ·subst e
  have h1:a.testBit i=true:=by
   rw[YY]
   have:a / 2 ^ i=1:=by
    apply Jc
    ·simpa using ha'
    ·rw[XM]at ha;omega
   rw[this];rfl
  have h2:b.testBit i=true:=by
   rw[YY]
   have:b / 2 ^ i=1:=by
    apply Jc
    ·simpa using hb'
    ·rw[XM]at hb;omega
   rw[this];rfl
  rw[h1,h2];rfl
 ·have h1:a.testBit i=false:=Y6 (Yf ha (Yw (by decide) (by omega)))
  have h2:b.testBit i=false:=Y6 (Yf hb (Yw (by decide) (by omega)))
  rw[h1,h2];rfl
def nx (r:Nat):Nat:=if 32768<=2*r then (2*r) ^^^ 64647 else 2*r
def rr:Nat->Nat
 |0=>1
 |k+1=>nx (rr k)
theorem a5B {r:Nat}(h:r<32768):nx r<32768:=by
 unfold nx
 split
 ·exact b1C (n:=15) (by omega) (by decide) (by omega) (by decide)
 ·omega
theorem a4H:∀k,rr k<32768
 |0=>by decide
 |k+1=>a5B (a4H k)
theorem tV:nx 0=0:=by decide
theorem a7E (a b:Nat):2*(a ^^^ b)=2*a ^^^ 2*b:=by
 have h:(a ^^^ b) <<< 1=a <<< 1 ^^^ b <<< 1:=Nat.shiftLeft_xor_distrib
 have e:∀z:Nat,z <<< 1=2*z:=fun z=>by rw[Xe];omega
 rw[e,e,e]at h
 exact h
theorem b0D {a:Nat}(h:a<32768):32768<=2*a↔a.testBit 14=true:=by
 rw[YY,decide_eq_true_iff]
 show _↔a / 16384 % 2=1
 omega
theorem zH {a:Nat}(h:a<32768):nx a=2*a ^^^ (if a.testBit 14=true then 64647 else 0):=by
 unfold nx
 by_cases c:a.testBit 14=true
 ·rw[if_pos c,if_pos ((b0D h).mpr c)]
 ·rw[if_neg c,if_neg fun z=>c ((b0D h).mp z),Xv]
theorem a5A {a b:Nat}(ha:a<32768)(hb:b<32768):nx (a ^^^ b)=nx a ^^^ nx b:=by
 have hab:a ^^^ b<32768:=Jj (n:=15) ha hb
 rw[zH ha,zH hb,zH hab,Cl.xor4,a7E,XB]
 cases a.testBit 14 <;> cases b.testBit 14 <;> rfl
def tm (n k:Nat):Nat:=if n.testBit k then rr k else 0
def R (n:Nat):Nat:=Cl.xs 600 (tm n)
theorem b0E (n k:Nat):tm n k<32768:=by unfold tm;split;exact a4H k;decide
theorem b8Z (n:Nat):R n<32768:=Cl.xs_lt (m:=15) fun k _=>b0E n k
theorem b6Y (a b:Nat):R (a ^^^ b)=R a ^^^ R b:=by
 unfold R
 rw[<-Cl.xs_xor]
 refine Cl.xs_congr fun k _=>?_
 unfold tm
 rw[XB]
 cases a.testBit k <;> cases b.testBit k <;> simp
theorem b4L:R 0=0:=Cl.xs_zero fun k _=>by unfold tm;rw[Nat.zero_testBit];rfl
theorem a4G:∀k,k<15->rr k=1 <<< k:=by decide
theorem pJ {r:Nat}(h:r<32768):R r=r:=by
 unfold R
 have e:Cl.xs 600 (tm r)=Cl.xs 15 (tm r):=Cl.xs_more (by decide) fun k h1 _=>by
  unfold tm
  rw[Y6 (Yf h (Yw (n:=2) (i:=15) (by decide) h1))];rfl
 rw[e]
 have s:=Cl.self (n:=15) h
 conv=>rhs;rw[s]
 refine Cl.xs_congr fun k hk=>?_
 unfold tm
 rw[a4G k hk]
theorem b5R {n:Nat}{f:Nat->Nat}(h:∀k,f k<32768):nx (Cl.xs n f)=Cl.xs n fun k=>nx (f k):=by
 induction n with
 |zero=>exact tV
 | succ n ih=>
  show nx (Cl.xs n f ^^^ f n)=_ ^^^ _
  rw[a5A (Cl.xs_lt (m:=15) fun k _=>h k) (h n),ih]
theorem a2R {n:Nat}{f:Nat->Nat}:Cl.xs (n+1) f=f 0 ^^^ Cl.xs n fun k=>f (k+1):=by
 induction n with
 |zero=>show 0 ^^^ f 0=f 0 ^^^ 0;rw[Je,Xv]
 | succ n ih=>
  show Cl.xs (n+1) f ^^^ f (n+1)=f 0 ^^^ (Cl.xs n (fun k=>f (k+1)) ^^^ f (n+1))
  rw[ih,Xo]
theorem tb2 (n b k:Nat)(hb:b<2):(2*n+b).testBit (k+1)=n.testBit k:=by
 rw[Nat.testBit_succ]
 congr 1;omega
theorem b4T (n b:Nat)(hb:b<2):(2*n+b).testBit 0=decide (b=1):=by
 rw[Nat.testBit_zero]
 congr 1
 have:(2*n+b) % 2=b:=by omega
 rw[this]
theorem yH {n b:Nat}(hn:n<2 ^ 599)(hb:b<2):R (2*n+b)=nx (R n) ^^^ b:=by
 unfold R
 have e:Cl.xs 600 (tm n)=Cl.xs 599 (tm n):=Cl.xs_more (by decide) fun k h1 _=>by
  unfold tm
  rw[Y6 (Yf hn (Yw (by decide) h1))];rfl
 rw[e,b5R (b0E n),a2R,XY]
 congr 1
 ·refine Cl.xs_congr fun k _=>?_
  unfold tm
  rw[tb2 n b k hb]
  cases n.testBit k
  ·exact tV.symm
  ·rfl
 ·unfold tm
  rw[b4T n b hb]
  have:b=0\/b=1:=by omega
  rcases this with rfl | rfl <;> rfl
theorem b6Z {n:Nat}(hn:n<2 ^ 599):R (2*n)=nx (R n):=by
 have:=yH hn (b:=0) (by decide)
 rwa [Jf,Xv]at this
theorem b7A:∀p,p<=500->R (64647 <<< p)=0:=by
 intro p
 induction p with
 | zero=>
  intro _
  have e:(64647:Nat) <<< 0=2*32323+1:=by decide
  rw[e,yH (Yf (m:=2 ^ 15) (by decide) (Yw (by decide) (by decide))) (by decide),pJ (by decide)]
  decide
 | succ p ih=>
  intro hp
  have e:(64647:Nat) <<< (p+1)=2*64647 <<< p:=by rw[Xe,Xe,XM];omega
  rw[e,b6Z,ih (by omega)]
  ·exact tV
  ·rw[Xe]
   have:(64647:Nat)*2 ^ p<2 ^ 16*2 ^ p:=Nat.mul_lt_mul_of_pos_right (by decide) (XU p)
   rw[<-Nat.pow_add]at this
   exact Yf this (Yw (by decide) (by omega))
theorem a6W {r p:Nat}(hp:p<=500):R (r ^^^ 64647 <<< p)=R r:=by
 rw[b6Y,b7A p hp,Xv]
def nm (bs:List Int):Nat:=(jH bs).toNat
theorem oZ {bs:List Int}(h:bG bs):((nm bs:Nat):Int)=jH bs:=Int.toNat_of_nonneg (tW h).1
theorem jU {bs:List Int}(h:bG bs):nm bs<2 ^ bs.length:=by
 have h1:=(tW h).2
 have h2:=oZ h
 have:((nm bs:Nat):Int)<((2 ^ bs.length:Nat):Int):=by rw[h2];simpa using h1
 exact_mod_cast this
theorem lU {bs:List Int}{b:Int}(h:bG bs)(hb:b=0\/b=1):nm (bs++[b])=2*nm bs+b.toNat:=by
 have h1:=oZ h
 have h2:bG (bs++[b]):=fun z hz=>by
  rcases YA.mp hz with q | q
  ·exact h z q
  ·rw[Yj.mp q];exact hb
 have h3:=oZ h2
 rw[nH]at h3
 rcases hb with rfl | rfl <;> (simp only[Int.toNat_zero,Int.toNat_one];omega)
def rst (bs:List Int):Nat:=R (nm bs)
theorem xG (bs:List Int):rst bs<32768:=b8Z _
theorem a7Z:rst []=0:=b4L
theorem a4F {bs:List Int}{b:Int}(h:bG bs)(hl:bs.length<=500)(hb:b=0\/b=1):rst (bs++[b])=nx (rst bs) ^^^ b.toNat:=by
 unfold rst
 rw[lU h hb]
 refine yH (Yf (jU h) (Yw (by decide) (by omega))) ?_
 rcases hb with rfl | rfl <;> decide
end Rm
namespace Rm
open Bm
def tab:List Nat:=[1,2,4,8,16,32,64,128,256,512,1024,2048,4096,8192,16384,31879,1417,2834,5668,11336,22672,19879,26569,13077,26154,12499,24998,16331,32662,939,1878,3756,7512,15024,30048,5703,11406,22812,20159,25081,16245,32490,339,678,1356,2712,5424,10848,21696,21767,22153,20885,24493,17373,31549,2813,5626,11252,22504,21335,23081,18645,27949,9949,19898,26611,13153,26306,12547,25094,14475,28950,7851,15702,31404,2527,5054,10108,20216,24951,15977,31954,1315,2630,5260,10520,21040,22759,19785,26133,12461,24922,15923,31846,1099,2198,4396,8792,17584,30183,5961,11922,23844,18127,28953,7861,15722,31444,2351,4702,9404,18808,28279,8297,16594,32035,1729,3458,6916,13832,27664,9383,18766,28187,8369,16738,32323]
theorem b1F:tab=(List.range 127).map rr:=by decide +kernel
def prs:List Nat->List Nat
 |[]=>[]
 |x::r=>r.map (fun y=>x ^^^ y)++prs r
def chk:List Nat->Nat->Bool
 |[],_=>true
 |x::r,0=>chk r (1 <<< x)
 |x::r,k+1=>if (k+1).testBit x then false else chk r ((k+1) ||| 1 <<< x)
theorem b4D:∀(l:List Nat)(m:Nat),chk l m=true->l.Nodup/\∀x∈l,m.testBit x=false:=by
 intro l
 induction l with
 |nil=>intro m _;exact⟨Jk,fun x hx=>nomatch hx⟩
 | cons x r ih=>
  have key:∀m,m.testBit x=false->chk r (m ||| 1 <<< x)=true->(x::r).Nodup/\∀y∈x::r,m.testBit y=false:=by
   intro m hm h
   obtain⟨h1,h2⟩:=ih _ h
   refine⟨YX.mpr ⟨fun hx=>?_,h1⟩,fun y hy=>?_⟩
   ·have:=h2 x hx
    rw[Nat.testBit_or,Nat.one_shiftLeft,Nat.testBit_two_pow,Yl rfl,Bool.or_true]at this
    cases this
   ·rcases YE.mp hy with rfl | hy
    ·exact hm
    ·have:=h2 y hy
     rw[Nat.testBit_or,Bool.or_eq_false_iff]at this
     exact this.1
  intro m h
  cases m with
  | zero=>
   refine key 0 (Nat.zero_testBit x) ?_
   rw[Nat.zero_or];exact h
  | succ k=>
   have h':(if (k+1).testBit x then false else chk r ((k+1) ||| 1 <<< x))=true:=h
   by_cases c:(k+1).testBit x=true
   ·rw[if_pos c]at h';cases h'
   ·rw[if_neg c]at h'
    exact key (k+1) (by simpa using c) h'
theorem a1E:(prs tab).Nodup:=(b4D _ 0 (by decide +kernel)).1
theorem tO:∀(l:List Nat)(i j:Nat)(hi:i<j)(hj:j<l.length),(l[i]'(by omega)) ^^^ l[j]∈prs l
 |[],_,_,_,hj=>by cases hj
 |x::r,0,j+1,_,hj=>YA.mpr (.inl (Y1.mpr ⟨_,YL (by simpa using hj),rfl⟩))
 |x::r,i+1,j+1,hi,hj=>YA.mpr (.inr (tO r i j (by omega) (by simpa using hj)))
theorem a8H:∀(l:List Nat),(prs l).Nodup->∀(i j k m:Nat)(hi:i<j)(hj:j<l.length)(hk:k<m)(hm:m<l.length),(l[i]'(by omega)) ^^^ l[j]=(l[k]'(by omega)) ^^^ l[m]->i=k/\j=m:=by
 intro l
 induction l with
 |nil=>intro _ i j k m _ hj;cases hj
 | cons x r ih=>
  intro nd i j k m hi hj hk hm e
  obtain⟨n1,n2,n3⟩:=List.nodup_append.mp nd
  match i,j,k,m,hi,hj,hk,hm,e with
  | 0, j+1,0,m+1,_,hj,_,hm,e=>
   refine⟨rfl,?_⟩
   have hj':j<r.length:=by simpa using hj
   have hm':m<r.length:=by simpa using hm
   have e':(r.map (fun y=>x ^^^ y))[j]'(by rw[Ya];exact hj')=(r.map (fun y=>x ^^^ y))[m]'(by rw[Ya];exact hm'):=by
    rw[Xz,Xz];exact e
   have:=(List.getElem_inj n1).mp e'
   omega
  | 0,j+1,k+1,m+1,_,hj,hk,hm,e=>
   exact absurd e (n3 _ (Y1.mpr ⟨_,YL (by simpa using hj),rfl⟩) _ (tO r k m (by omega) (by simpa using hm)))
  | i+1,j+1,0,m+1,hi,hj,_,hm,e=>
   exact absurd e.symm (n3 _ (Y1.mpr ⟨_,YL (by simpa using hm),rfl⟩) _ (tO r i j (by omega) (by simpa using hj)))
  | i+1,j+1,k+1,m+1,hi,hj,hk,hm,e=>
   have:=ih n2 i j k m (by omega) (by simpa using hj) (by omega) (by simpa using hm) e
   omega
theorem tG:tab.length=127:=by decide
theorem oU {i:Nat}(h:i<127):tab[i]'(by rw[tG];exact h)=rr i:=by
 have:∀(l:List Nat)(e:l=(List.range 127).map rr)(hl:i<l.length),l[i]=rr i:=by
  intro l e hl
  subst e
  rw[Xz,List.getElem_range]
 exact this tab b1F _
theorem oO {a b c d:Nat}(hab:a<b)(hb:b<127)(hcd:c<d)(hd:d<127)(e:rr a ^^^ rr b=rr c ^^^ rr d):a=c/\b=d:=by
 rw[<-oU (i:=a) (by omega),<-oU hb,<-oU (i:=c) (by omega),<-oU hd]at e
 exact a8H tab a1E a b c d hab (by rw[tG];exact hb) hcd (by rw[tG];exact hd) e
theorem uN {a b c d:Nat}(hab:a≠b)(ha:a<127)(hb:b<127)(hcd:c≠d)(hc:c<127)(hd:d<127)(e:rr a ^^^ rr b=rr c ^^^ rr d):(a=c/\b=d)\/(a=d/\b=c):=by
 by_cases h1:a<b
 ·by_cases h2:c<d
  ·exact .inl (oO h1 hb h2 hd e)
  ·exact .inr (oO h1 hb (c:=d) (d:=c) (by omega) hc (by rw[e,XY]))
 ·by_cases h2:c<d
  ·have:=oO (a:=b) (b:=a) (by omega) ha h2 hd (by rw[<-e,XY])
   exact .inr ⟨this.2,this.1⟩
  ·have:=oO (a:=b) (b:=a) (c:=d) (d:=c) (by omega) ha (by omega) hc (by rw[XY,e,XY])
   exact .inl ⟨this.2,this.1⟩
def par (n:Nat):Bool:=(List.range 15).foldl (fun z k=>z ^^ n.testBit k) false
theorem a4Z (l:List Nat)(a b:Nat):∀x y:Bool,l.foldl (fun z k=>z ^^ (a ^^^ b).testBit k) (x ^^ y)=(l.foldl (fun z k=>z ^^ a.testBit k) x ^^ l.foldl (fun z k=>z ^^ b.testBit k) y):=by
 induction l with
 |nil=>intro x y;rfl
 | cons k r ih=>
  intro x y
  rw[Y3,Y3,Y3,<-ih]
  congr 1
  rw[XB]
  cases x <;> cases y <;> cases a.testBit k <;> cases b.testBit k <;> rfl
theorem yZ (a b:Nat):par (a ^^^ b)=(par a ^^ par b):=a4Z _ a b false false
theorem b2K:∀k,par (rr k)=true:=by
 intro k
 induction k with
 |zero=>decide
 | succ k ih=>
  show par (nx (rr k))=true
  have h :∀r,r<32768->par (nx r)=par r:=by
   intro r hr
   rw[zH hr]
   have e:par (2*r ^^^ if r.testBit 14=true then 64647 else 0)=par r:=by
    have e2:∀j,(2*r).testBit (j+1)=r.testBit j:=fun j=>by have:=tb2 r 0 j (by decide);rwa [Jf]at this
    have e3:(2*r).testBit 0=false:=by have:=b4T r 0 (by decide);rwa [Jf]at this
    rw[yZ]
    have p1:par (2*r)=(par r ^^ r.testBit 14):=by
     unfold par
     simp only[List.range,List.range.loop,Y3,List.foldl_nil,e2,e3]
     simp only[Bool.false_xor,Bool.xor_assoc]
     cases r.testBit 14 <;> simp
    rw[p1]
    cases r.testBit 14
    ·have:par (if false=true then 64647 else 0)=false:=by decide
     rw[this];cases par r <;> rfl
    ·have:par (if true=true then 64647 else 0)=true:=by decide
     rw[this];cases par r <;> rfl
   exact e
  rw[h _ (a4H k),ih]
def sm (ps:List Nat):Nat:=ps.foldl (fun t p=>t ^^^ rr p) 0
theorem a7U (ps:List Nat):∀t,ps.foldl (fun t p=>t ^^^ rr p) t=t ^^^ sm ps:=by
 induction ps with
 |nil=>intro t;exact(Xv t).symm
 | cons p r ih=>
  intro t
  unfold sm
  rw[Y3,Y3,ih,ih (0 ^^^ rr p),Je,Xo]
theorem jF (p:Nat)(r:List Nat):sm (p::r)=rr p ^^^ sm r:=by
 show (p::r).foldl _ 0=_
 rw[Y3,a7U,Je]
theorem b2J (ps:List Nat):par (sm ps)=decide (ps.length % 2=1):=by
 induction ps with
 |nil=>decide
 | cons p r ih=>
  rw[jF,yZ,b2K,ih,YN]
  by_cases h:r.length % 2=1
  ·rw[Yl h,Yu (by omega)];rfl
  ·rw[Yu h,Yl (by omega)];rfl
theorem jD {a b:Nat}(h:a ^^^ b=0):a=b:=by
 have:a ^^^ b ^^^ b=0 ^^^ b:=by rw[h]
 rwa [Xo,Nat.xor_self,Xv,Je]at this
theorem b2B {a b:Nat}(hab:a≠b)(ha:a<127)(hb:b<127):rr a≠rr b:=by
 intro e
 obtain⟨c,hc,c1,c2⟩:∃c,c<127/\c≠a/\c≠b:=by
  by_cases h0:0≠a/\0≠b
  ·exact⟨0,by decide,h0.1,h0.2⟩
  by_cases h1:1≠a/\1≠b
  ·exact⟨1,by decide,h1.1,h1.2⟩
  exact⟨2,by decide,by omega,by omega⟩
 have:=uN (a:=a) (b:=c) (c:=b) (d:=c) (by omega) ha hc (by omega) hb hc (by rw[e])
 omega
theorem few {ps:List Nat}(nd:ps.Nodup)(hp:∀p∈ps,p<127)(h1:1<=ps.length)(h5:ps.length<=5):sm ps≠0:=by
 intro e
 have hpar:=b2J ps
 rw[e]at hpar
 have ev:¬ ps.length % 2=1:=by
  intro z
  rw[Yl z]at hpar
  exact absurd hpar (by decide)
 match ps,nd,hp,h1,h5,e,ev with
 | [a,b],nd,hp,_,_,e,_=>
  rw[jF,jF]at e
  simp only[YX,YE,XH,or_false,not_or,not_false_eq_true,Jk,and_true]at nd
  refine b2B nd (hp a (by simp)) (hp b (by simp)) (jD ?_)
  rw[<-e];show _=rr a ^^^ (rr b ^^^ 0);rw[Xv]
 | [a,b,c,d],nd,hp,_,_,e,_=>
  rw[jF,jF,jF,jF]at e
  simp only[YX,YE,XH,or_false,not_or,not_false_eq_true,Jk,and_true]at nd
  obtain⟨⟨n1,n2,n3⟩,⟨n4,n5⟩,n6⟩:=nd
  have e2:rr a ^^^ rr b=rr c ^^^ rr d:=by
   apply jD
   rw[<-e];show _=rr a ^^^ (rr b ^^^ (rr c ^^^ (rr d ^^^ 0)))
   rw[Xv,Xo]
  have:=uN n1 (hp a (by simp)) (hp b (by simp)) n6 (hp c (by simp)) (hp d (by simp)) e2
  omega
 |[a],_,_,_,_,_,ev=>exact ev (by simp)
 |[a,b,c],_,_,_,_,_,ev=>exact ev (by simp)
 |[a,b,c,d,f],_,_,_,_,_,ev=>exact ev (by simp)
 |a::b::c::d::f::g::r,_,_,_,h5,_,_=>simp at h5
 |[],_,_,h1,_,_,_=>simp at h1
def stp (r:Nat)(b:Int):Nat:=nx r ^^^ b.toNat
def nxn:Nat->Nat->Nat
 |0,d=>d
 |n+1,d=>nxn n (nx d)
theorem b4H {b:Int}(h:b=0\/b=1):b.toNat<32768:=by rcases h with rfl | rfl <;> decide
theorem b1N {r:Nat}{b:Int}(hr:r<32768)(hb:b=0\/b=1):stp r b<32768:=Jj (n:=15) (a5B hr) (b4H hb)
theorem pR {bs:List Int}(h:bG bs)(hl:bs.length<=500):rst bs=bs.foldl stp 0:=by
 have key:∀k,k<=bs.length->rst (bs.take k)=(bs.take k).foldl stp 0:=by
  intro k
  induction k with
  |zero=>intro _;exact a7Z
  | succ k ih=>
   intro hk
   have ht:bG (bs.take k):=fun b hb=>h b (Xf hb)
   rw[Yh (by omega),Xu,<-ih (by omega),a4F ht (by rw[Yo];omega) (h _ (YL _))]
   rfl
 have:=key bs.length (Yd _)
 rwa [Ym (Yd _)]at this
theorem vX:∀(suf:List Int),bG suf->∀r d,r<32768->d<32768->suf.foldl stp (r ^^^ d)=suf.foldl stp r ^^^ nxn suf.length d
 |[],_,_,_,_,_=>rfl
 | b ::s,h,r,d,hr,hd=>by
  have hb:=h b YD
  rw[Y3,Y3]
  have e:stp (r ^^^ d) b=stp r b ^^^ nx d:=by
   unfold stp
   rw[a5A hr hd,Xo,XY (nx d),<-Xo]
  rw[e,vX s (fun z hz=>h z (Ys _ hz)) _ _ (b1N hr hb) (a5B hd)]
  rfl
end Rm
namespace Wm
open Bm Rn
abbrev S:=Option Int×Nat
def skp (s:S)(b:Int):S:=(some b,if s.1=some b then s.2+1 else 1)
def sk (w:List Int):S:=w.foldl skp (none,0)
def run (w:List Int):Nat:=(sk w).2
theorem kZ (w:List Int)(b:Int):sk (w++[b])=skp (sk w) b:=by unfold sk;rw[Xu];rfl
theorem gM (w:List Int)(b:Int):run (w++[b])=if (sk w).1=some b then run w+1 else 1:=by unfold run;rw[kZ];rfl
theorem nO (w:List Int)(b:Int):(sk (w++[b])).1=some b:=by rw[kZ];rfl
theorem snoc_ind {P:List Int->Prop}(h0:P [])(hs:∀w b,P w->P (w++[b]))(w:List Int):P w:=by
 have :∀n,∀w:List Int,w.length=n->P w:=by
  intro n
  induction n with
  |zero=>intro w hw;rw[XA hw];exact h0
  | succ n ih=>
   intro w hw
   have hne:w≠ []:=fun z=>by rw[z]at hw;cases hw
   rw[<-List.dropLast_concat_getLast hne]
   exact hs _ _ (ih _ (by rw[List.length_dropLast,hw];rfl))
 exact this _ w rfl
theorem a4E (w:List Int):run w<=w.length:=by
 refine snoc_ind (P:=fun w=>run w<=w.length) (Yd _) (fun w b ih=>?_) w
 rw[gM,Yc,Yy]
 split <;> omega
theorem last_eq (w:List Int)(h:0<w.length):(sk w).1=some (w.getD (w.length-1) 0):=by
 have hne:w≠ []:=fun z=>by rw[z]at h;cases h
 conv=>lhs;rw[<-List.dropLast_concat_getLast hne]
 rw[nO,Yg,Yb (by omega),List.getLast_eq_getElem];rfl
theorem a7Y (w:List Int):∀n,1<=n->n<=w.length->(n<=run w↔Win w (w.length-n) n):=by
 refine snoc_ind (P:=fun w=>∀n,1<=n->n<=w.length->(n<=run w↔Win w (w.length-n) n)) (fun n h1 h2=>absurd h2 (by simp;omega)) (fun w b ih n h1 h2=>?_) w
 rw[Yc,Yy]at h2 ⊢
 have gl:∀i,i<w.length->(w++[b]).getD i 0=w.getD i 0:=fun i hi=>by
  rw[Yg,Yg,Yx hi]
 have gr:(w++[b]).getD w.length 0=b:=by
  rw[Yg,Yv (Yd _),XO];rfl
 rw[gM]
 by_cases hn:n=1
 ·subst hn
  refine iff_of_true (by split <;> omega) ⟨by rw[Yc,Yy];omega,fun i j a1 a2 a3 a4=>?_⟩
  have:i=j:=by omega
  rw[this]
 have hw:0<w.length:=by omega
 have ih':=ih (n-1) (by omega) (by omega)
 have hl:=last_eq w hw
 constructor
 ·intro h
  by_cases c:(sk w).1=some b
  ·rw [if_pos c]at h
   have hb:w.getD (w.length-1) 0=b:=by rw[hl]at c;exact Yq c
   have W:=ih'.mp (by omega)
   refine⟨by rw[Yc,Yy];omega,?_⟩
   have key:∀i,w.length+1-n<=i->i<w.length+1-n+n->(w++[b]).getD i 0=b:=fun i a1 a2=>by
    by_cases hi:i<w.length
    ·rw[gl i hi,<-hb]
     exact W.2 i (w.length-1) (by omega) (by omega) (by omega) (by omega)
    ·have:i=w.length:=by omega
     rw[this,gr]
   intro i j a1 a2 a3 a4
   rw[key i a1 a2,key j a3 a4]
  ·rw[if_neg c]at h;omega
 ·intro W
  have e1:=W.2 (w.length-1) w.length (by omega) (by omega) (by omega) (by omega)
  rw[gl _ (by omega),gr]at e1
  have c:(sk w).1=some b:=by rw[hl,e1]
  rw[if_pos c]
  have:=ih'.mpr ⟨by omega,fun i j a1 a2 a3 a4=>by
   have:=W.2 i j (by omega) (by omega) (by omega) (by omega)
   rwa [gl i (by omega),gl j (by omega)]at this⟩
  omega
theorem a2U {w:List Int}{k a n:Nat}(h:a+n<=k)(hk:k<=w.length):Win (w.take k) a n↔Win w a n:=by
 have e:∀i,i<k->(w.take k).getD i 0=w.getD i 0:=fun i hi=>by
  rw[Yg,Yg,Xw hi]
 constructor
 ·intro W
  exact⟨by omega,fun i j a1 a2 a3 a4=>by rw[<-e i (by omega),<-e j (by omega)];exact W.2 i j a1 a2 a3 a4⟩
 ·intro W
  exact⟨by rw[Yo];omega,fun i j a1 a2 a3 a4=>by rw[e i (by omega),e j (by omega)];exact W.2 i j a1 a2 a3 a4⟩
theorem a7G {w:List Int}(hb:bG w){n k:Nat}(hn:0<n)(h1:n<=k)(hk:k<=w.length):((w.drop (k-n)).take n).sum % (n:Int)=0↔n<=run (w.take k):=by
 have hl:(w.take k).length=k:=by rw[Yo];omega
 rw[a7C hb hn (by omega),a7Y (w.take k) n hn (by omega),hl]
 exact(a2U (by omega) hk).symm
def pst (w:List Int)(b:Int):List Int:=if run (w++[b])=5 then w++[b]++[1-b] else w++[b]
def put (l:List Int):List Int:=l.foldl pst []
theorem gO (l:List Int)(b:Int):put (l++[b])=pst (put l) b:=by unfold put;rw[Xu];rfl
theorem zK (b:Int):¬ (some b:Option Int)=some (1-b):=fun z=>by have:=Yq z;omega
theorem a8E {w:List Int}{b:Int}(h:run w<=4):run (pst w b)<=4:=by
 unfold pst
 by_cases c:run (w++[b])=5
 ·rw[if_pos c,gM,nO,if_neg (zK b)];omega
 ·rw[if_neg c]
  rw[gM]at c ⊢
  split at c <;> rename_i z
  ·rw[if_pos z];omega
  ·rw[if_neg z];omega
theorem oX (l:List Int):run (put l)<=4:=snoc_ind (P:=fun l=>run (put l)<=4) (by decide) (fun w b ih=>by rw[gO];exact a8E ih) l
theorem uY {l:List Int}(h:bG l):bG (put l):=by
 have : ∀ k,k<=l.length->bG (put (l.take k)):=by
  intro k
  induction k with
  |zero=>intro _ z hz;rw[Ji]at hz;cases hz
  | succ k ih=>
   intro hk
   have hb:=h _ (YL (show k<l.length by omega))
   have hi:=ih (by omega)
   rw[Yh (by omega),gO]
   intro z hz
   unfold pst at hz
   split at hz
   ·rcases YA.mp hz with q | q
    ·rcases YA.mp q with q | q
     ·exact hi z q
     ·rw[Yj.mp q];exact hb
    ·rw[Yj.mp q];omega
   ·rcases YA.mp hz with q | q
    ·exact hi z q
    ·rw[Yj.mp q];exact hb
 have:=this l.length (Yd _)
 rwa [Ym (Yd _)]at this
theorem a8F (w:List Int)(b:Int):w.length+1<=(pst w b).length/\(pst w b).length<=w.length+2:=by
 unfold pst
 split <;> simp
theorem oY (l:List Int):l.length<=(put l).length/\(put l).length<=2*l.length:=by
 refine snoc_ind (P:=fun l=>l.length<=(put l).length/\(put l).length<=2*l.length) ⟨Yd _,Yd _⟩ (fun w b ih=>?_) l
 have:=a8F (put w) b
 rw[gO,Yc,Yy]
 omega
def kst (s:S×List Int)(b:Int):S×List Int:=(skp s.1 b,if s.1.2=5 then s.2 else s.2++[b])
def kp (w:List Int):List Int:=(w.foldl kst ((none,0), [])).2
theorem a9C (w:List Int):(w.foldl kst ((none,0), [])).1=sk w:=by
 refine snoc_ind (P:=fun w=>(w.foldl kst ((none,0), [])).1=sk w) rfl (fun w b ih=>?_) w
 rw[Xu,kZ,<-ih];rfl
theorem fV (w:List Int)(b:Int):kp (w++[b])=if run w=5 then kp w else kp w++[b]:=by
 unfold kp run
 rw[Xu,<-a9C];rfl
theorem b3E:kp []= []:=rfl
def Good (w:List Int):Prop:=∀k,k<=w.length->run (w.take k)<=5
theorem Good.snoc {w:List Int}{b:Int}(h:Good w)(h5:run (w++[b])<=5):Good (w++[b]):=fun k hk=>by
 rw[Yc,Yy]at hk
 by_cases c:k<=w.length
 ·rw[Xg c];exact h k c
 ·rw[Ym (by rw[Yc,Yy];omega)];exact h5
theorem uV {w:List Int}{b:Int}:run (w++[b])<=run w+1:=by rw[gM];split <;> omega
theorem a4K (l:List Int):Good (put l):=by
 refine snoc_ind (P:=fun l=>Good (put l)) (fun k hk=>?_) (fun w b ih=>?_) l
 ·have:k=0:=Nat.le_zero.mp hk
  subst this;decide
 ·rw [gO]
  have h4:=oX w
  have h1:run (put w++[b])<=5:=Y0 uV (by omega)
  unfold pst
  split
  ·rename_i c
   refine(ih.snoc h1).snoc ?_
   rw[gM,nO,if_neg (zK b)];omega
  ·exact ih.snoc h1
theorem b3D (l:List Int):kp (put l)=l:=by
 refine snoc_ind (P:=fun l=>kp (put l)=l) rfl (fun w b ih=>?_) l
 rw[gO]
 have h4:=oX w
 have e1:kp (put w++[b])=w++[b]:=by rw[fV,if_neg (by omega),ih]
 unfold pst
 split
 ·rename_i c
  rw[fV,if_pos c,e1]
 ·exact e1
theorem xH {w:List Int}(hb:bG w)(hg:Good w):put (kp w)=if run w=5 then w++[1-w.getD (w.length-1) 0] else w:=by
 have : ∀ k,k<=w.length->put (kp (w.take k))=if run (w.take k)=5 then w.take k++[1-w.getD (k-1) 0] else w.take k:=by
  intro k
  induction k with
  |zero=>intro _;rfl
  | succ k ih=>
   intro hk
   have hlt:k<w.length:=by omega
   have hbk:=hb _ (YL hlt)
   have gk:w.getD (k+1-1) 0=w[k]:=by rw[Nat.add_sub_cancel,Yg,Yb hlt];rfl
   have ih':=ih (by omega)
   have h5:=hg (k+1) hk
   rw[Yh hlt]at h5 ⊢
   rw[fV,gk]
   by_cases c:run (w.take k)=5
   ·rw [if_pos c,ih',if_pos c]
    have hk0:0<k:=by
     have:=a4E (w.take k)
     rw[Yo]at this
     omega
    have hl:(w.take k).length=k:=by rw[Yo];omega
    have l1:=last_eq (w.take k) (by omega)
    have e2:(w.take k).getD (k-1) 0=w.getD (k-1) 0:=by
     rw[Yg,Yg,Xw (by omega)]
    rw[hl,e2]at l1
    have hne:¬ (sk (w.take k)).1=some w[k]:=fun z=>by
     rw[gM,if_pos z,c]at h5;omega
    have hlb:w.getD (k-1) 0=0\/w.getD (k-1) 0=1:=by
     rw[Yg,Yb (show k-1<w.length by omega)]
     exact hb _ (YL _)
    have e3:1-w.getD (k-1) 0=w[k]:=by
     have:¬ w.getD (k-1) 0=w[k]:=fun z=>hne (by rw[l1,z])
     omega
    rw[e3,if_neg]
    rw[gM,if_neg hne];decide
   ·rw[if_neg c,gO,ih',if_neg c]
    unfold pst
    split <;> rfl
 have h:=this w.length (Yd _)
 rwa [Ym (Yd _)]at h
theorem pB {w:List Int}(hb:bG w):bG (kp w):=by
 have : ∀k,k<=w.length->bG (kp (w.take k)):=by
  intro k
  induction k with
  |zero=>intro _ z hz;rw[Ji,b3E]at hz;cases hz
  | succ k ih=>
   intro hk z hz
   have hi:=ih (by omega)
   rw[Yh (show k<w.length by omega),fV]at hz
   split at hz
   ·exact hi z hz
   ·rcases YA.mp hz with q | q
    ·exact hi z q
    ·rw[Yj.mp q];exact hb _ (YL _)
 have h:=this w.length (Yd _)
 rwa [Ym (Yd _)]at h
theorem xO (w:List Int):(kp w).length<=w.length:=by
 refine snoc_ind (P:=fun w=>(kp w).length<=w.length) (Yd _) (fun w b ih=>?_) w
 rw[fV,Yc,Yy]
 split
 ·omega
 ·rw[Yc,Yy];omega
end Wm
namespace Rm
open Bm
theorem a5G {cs:List Int}(h:bG cs)(hl:cs.length<=15):nm cs<32768:=Yf (jU h) (Yw (n:=2) (j:=15) (by decide) hl)
theorem a1D {cs:List Int}(h:bG cs)(hl:cs.length<=15):rst cs=nm cs:=pJ (a5G h hl)
theorem fY {as bs:List Int}(ha:bG as)(hb:bG bs):bG (as++bs):=fun z hz=>(YA.mp hz).elim (ha z) (hb z)
theorem yU {bs cs:List Int}(h:bG bs)(hc:bG cs)(hl:bs.length+cs.length<=500)(h15:cs.length<=15):rst (bs++cs)=nm cs ^^^ nxn cs.length (rst bs):=by
 rw[pR (fY h hc) (by rw[Yc];exact hl),Xu,<-pR h (by omega)]
 have:=vX cs hc 0 (rst bs) (by decide) (xG bs)
 rw[Je,<-pR hc (by omega),a1D hc h15]at this
 exact this
def zs (n:Nat):List Int:=List.replicate n 0
theorem sZ (n:Nat):bG (zs n):=fun b hb=> .inl (List.eq_of_mem_replicate hb)
theorem b0N:∀n,nm (zs n)=0:=by
 intro n
 have:∀n,jH (zs n)=0:=fun n=>by
  induction n with
  |zero=>rfl
  |succ n ih=>unfold zs;rw[Xy,rQ];show 0*_+jH (zs n)=0;rw[ih];simp
 unfold nm;rw[this];rfl
def ckn (bs:List Int):Nat:=rst (bs++zs 15)
theorem a6P (bs:List Int):ckn bs<32768:=xG _
def ck (bs:List Int):List Int:=bY (ckn bs) 15
theorem iM {n m:Nat}(h:n<2 ^ m):nm (bY n m)=n:=by unfold nm;rw[a5D h];rfl
theorem pU {bs cs:List Int}(h:bG bs)(hc:bG cs)(hl:bs.length<=400)(h15:cs.length=15):rst (bs++cs)=nm cs ^^^ ckn bs:=by
 rw[yU h hc (by omega) (by omega)]
 unfold ckn
 rw[yU h (sZ 15) (by unfold zs;rw[YM];omega) (by unfold zs;rw[YM];exact Yd _),b0N,Je,h15]
 unfold zs
 rw[YM]
theorem b2A {bs:List Int}(h:bG bs)(hl:bs.length<=400):rst (bs++ck bs)=0:=by
 unfold ck
 rw[pU h (gD _ _) hl (cC _ _),iM (m:=15) (a6P bs),Nat.xor_self]
theorem a9Q {bs cs:List Int}(h:bG bs)(hc:bG cs)(hl:bs.length<=400)(h15:cs.length=15)(e:rst (bs++cs)=0):nm cs=ckn bs:=by
 rw[pU h hc hl h15]at e
 exact jD e
end Rm
namespace Rm
open Bm
def fl (l:List Int)(p:Nat):List Int:=l.set p (1-l.getD p 0)
theorem lJ {n:Nat}:∀{ps:List Nat},ps.Nodup->(∀p∈ps,p<n)->(ps.map fun p=>n-1-p).Nodup
 |[],_,_=>Jk
 | p::r,h,hp=>by
  obtain⟨h1,h2⟩:=YX.mp h
  refine YX.mpr ⟨fun hm=>?_,lJ h2 fun q hq=>hp q (Ys _ hq)⟩
  obtain⟨q,hq,e⟩:=Y1.mp hm
  have a1:=hp p YD
  have a2:=hp q (Ys _ hq)
  have e':n-1-q=n-1-p:=e
  have:q=p:=by omega
  exact h1 (this▸hq)
theorem five {l:List Int}{ps:List Nat}(nd:ps.Nodup)(hp:∀p∈ps,p<l.length)(hl:l.length<=127)(h1:1<=ps.length)(h5:ps.length<=5):sm (ps.map fun p=>l.length-1-p)≠0:=by
 refine few (lJ nd hp) (fun q hq=>?_) (by rw[Ya];exact h1) (by rw[Ya];exact h5)
 obtain⟨p,hp1,rfl⟩:=Y1.mp hq
 have:=hp p hp1
 omega
end Rm
namespace Wm
open L2 Bm Rn
theorem a4J (l:List Int):(put l).head? =l.head?:=snoc_ind (P:=fun l=>(put l).head? =l.head?) rfl (fun w b ih=>by
 rw[gO]
 unfold pst
 split
 ·rw[Y7,Y7,Y7,ih]
  cases w.head? <;> rfl
 ·rw[Y7,Y7,ih]) l
theorem kp_head (w:List Int):(kp w).head? =w.head?:=snoc_ind (P:=fun w=>(kp w).head? =w.head?) rfl (fun w b ih=>by
 rw[fV]
 split
 ·rename_i h
  rw[ih,Y7]
  cases w with
  |nil=>exact absurd h (by decide)
  |cons x r=>rfl
 ·rw[Y7,Y7,ih]) w
theorem a2A {l:List Int}{x:Int}(h:l.head? =some x):l.getD 0 0=x:=by
 cases l with
 |nil=>cases h
 |cons y r=>exact Yq h
end Wm
namespace Wm
open Bm Rn Rm
def kf:S->List Int->List Int
 |_, []=>[]
 |s,b::r=>if s.2=5 then kf (skp s b) r else b::kf (skp s b) r
end Wm
namespace Wm
open Bm Rn Rm
end Wm
namespace Wm
open Bm Rn Rm
theorem qD {a:List Int}(ha:bG a):∀{b:List Int},bG b->nm (a++b)=2 ^ b.length*nm a+nm b:=by
 intro b
 refine snoc_ind (P:=fun b=>bG b->nm (a++b)=2 ^ b.length*nm a+nm b) (fun _=>by rw[YC];show nm a=1*nm a+0;omega) (fun l x ih h=>?_) b
 have hl:bG l:=fun z hz=>h z (Xr _ hz)
 have hx:x=0\/x=1:=h x (by simp)
 rw[<-YF,lU (fY ha hl) hx,lU hl hx,ih hl,Yc,Yy,XM,Nat.mul_add,Nat.mul_comm (2 ^ l.length) 2,Nat.mul_assoc]
 omega
theorem b2W:∀{a b:List Int},bG a->bG b->a.length=b.length->nm a=nm b->a=b:=by
 intro a
 refine snoc_ind (P:=fun a=>∀{b:List Int},bG a->bG b->a.length=b.length->nm a=nm b->a=b) (fun {b} _ _ hl _=>(XA hl.symm).symm) (fun l x ih {b} ha hb hl e=>?_) a
 have hne:b≠ []:=fun z=>by rw[z,Yc]at hl;simp at hl
 obtain⟨m,y,rfl⟩:∃m y,b=m++[y]:=⟨b.dropLast,b.getLast hne,(List.dropLast_concat_getLast hne).symm⟩
 have h1:bG l:=fun z hz=>ha z (Xr _ hz)
 have h2:bG m:=fun z hz=>hb z (Xr _ hz)
 have hx:x=0\/x=1:=ha x (by simp)
 have hy:y=0\/y=1:=hb y (by simp)
 rw[lU h1 hx,lU h2 hy]at e
 rw[Yc,Yc]at hl
 have e2:x=y/\nm l=nm m:=by rcases hx with rfl | rfl <;> rcases hy with rfl | rfl <;> simp at e <;> omega
 rw[e2.1,ih h1 h2 (by simpa using hl) e2.2]
theorem jZ {c:List Int}(h:bG c):bY (nm c) c.length=c:=b2W (gD _ _) h (cC _ _) (iM (jU h))
end Wm
namespace My
open PySem L2
def top (i:Nat):Stmt:=PySem.Challenge.pw_bitrail_k95_whole_taken_is_heard.main.body.getD i (.Pass ⟨0,0,0,0⟩)
def aO (s:Stmt):List Stmt:=match s with | .ClassDef _ _ _ b _ _ _ _ _ _ _=>b | _=>[]
abbrev Zh3:Stmt:=(aO (top 27)).getD 0 (.Pass ⟨0,0,0,0⟩)
abbrev Zfz:Stmt:=(aO (top 27)).getD 1 (.Pass ⟨0,0,0,0⟩)
abbrev Zgd:Stmt:=(aO (top 27)).getD 2 (.Pass ⟨0,0,0,0⟩)
abbrev Zey:Stmt:=(aO (top 27)).getD 3 (.Pass ⟨0,0,0,0⟩)
abbrev ZkJ:Stmt:=top 10
abbrev ZjE:Stmt:=top 11
abbrev ZjC:Stmt:=top 12
abbrev ZkK:Stmt:=top 14
abbrev ZkM:Stmt:=top 18
abbrev Zkh:Stmt:=top 19
abbrev ZkL:Stmt:=top 23
abbrev ZlC:Stmt:=top 28
abbrev Zh6:Stmt:=top 35
abbrev ZiP:Stmt:=top 36
abbrev ZkN:Stmt:=top 40
abbrev ZjF:Stmt:=top 38
abbrev Zh8:Stmt:=top 37
abbrev ZiQ:Stmt:=top 39
abbrev ZhZ:Stmt:=(aO (top 48)).getD 0 (.Pass ⟨0,0,0,0⟩)
abbrev Zgq:Stmt:=(aO (top 48)).getD 2 (.Pass ⟨0,0,0,0⟩)
abbrev ZhY:Stmt:=(aO (top 48)).getD 1 (.Pass ⟨0,0,0,0⟩)
abbrev Zhg:Stmt:=(aO (top 48)).getD 3 (.Pass ⟨0,0,0,0⟩)
abbrev Zhf:Stmt:=(aO (top 48)).getD 4 (.Pass ⟨0,0,0,0⟩)
abbrev Zjx:Stmt:=(aO (top 52)).getD 0 (.Pass ⟨0,0,0,0⟩)
abbrev Zjy:Stmt:=(aO (top 52)).getD 1 (.Pass ⟨0,0,0,0⟩)
abbrev ZiN:Stmt:=(aO (top 52)).getD 5 (.Pass ⟨0,0,0,0⟩)
abbrev Zgr:Stmt:=(aO (top 52)).getD 3 (.Pass ⟨0,0,0,0⟩)
abbrev Ze9:Stmt:=(aO (top 52)).getD 4 (.Pass ⟨0,0,0,0⟩)
abbrev Zjw:Stmt:=(aO (top 52)).getD 2 (.Pass ⟨0,0,0,0⟩)
abbrev Zgp:Stmt:=(aO (top 53)).getD 0 (.Pass ⟨0,0,0,0⟩)
abbrev Zgc:Stmt:=(aO (top 54)).getD 0 (.Pass ⟨0,0,0,0⟩)
abbrev ZiE:Stmt:=(aO (top 46)).getD 0 (.Pass ⟨0,0,0,0⟩)
abbrev Zf9:Stmt:=(aO (top 46)).getD 6 (.Pass ⟨0,0,0,0⟩)
abbrev Zhb:Stmt:=(aO (top 46)).getD 7 (.Pass ⟨0,0,0,0⟩)
abbrev Zhc:Stmt:=(aO (top 46)).getD 5 (.Pass ⟨0,0,0,0⟩)
abbrev ZiF:Stmt:=(aO (top 46)).getD 4 (.Pass ⟨0,0,0,0⟩)
abbrev ZhS:Stmt:=(aO (top 46)).getD 1 (.Pass ⟨0,0,0,0⟩)
abbrev ZhR:Stmt:=(aO (top 46)).getD 2 (.Pass ⟨0,0,0,0⟩)
abbrev ZiD:Stmt:=(aO (top 46)).getD 3 (.Pass ⟨0,0,0,0⟩)
abbrev Zhk:Stmt:=top 60
abbrev Zjl:Stmt:=(aO (top 65)).getD 0 (.Pass ⟨0,0,0,0⟩)
abbrev Zh0:Stmt:=(aO (top 66)).getD 0 (.Pass ⟨0,0,0,0⟩)
abbrev ZiH:Stmt:=(aO (top 67)).getD 0 (.Pass ⟨0,0,0,0⟩)
abbrev ZhT:Stmt:=(aO (top 68)).getD 0 (.Pass ⟨0,0,0,0⟩)
abbrev Zgl:Stmt:=(aO (top 69)).getD 0 (.Pass ⟨0,0,0,0⟩)
abbrev Zhh:Stmt:=(aO (top 70)).getD 0 (.Pass ⟨0,0,0,0⟩)
abbrev ZiK:Stmt:=(aO (top 71)).getD 0 (.Pass ⟨0,0,0,0⟩)
abbrev Zgo:Stmt:=(aO (top 78)).getD 8 (.Pass ⟨0,0,0,0⟩)
abbrev ZhW:Stmt:=(aO (top 78)).getD 9 (.Pass ⟨0,0,0,0⟩)
abbrev Zga:Stmt:=(aO (top 78)).getD 10 (.Pass ⟨0,0,0,0⟩)
abbrev Zex:Stmt:=(aO (top 78)).getD 11 (.Pass ⟨0,0,0,0⟩)
abbrev Zew:Stmt:=(aO (top 78)).getD 12 (.Pass ⟨0,0,0,0⟩)
abbrev ZjD:Stmt:=top 24
abbrev Zhd:Stmt:=(aO (top 78)).getD 13 (.Pass ⟨0,0,0,0⟩)
abbrev Zjo:Stmt:=(aO (top 78)).getD 1 (.Pass ⟨0,0,0,0⟩)
abbrev ZlB:Stmt:=top 77
abbrev Zke:Stmt:=(aO (top 78)).getD 6 (.Pass ⟨0,0,0,0⟩)
abbrev ZiS:Stmt:=top 61
abbrev Zki:Stmt:=top 62
abbrev ZiR:Stmt:=top 63
abbrev Zkg:Stmt:=top 64
abbrev Zh7:Stmt:=top 75
abbrev Zhl:Stmt:=top 76
abbrev Zjq:Stmt:=(aO (top 78)).getD 0 (.Pass ⟨0,0,0,0⟩)
abbrev Zjm:Stmt:=(aO (top 65)).getD 2 (.Pass ⟨0,0,0,0⟩)
abbrev Zh1:Stmt:=(aO (top 66)).getD 2 (.Pass ⟨0,0,0,0⟩)
abbrev ZiI:Stmt:=(aO (top 67)).getD 2 (.Pass ⟨0,0,0,0⟩)
abbrev ZhU:Stmt:=(aO (top 68)).getD 2 (.Pass ⟨0,0,0,0⟩)
abbrev Zgm:Stmt:=(aO (top 69)).getD 2 (.Pass ⟨0,0,0,0⟩)
abbrev Zhi:Stmt:=(aO (top 70)).getD 2 (.Pass ⟨0,0,0,0⟩)
abbrev ZiL:Stmt:=(aO (top 71)).getD 2 (.Pass ⟨0,0,0,0⟩)
abbrev Zkc:Stmt:=(aO (top 72)).getD 1 (.Pass ⟨0,0,0,0⟩)
abbrev Zkd:Stmt:=(aO (top 72)).getD 2 (.Pass ⟨0,0,0,0⟩)
abbrev Zgn:Stmt:=(aO (top 69)).getD 3 (.Pass ⟨0,0,0,0⟩)
abbrev Zhj:Stmt:=(aO (top 70)).getD 3 (.Pass ⟨0,0,0,0⟩)
abbrev ZiM:Stmt:=(aO (top 71)).getD 3 (.Pass ⟨0,0,0,0⟩)
abbrev Zjn:Stmt:=(aO (top 65)).getD 3 (.Pass ⟨0,0,0,0⟩)
abbrev ZiJ:Stmt:=(aO (top 67)).getD 3 (.Pass ⟨0,0,0,0⟩)
abbrev Zh2:Stmt:=(aO (top 66)).getD 3 (.Pass ⟨0,0,0,0⟩)
abbrev ZhV:Stmt:=(aO (top 68)).getD 3 (.Pass ⟨0,0,0,0⟩)
abbrev Zjr:Stmt:=(aO (top 78)).getD 2 (.Pass ⟨0,0,0,0⟩)
abbrev Zjp:Stmt:=(aO (top 78)).getD 3 (.Pass ⟨0,0,0,0⟩)
abbrev Zhe:Stmt:=(aO (top 81)).getD 5 (.Pass ⟨0,0,0,0⟩)
abbrev Zju:Stmt:=(aO (top 81)).getD 0 (.Pass ⟨0,0,0,0⟩)
abbrev Zjt:Stmt:=(aO (top 81)).getD 1 (.Pass ⟨0,0,0,0⟩)
abbrev Zgb:Stmt:=(aO (top 81)).getD 4 (.Pass ⟨0,0,0,0⟩)
abbrev Zc6:Stmt:=(aO (top 81)).getD 2 (.Pass ⟨0,0,0,0⟩)
abbrev ZhX:Stmt:=(aO (top 81)).getD 10 (.Pass ⟨0,0,0,0⟩)
abbrev Zkf:Stmt:=(aO (top 81)).getD 13 (.Pass ⟨0,0,0,0⟩)
abbrev Zjv:Stmt:=(aO (top 81)).getD 8 (.Pass ⟨0,0,0,0⟩)
abbrev ZiG:Stmt:=(aO (top 81)).getD 9 (.Pass ⟨0,0,0,0⟩)
abbrev Zjs:Stmt:=(aO (top 81)).getD 7 (.Pass ⟨0,0,0,0⟩)
abbrev Zjz:Stmt:=top 83
abbrev ZjB:Stmt:=top 84
abbrev Zh5:Stmt:=top 85
abbrev Zh4:Stmt:=top 86
abbrev Zfa:Stmt:=top 87
abbrev ZjA:Stmt:=top 88
abbrev ZiO:Stmt:=top 89
abbrev Zma:Stmt:=top 90
theorem aJ {H:Hp}{p:Addr}(h:H p=none)(o:HO):Same H (upd H p o):=fun b u q=>by rw[aK (aQ q h)];exact q
theorem small {n:Nat}(h:n<=1000):n<=sizeLine:=XI (rP h)
theorem aL {n:Nat}(h:decide (n<=1000)=true):n<=sizeLine:=small (YQ h)
theorem bW {n:Nat}(h:n<=1000):n<sizeLine:=rP h
theorem _root_.L2.Same.put {H H':Hp}{p:Addr}{o:HO}(g:Same H H')(h:H p=none):Same H (upd H' p o):=fun b u q=>by rw[aK (aQ q h)];exact g b u q
theorem _root_.L2.Same.none {H H':Hp}{x:Addr}(g:Same H H')(h:H' x=none):H x=none:=by
 cases e:H x with
 |none=>rfl
 |some o=>rw[g x o e]at h;cases h
theorem bK {H:Hp}{C x dx:Addr}{fs:List (Str×V)}(hx:H x=none)(hd:H dx=none):Same H (upd (upd (upd H dx (.own x)) x (.ins C dx [])) x (.ins C dx fs)):=fun b u q=>by
 rw[aK (aQ q hx),aK (aQ q hx),aK (aQ q hd)];exact q
open Bm Rm
theorem b0V (n k:Nat):Builtin.bitAnd ((n:Int) / 2 ^ ((k:Int)).toNat) 1=kE n k:=by
 rw[b8M]
 have h:Builtin.bitAnd ((n >>> k:Nat):Int) 1=(((n >>> k:Nat) &&& 1:Nat):Int):=band (n >>> k) 1
 rw[h]
 unfold kE
 have h1:=bit_at n k
 have h2:((n >>> k:Nat) &&& 1)=(n >>> k) % 2:=Nat.and_one_is_mod _
 split
 ·rename_i c;exact h1.mpr c
 ·rename_i c
  have:¬ (((n >>> k:Nat) &&& 1:Nat):Int)=1:=fun z=>c (h1.mp z)
  omega
def a4B:Sp:=fun vs H Q _=>∃n m:Nat,vs= [.int n,.int m]/\n<2 ^ m/\m<=128/\∀p,H p=none->Q (.ref p) (upd H p (.lst ((bY n m).map V.int)))
def wV (K:W.Frag):Sp:=fun vs H Q _=>∃(a:Addr)(bs:List Int),vs= [.ref a]/\SqL K H a (bs.map V.int)/\bG bs/\bs.length<=450/\Q (.int ((nm bs:Nat):Int)) H
theorem a2C {n m:Nat}(h:n<2 ^ m):(n:Int) / 2 ^ ((m:Int)).toNat=0:=by
 rw[pX]
 exact Int.ediv_eq_zero_of_lt (Int.natCast_nonneg n) (by exact_mod_cast h)
theorem a0O {n m i:Nat}(h:i<m):(bY n m).take (i+1)=(bY n m).take i++[kE n (m-1-i)]:=by
 have hl:i<(bY n m).length:=by rw[cC];exact h
 rw[Yh hl,sJ hl]
theorem uE {bs:List Int}{i:Nat}(h:i<bs.length):atI (bs.map V.int) ((i:Nat):Int)=some (.int bs[i]):=cX (by rw[Yi,Yb h];rfl)
theorem mL {bs:List Int}{i:Nat}{x:V}(hx:(bs.map V.int)[i]? =some x):∃h:i<bs.length,x= .int bs[i]:=by
 have hi:i<bs.length:=by
  have:=(Ye.mp hx).1
  rwa [Ya]at this
 refine⟨hi,?_⟩
 rw[Yi,Yb hi]at hx
 exact(Yq hx).symm
abbrev bl (a:Nat):Nat:=Builtin.Int.intBits (a:Int)
theorem b6U {a:Nat}(h:a≠0):2 ^ (bl a-1)<=a:=by
 show 2 ^ (Builtin.Int.intBits (a:Int)-1)<=a
 rw[qR,if_neg h]
 exact Nat.log2_self_le h
theorem a6U {a n:Nat}(h:a<2 ^ n):bl a<=n:=bits_le h
theorem b0Q (a:Nat):a<2 ^ bl a:=a9R a
theorem yD:bl 64647=16:=by decide
theorem a5V {r:Nat}(hr:r<2 ^ 450)(h:16<=bl r):(r ^^^ 64647 <<< (bl r-16))<2 ^ 450/\R (r ^^^ 64647 <<< (bl r-16))=R r/\bl (r ^^^ 64647 <<< (bl r-16))<bl r:=by
 have r3:=a6U hr
 have hr0:r≠0:=by
  intro z
  subst z
  have:bl 0=0:=by decide
  omega
 have l1:64647 <<< (bl r-16)<2 ^ (bl r-1+1):=by
  rw[Xe]
  have e1:bl r-1+1=16+(bl r-16):=by omega
  rw[e1,Nat.pow_add]
  exact Nat.mul_lt_mul_of_lt_of_le (by decide) (Yd _) (XU _)
 have l2:2 ^ (bl r-1)<=64647 <<< (bl r-16):=by
  rw[Xe]
  have e1:bl r-1=15+(bl r-16):=by omega
  rw[e1,Nat.pow_add]
  exact Nat.mul_le_mul_right _ (by decide)
 have l3:r<2 ^ (bl r-1+1):=by
  have e1:bl r-1+1=bl r:=by omega
  rw[e1];exact b0Q r
 have l4:=a7A l3 l1 (b6U hr0) l2
 have l5:bl (r ^^^ 64647 <<< (bl r-16))<=bl r-1:=a6U l4
 exact⟨Yf l4 (Yw (by decide) (by omega)),a6W (by omega),by omega⟩
def a0Y:Sp:=fun vs H Q _=>∃a:Nat,vs= [.int a,.int 64647]/\a<2 ^ 450/\∀(w:Nat)(p:Addr),H p=none->Q (.ref p) (upd H p (.tup [.int ((w:Nat):Int),.int ((R a:Nat):Int)]))
def b1P (K:W.Frag):Sp:=fun vs H Q _=>∃(a:Addr)(bs:List Int),vs= [.ref a]/\SqL K H a (bs.map V.int)/\bG bs/\bs.length<=450/\∀H',Same H H'->Q (.int ((rst bs:Nat):Int)) H'
def a7Q (K:W.Frag):Sp:=fun vs H Q _=>∃(a:Addr)(bs:List Int),vs= [.ref a]/\SqL K H a (bs.map V.int)/\bG bs/\bs.length<=400/\∀p H',H p=none->Same H H'->H' p=some (.lst ((ck bs).map V.int))->Q (.ref p) H'
theorem a8X {bs:List Int}(h:bG bs):jH bs=((nm bs:Nat):Int):=(oZ h).symm
def szB (bs:List Int):Nat:=nm ((bs.drop 9).take 3)
def nmB (bs:List Int):Nat:=nm ((bs.drop 1).take 8)
def dtB (bs:List Int)(k:Nat):Int:=((nm ((bs.drop (12+8*k)).take 8):Nat):Int)
def daB (bs:List Int):List Int:=(List.range (szB bs)).map (dtB bs)
def jC (bs:List Int):Prop:=12<=bs.length/\bs.length=27+8*szB bs
def yG (bs:List Int):Prop:=jC bs/\bs.getD 0 0=0/\rst bs=0
theorem fX {bs:List Int}(h:bG bs)(a n:Nat):bG ((bs.drop a).take n):=fun b hb=>h b (X8 (Xf hb))
theorem wO {bs:List Int}(h:bG bs):szB bs<8:=by
 have:=jU (fX h 9 3)
 refine Yf this (Yw (n:=2) (j:=3) (by decide) ?_)
 rw[Yo];omega
def b1O (K:W.Frag):Sp:=fun vs H Q _=>∃(a:Addr)(bs:List Int),vs= [.ref a]/\SqL K H a (bs.map V.int)/\bG bs/\12<=bs.length/\bs.length<=450/\∀H',Same H H'->Q (.int ((szB bs:Nat):Int)) H'
def b5F (K:W.Frag):Sp:=fun vs H Q _=>∃(a:Addr)(bs:List Int),vs= [.ref a]/\SqL K H a (bs.map V.int)/\bG bs/\bs.length<=450/\(jC bs->∀H',Same H H'->Q (.bl true) H')/\(¬ jC bs->∀H',Same H H'->Q (.bl false) H')
def b1Q (K:W.Frag)(C:Addr):Sp:=fun vs H Q E=>∃(a:Addr)(bs:List Int),vs= [.ref a]/\SqL K H a (bs.map V.int)/\bG bs/\bs.length<=450/\
 (yG bs->∀t p H',H p=none->Same H H'->H' p=some (.lst ((daB bs).map V.int))->H' t=some (.tup [.int ((nmB bs:Nat):Int),.ref p])->Q (.ref t) H')/\(¬ yG bs->∀H',Same H H'->E (.ref C) none H')
theorem a0D (bs:List Int):(daB bs).length=szB bs:=by unfold daB;rw[Ya,Xk]
theorem a6J {bs:List Int}{i:Nat}(h:i<szB bs):(daB bs).take (i+1)=(daB bs).take i++[dtB bs i]:=by
 have hl:i<(daB bs).length:=by rw[a0D];exact h
 have e:(daB bs)[i]=dtB bs i:=by simp[daB]
 rw[Yh hl,e]
theorem b8O {bs:List Int}(h:0<bs.length):bs[0]=bs.getD 0 0:=by rw[Yg,Yb h];rfl
theorem nU {bs:List Int}{a n:Nat}{x y:Int}(hx:x=((a:Nat):Int))(hy:y=((a+n:Nat):Int))(h:a+n<=bs.length):lG (bs.map V.int) (some x) (some y)=((bs.drop a).take n).map V.int:=by
 rw[hx,hy];exact a9O h
open Bm Rn Wm
def b6E:Option Int->V
 |none=> .non
 |some b=> .int b
abbrev skF (s:S):List (Str×V):=[("last",b6E s.1),("alike",.int ((s.2:Nat):Int))]
def jA (C:Addr)(H:Hp)(a:Addr)(s:S):Prop:=∃dx,H a=some (.ins C dx (skF s))
theorem jA.same {C:Addr}{H H':Hp}{a:Addr}{n:S}(h:jA C H a n)(g:Same H H'):jA C H' a n:=by
 obtain⟨dx,e⟩:=h
 exact⟨dx,g _ _ e⟩
theorem jA.at_ {C:Addr}{H H':Hp}{a:Addr}{n:S}(h:jA C H a n)(g:H' a=H a):jA C H' a n:=by
 obtain⟨dx,e⟩:=h
 exact⟨dx,g.trans e⟩
theorem jA.ne {C:Addr}{H:Hp}{a p:Addr}{n:S}{xs:List V}(h:jA C H a n)(e:H p=some (.lst xs)):p≠a:=fun z=>by
 obtain⟨dx,q⟩:=h
 rw[z,q]at e;cases e
theorem jA.set {C:Addr}{H:Hp}{a p:Addr}{n:S}{xs ys:List V}(h:jA C H a n)(e:H p=some (.lst xs)):jA C (upd H p (.lst ys)) a n:=by
 obtain⟨dx,q⟩:=h
 exact⟨dx,by rw[aK (fun z=>by rw[z,e]at q;cases q)];exact q⟩
def a3K (C:Addr):Sp:=fun vs H Q _=>∃a dx,vs= [.ref a]/\H a=some (.ins C dx [])/\∀H',H'=upd H a (.ins C dx (skF (none,0)))->Q .non H'
def a7K (C:Addr):Sp:=fun vs H Q _=>∃a s b,vs= [.ref a,.int b]/\jA C H a s/\∀H',jA C H' a (skp s b)->(∀x,x≠a->H' x=H x)->Q .non H'
def a3L (C:Addr):Sp:=fun vs H Q _=>∃a s,vs= [.ref a]/\jA C H a s/\Q (.bl (decide (s.2=5))) H
def a3J (C:Addr):Sp:=fun vs H Q _=>∃a s,vs= [.ref a]/\jA C H a s/\Q (.bl (decide (5<s.2))) H
theorem a2E (n:Nat):decide (((n:Nat):Int)=5)=decide (n=5):=by
 by_cases h:n=5
 ·subst h;rfl
 ·rw[Yu h,Yu (by omega)]
theorem a9J (n:Nat):decide ((5:Int)<((n:Nat):Int))=decide (5<n):=by
 by_cases h:5<n
 ·rw[Yl h,Yl (by omega)]
 ·rw[Yu h,Yu (by omega)]
theorem a5Z:Good []:=fun k hk=>by
 have:k=0:=Nat.le_zero.mp hk
 subst this;decide
def a7L (K:W.Frag):Sp:=fun vs H Q _=>∃(a:Addr)(bs:List Int),vs= [.ref a]/\SqL K H a (bs.map V.int)/\bs.length<=400/\∀p H',H p=none->Same H H'->H' p=some (.lst ((put bs).map V.int))->Q (.ref p) H'
theorem uX {bs:List Int}{i:Nat}(h:i<bs.length):put (bs.take (i+1))=pst (put (bs.take i)) bs[i]:=by rw[Yh h,gO]
instance decCmp (bs:List Int):Decidable (jC bs):=by unfold jC;infer_instance
def ans (w:List Int):Str:=if 5<run w then "six" else if run w=5\/¬ jC (kp w) then "more" else if rst (kp w)=0 then "whole" else "bad"
theorem pI {w:List Int}(h:5<run w):ans w="six":=if_pos h
theorem kI {w:List Int}(h:¬ 5<run w)(g:run w=5\/¬ jC (kp w)):ans w="more":=(if_neg h).trans (if_pos g)
theorem sY {w:List Int}(h:¬ 5<run w)(g:¬ (run w=5\/¬ jC (kp w)))(r:rst (kp w)=0):ans w="whole":=(if_neg h).trans ((if_neg g).trans (if_pos r))
theorem uG {w:List Int}(h:¬ 5<run w)(g:¬ (run w=5\/¬ jC (kp w)))(r:¬ rst (kp w)=0):ans w="bad":=(if_neg h).trans ((if_neg g).trans (if_neg r))
abbrev rdF (st ks:Addr)(t:Str):List (Str×V):=[("streak",.ref st),("kept",.ref ks),("answer",.str t)]
structure iC (C CK:Addr)(H:Hp)(r st ks:Addr)(w:List Int)(t:Str):Prop where
 rd:∃dx,H r=some (.ins C dx (rdF st ks t))
 sk:jA CK H st (sk w)
 kp:H ks=some (.lst ((kp w).map V.int))
theorem iC.same {C CK:Addr}{H H':Hp}{r st ks:Addr}{w:List Int}{t:Str}(h:iC C CK H r st ks w t)(g:Same H H'):iC C CK H' r st ks w t:=⟨let ⟨dx,e⟩:=h.rd;⟨dx,g _ _ e⟩,h.sk.same g,g _ _ h.kp⟩
theorem iC.ne1 {C CK:Addr}{H:Hp}{r st ks:Addr}{w:List Int}{t:Str}(h:iC C CK H r st ks w t):r≠st:=fun z=>by
 obtain⟨dx,e⟩:=h.rd
 obtain⟨dy,f⟩:=h.sk
 rw[z,f]at e
 cases e
theorem iC.ne2 {C CK:Addr}{H:Hp}{r st ks:Addr}{w:List Int}{t:Str}(h:iC C CK H r st ks w t):r≠ks:=fun z=>by
 obtain⟨dx,e⟩:=h.rd
 rw[z,h.kp]at e
 cases e
theorem iC.ne3 {C CK:Addr}{H:Hp}{r st ks:Addr}{w:List Int}{t:Str}(h:iC C CK H r st ks w t):ks≠st:=fun z=>by
 obtain⟨dy,f⟩:=h.sk
 rw[<-z,h.kp]at f
 cases f
def a9X (H H':Hp)(r st ks:Addr):Prop:=∀x o,x≠r->x≠st->x≠ks->H x=some o->H' x=some o
def a3S (C CK:Addr):Sp:=fun vs H Q _=>∃a dx,vs= [.ref a]/\H a=some (.ins C dx [])/\∀H' st ks,iC C CK H' a st ks [] "more"->H st=none->H ks=none->(∀x o,x≠a->H x=some o->H' x=some o)->Q .non H'
def wR (C CK:Addr):Sp:=fun vs H Q _=>∃r st ks w t,vs= [.ref r]/\iC C CK H r st ks w t/\bG w/\w.length<=450/\∀H',Same H H'->Q (.str (ans w)) H'
def a3T (C CK:Addr):Sp:=fun vs H Q _=>∃r st ks w t b,vs= [.ref r,.int b]/\iC C CK H r st ks w t/\bG (w++[b])/\w.length<450/\∀H',iC C CK H' r st ks (w++[b]) (ans (w++[b]))->a9X H H' r st ks->Q (.str (ans (w++[b]))) H'
def a0W (C CK:Addr):Sp:=fun vs H Q _=>∃r st ks w t,vs= [.ref r]/\iC C CK H r st ks w t/\∀p H',H p=none->Same H H'->H' p=some (.lst ((kp w).map V.int))->Q (.ref p) H'
def a0X (C CK:Addr):Sp:=fun vs H Q _=>∃r st ks w,vs= [.ref r]/\iC C CK H r st ks w (ans w)/\bG w/\w.length<=450/\(ans w="whole"->(kp w).getD 0 0=0)/\
 (ans w="whole"->yG (kp w)->∀t p H',H p=none->Same H H'->H' p=some (.lst ((daB (kp w)).map V.int))->H' t=some (.tup [.int ((nmB (kp w):Nat):Int),.ref p])->Q (.ref t) H')/\(ans w≠"whole"->Q .non H)
theorem uF {w:List Int}(h:ans w="whole"):jC (kp w)/\rst (kp w)=0:=by
 by_cases h1:5<run w
 ·rw[pI h1]at h;exact absurd h (by decide +kernel)
 by_cases h2:run w=5\/¬ jC (kp w)
 ·rw[kI h1 h2]at h;exact absurd h (by decide +kernel)
 by_cases h3:rst (kp w)=0
 ·exact⟨YG fun z=>h2 (.inr z),h3⟩
 ·rw[uG h1 h2 h3]at h;exact absurd h (by decide +kernel)
def byt (n:Int):Bool:=decide (0<=n) && decide (n<=255)
theorem fG {n:Int}:byt n=true↔0<=n/\n<=255:=by unfold byt;simp
theorem a0H {n:Int}(h:byt n=true):∃m:Nat,n=m/\m<256:=by
 obtain⟨h0,h1⟩:=fG.mp h
 exact⟨n.toNat,by omega,by omega⟩
def b5G:Sp:=fun vs H Q _=>∃n,vs= [.int n]/\Q (.bl (byt n)) H
def a7R (K:W.Frag):Sp:=fun vs H Q _=>∃(a:Addr)(ns:List Int),vs= [.ref a]/\SqA K H a (ns.map V.int)/\ns.length<=500/\∀H',Same H H'->Q (.bl (ns.all byt)) H'
def nY (n:Int)(ds:List Int):Prop:=byt n=true/\ds.length<=7/\ds.all byt=true
def b1W (K:W.Frag)(C:Addr):Sp:=fun vs H Q E=>∃(n:Int)(a:Addr)(ds:List Int),vs= [.int n,.ref a]/\SqL K H a (ds.map V.int)/\ds.length<=500/\(nY n ds->∀H',Same H H'->Q .non H')/\(¬ nY n ds->∀H',Same H H'->E (.ref C) none H')
def b8 (d:Int):List Int:=bY d.toNat 8
def hdD (n:Int)(k:Nat)(ds:List Int):List Int:=[0]++b8 n++bY k 3++(ds.map b8).flatten
def hd (n:Int)(ds:List Int):List Int:=hdD n ds.length ds
def fb (n:Int)(ds:List Int):List Int:=hd n ds++ck (hd n ds)
theorem uD (d:Int):(b8 d).length=8:=cC _ _
theorem mW (d:Int):bG (b8 d):=gD _ _
theorem vY:∀ds:List Int,(ds.map b8).flatten.length=8*ds.length
 |[]=>rfl
 |d::r=>by rw[YS,XE,Yc,vY r,uD,YN];omega
theorem sO:∀ds:List Int,bG (ds.map b8).flatten
 |[]=>fun _ z=>nomatch z
 |d::r=>by rw[YS,XE];exact fY (mW d) (sO r)
theorem pG (n:Int)(k:Nat)(ds:List Int):(hdD n k ds).length=12+8*ds.length:=by
 unfold hdD
 rw[Yc,Yc,Yc,vY,uD,cC,Yy]
theorem mK (n:Int)(k:Nat)(ds:List Int):bG (hdD n k ds):=by
 unfold hdD
 refine fY (fY (fY ?_ (mW n)) (gD _ _)) (sO ds)
 intro b hb
 exact .inl (Yj.mp hb)
theorem vV (n:Int)(k:Nat)(ds:List Int)(d:Int):hdD n k (ds++[d])=hdD n k ds++b8 d:=by
 unfold hdD
 rw[Yn,List.flatten_append,<-YF]
 simp
theorem xT (n:Int)(ds:List Int):(hd n ds).length=12+8*ds.length:=pG n _ ds
theorem mJ (n:Int)(ds:List Int):bG (hd n ds):=mK n _ ds
theorem yC (bs:List Int):(ck bs).length=15:=cC _ _
theorem a0G (bs:List Int):bG (ck bs):=gD _ _
theorem nR (n:Int)(ds:List Int):(fb n ds).length=27+8*ds.length:=by unfold fb;rw[Yc,xT,yC];omega
theorem pH (n:Int)(ds:List Int):bG (fb n ds):=fY (mJ n ds) (a0G _)
theorem b3P (n:Int)(ds:List Int)(h:ds.length<=40):rst (fb n ds)=0:=b2A (mJ n ds) (by rw[xT];omega)
def a7N (K:W.Frag)(C:Addr):Sp:=fun vs H Q E=>∃(n:Int)(a:Addr)(ds:List Int),vs= [.int n,.ref a]/\SqL K H a (ds.map V.int)/\ds.length<=500/\(nY n ds->∀p H',H p=none->Same H H'->H' p=some (.lst ((fb n ds).map V.int))->Q (.ref p) H')/\(¬ nY n ds->∀H',Same H H'->E (.ref C) none H')
theorem a5F {n:Int}{ds:List Int}(h:¬ byt n=true\/7<ds.length\/∃d∈ds,¬ byt d=true):¬ nY n ds:=fun ⟨h1,h2,h3⟩=>by
 rcases h with h | h | ⟨d,hd,h⟩
 ·exact h h1
 ·omega
 ·exact h (XN.mp h3 d hd)
theorem a6V {ds:List Int}(h:ds.all byt=true){i:Nat}(hi:i<ds.length):byt ds[i]=true:=XN.mp h _ (YL hi)
theorem a9H {n:Nat}{ds:List Int}(hn:n<256)(hl:ds.length<=7):szB (fb (n:Int) ds)=ds.length:=by
 unfold szB fb hd hdD
 have e:(([0]++b8 (n:Int)++bY ds.length 3++(ds.map b8).flatten++ck ([0]++b8 (n:Int)++bY ds.length 3++(ds.map b8).flatten)).drop 9).take 3=bY ds.length 3:=by
  have h9:([0]++b8 (n:Int)).length=9:=by rw[Yc,uD];rfl
  rw[YF,YF ([0]++b8 (n:Int)),Xh (by omega),List.drop_of_length_le (by omega),List.nil_append,Xg (by rw[cC];exact Yd _),Ym (by rw[cC];exact Yd _)]
 rw[e]
 exact iM (by show ds.length<2 ^ 3;omega)
theorem b6K {n:Nat}{ds:List Int}(hn:n<256)(hl:ds.length<=7):yG (fb (n:Int) ds):=by
 refine⟨⟨by rw[nR];omega,by rw[nR,a9H hn hl]⟩,?_,b3P _ _ (by omega)⟩
 unfold fb hd hdD
 rfl
theorem mX {as bs:List Int}(ha:bG as)(hb:bG bs):bG (as++bs):=fun z hz=>(YA.mp hz).elim (ha z) (hb z)
theorem tD {as:List Int}{n:Nat}(ha:bG as):bG (as.take n):=fun z hz=>ha z (Xf hz)
theorem a5U (u:List Int):∀v:List Int,∃x,kp (u++v)=kp u++x:=by
 refine snoc_ind (P:=fun v=>∃x,kp (u++v)=kp u++x) ⟨[],by rw[YC,YC]⟩ (fun v b ih=>?_)
 obtain⟨x,e⟩:=ih
 rw[<-YF,fV]
 split
 ·exact⟨x,e⟩
 ·exact⟨x++[b],by rw[e,YF]⟩
theorem a0Q {l x:List Int}(h:12<=l.length):szB (l++x)=szB l:=by
 unfold szB
 rw[Xh (by omega),Xg (by rw[YU];omega)]
structure Wr (w:List Int)(bs:List Int):Prop where
 w:w=put bs
 bits:bG bs
 ok:yG bs
theorem Wr.take_run {w bs:List Int}(h:Wr w bs){j:Nat}(hj:j<=w.length):run (w.take j)<=5:=by
 have:=a4K bs
 rw[<-h.w]at this
 exact this j hj
theorem Wr.wbits {w bs:List Int}(h:Wr w bs):bG w:=by rw[h.w];exact uY h.bits
theorem Wr.kp {w bs:List Int}(h:Wr w bs):kp w=bs:=by rw[h.w];exact b3D bs
theorem Wr.more {w bs:List Int}(h:Wr w bs){j:Nat}(hj:j<w.length):ans (w.take j)="more":=by
 have r5:=h.take_run (XI hj)
 refine kI (by omega) (YG fun z=>?_)
 have n5:¬ run (w.take j)=5:=fun y=>z (.inl y)
 have hc:jC (Wm.kp (w.take j)):=YG fun y=>z (.inr y)
 obtain⟨x,e⟩:=a5U (w.take j) (w.drop j)
 rw[List.take_append_drop,h.kp]at e
 have hc':jC (Wm.kp (w.take j)):=hc
 have h12:=hc.1
 have h27:=hc.2
 have hs:=a0Q (l:=Wm.kp (w.take j)) (x:=x) h12
 have hb:=h.ok.1.2
 rw[e]at hb
 have hb':(Wm.kp (w.take j)++x).length=27+8*szB (Wm.kp (w.take j)++x):=hb
 rw[hs,Yc]at hb'
 have hx:x= []:=XA (by omega)
 rw[hx,YC]at e
 have good:Good (w.take j):=fun k hk=>by
  rw[List.take_take]
  exact h.take_run (by rw[Yo]at hk;omega)
 have hp:=xH (tD (n:=j) h.wbits) good
 rw[if_neg n5,<-e,<-h.w]at hp
 have:=YT List.length hp
 rw[Yo]at this
 omega
theorem vG:bG []:=fun _ z=>nomatch z
structure On (w:List Int):Prop where
 good:Good w
 le:12<=(kp w).length->(kp w).length<=27+8*szB (kp w)
 five:jC (kp w)->run w=5
theorem On.nil:On []:=⟨a5Z,fun z=>absurd z (by decide),fun z=>absurd z.1 (by decide)⟩
theorem a2Z {l:List Int}{b:Int}(h:12<=l.length):szB (l++[b])=szB l:=by
 unfold szB
 rw[Xh (by omega),Xg (by rw[YU];omega)]
theorem On.le' {w:List Int}{b:Int}(h:On w):12<=(kp (w++[b])).length->(kp (w++[b])).length<=27+8*szB (kp (w++[b])):=by
 rw[fV]
 by_cases c:run w=5
 ·rw[if_pos c];exact h.le
 ·rw [if_neg c]
  intro h12
  rw[Yc,Yy]at h12 ⊢
  by_cases z:12<=(kp w).length
  ·rw[a2Z z]
   have h1:=h.le z
   have h2:¬ (kp w).length=27+8*szB (kp w):=fun y=>c (h.five ⟨z,y⟩)
   omega
  ·omega
theorem On.next {w:List Int}{b:Int}(h:On w)(hm:ans (w++[b])="more"):On (w++[b]):=by
 have h1:¬ 5<run (w++[b]):=fun z=>by
  rw[pI z]at hm;exact absurd hm (by decide +kernel)
 refine⟨h.good.snoc (by omega),h.le',fun hc=>YG fun z=>?_⟩
 have h2:¬ (run (w++[b])=5\/¬ jC (kp (w++[b]))):=fun y=>y.elim z fun x=>x hc
 by_cases r:rst (kp (w++[b]))=0
 ·rw[sY h1 h2 r]at hm;exact absurd hm (by decide +kernel)
 ·rw[uG h1 h2 r]at hm;exact absurd hm (by decide +kernel)
def a3C (K:W.Frag)(C:Addr):Sp:=fun vs H Q E=>∃(n:Int)(a:Addr)(ds:List Int),vs= [.int n,.ref a]/\SqL K H a (ds.map V.int)/\ds.length<=500/\(nY n ds->∀p H',H p=none->Same H H'->H' p=some (.lst ((put (fb n ds)).map V.int))->Q (.ref p) H')/\(¬ nY n ds->∀H',Same H H'->E (.ref C) none H')
def a7J (C:Addr):Sp:=fun vs H Q E=>∃v:Int,vs= [.int v]/\((v=1\/v=3\/v=5)->Q .non H)/\(¬ (v=1\/v=3\/v=5)->E (.ref C) none H)
theorem rT (v:Int):decide (v∈ [(1:Int),3,5])=true↔(v=1\/v=3\/v=5):=by
 rw[decide_eq_true_iff]
 simp
structure TCl (K:W.Frag)(C:Addr):Prop where
 cls:Cls K C
 n1:bJ K C "votes"
 n2:bJ K C "spoke"
 n3:bJ K C "over"
 n4:bJ K C "noughts"
abbrev tlF (v:Nat)(s:Bool)(o n:Nat):List (Str×V):=[("votes",.int v),("spoke",.bl s),("over",.int o),("noughts",.int n)]
def nW (C1 C2:Addr)(H:Hp)(t:Addr)(v:Nat)(s:Bool)(o n:Nat):Prop:=∃C dx,(C=C1\/C=C2)/\H t=some (.ins C dx (tlF v s o n))
theorem nW.same {C1 C2:Addr}{H H':Hp}{t:Addr}{v:Nat}{s:Bool}{o n:Nat}(h:nW C1 C2 H t v s o n)(g:Same H H'):nW C1 C2 H' t v s o n:=let ⟨C,dx,c,e⟩:=h;⟨C,dx,c,g _ _ e⟩
def iH (s:Bool)(o:Nat):Int:=if o=1/\s=false then 0 else 1
def gZ (s:Bool)(o:Nat)(b:Int):Bool:=if o=1 then s && decide (b=1) else decide (b=0)
def tlN (o:Nat)(b:Int)(n:Nat):Nat:=if 9<=o/\b=0 then n+1 else n
def lL (v o n:Nat):Str:=if o<9+v then ("more":Str) else if v / 2<n then ("refused":Str) else ("taken":Str)
def cZ (v:Nat)(s:Bool)(o n:Nat)(b:Int):Str:=if 9<=o then lL v (o+1) (tlN o b n) else if gZ s o b=true then ("fault":Str) else ("more":Str)
def a6Z (H H':Hp)(t:Addr):Prop:=∀x o,x≠t->H x=some o->H' x=some o
def a3G (K:W.Frag)(C1 C2:Addr):Sp:=fun vs H Q _=>∃(t C dx:Addr)(v:Nat)(s:Bool),vs= [.ref t,.int v,.bl s]/\(C=C1\/C=C2)/\H t=some (.ins C dx [])/\Q .non (upd H t (.ins C dx (tlF v s 0 0)))
def uR (C:Addr)(s:Bool):Sp:=fun vs H Q _=>∃(t dx:Addr)(v:Nat),vs= [.ref t,.int v]/\H t=some (.ins C dx [])/\∀H',H'=upd H t (.ins C dx (tlF v s 0 0))->Q .non H'
def a3F (C1 C2:Addr):Sp:=fun vs H Q _=>∃t v s o n,vs= [.ref t]/\nW C1 C2 H t v s o n/\Q (.int (iH s o)) H
def a0S (C1 C2:Addr):Sp:=fun vs H Q _=>∃t v s o n,vs= [.ref t]/\nW C1 C2 H t v s o n/\Q (.int ((o:Nat):Int)) H
def a0U (C1 C2:Addr):Sp:=fun vs H Q _=>∃t v s o n,∃(a:Nat)(b:Int),vs= [.ref t,.int ((a:Nat):Int),.int b]/\nW C1 C2 H t v s o n/\Q (.bl (gZ s a b)) H
def a0T (C1 C2:Addr):Sp:=fun vs H Q _=>∃t v s o n,∃b:Int,vs= [.ref t,.int b]/\nW C1 C2 H t v s o n/\∀H',nW C1 C2 H' t v s o (if b=0 then n+1 else n)->a6Z H H' t->Q (.str (lL v o (if b=0 then n+1 else n))) H'
def a3H (C1 C2:Addr):Sp:=fun vs H Q _=>∃t v s o n,∃b:Int,vs= [.ref t,.int b]/\nW C1 C2 H t v s o n/\∀H',nW C1 C2 H' t v s (o+1) (tlN o b n)->a6Z H H' t->Q (.str (cZ v s o n b)) H'
theorem jP {K:W.Frag}{C C1 C2:Addr}(h1:TCl K C1)(h2:TCl K C2)(h:C=C1\/C=C2):TCl K C:=h.elim (fun z=>z▸h1) (fun z=>z▸h2)
theorem rM {K:W.Frag}{C C1 C2 fa:Addr}{m:Str}(h1:Meth K C1 m fa)(h2:Meth K C2 m fa)(h:C=C1\/C=C2):Meth K C m fa:=h.elim (fun z=>z▸h1) (fun z=>z▸h2)
abbrev ctF (n:Int):List (Str×V):=[("total",.int n)]
def rE (C:Addr)(H:Hp)(a:Addr)(n:Int):Prop:=∃dx,H a=some (.ins C dx (ctF n))
def a3Y (C:Addr):Sp:=fun vs H Q _=>∃a dx,vs= [.ref a]/\H a=some (.ins C dx [])/\Q .non (upd H a (.ins C dx (ctF 0)))
def b0J (C:Addr)(lim:Int):Sp:=fun vs H Q _=>∃a n,vs= [.ref a]/\rE C H a n/\Q (.bl (decide (lim<=n))) H
def b5E (C:Addr):Sp:=fun vs H Q _=>∃a n,vs= [.ref a]/\rE C H a n/\Q (.int n) H
def mvd (n st:Int):Int:=if 18<=n then n else max 0 (n+st)
def a3X (C:Addr):Sp:=fun vs H Q _=>∃a n st,vs= [.ref a,.int st]/\rE C H a n/\∀H',rE C H' a (mvd n st)->(∀b,b≠a->H' b=H b)->Q .non H'
def a0Z (C:Addr):Sp:=fun vs H Q _=>∃a n b,vs= [.ref a,.bl b]/\rE C H a n/\∀H',rE C H' a (mvd n (if b=true then 8 else 1))->(∀b,b≠a->H' b=H b)->Q .non H'
def uT (C:Addr)(st:Int):Sp:=fun vs H Q _=>∃a n,vs= [.ref a]/\rE C H a n/\∀H',rE C H' a (mvd n st)->(∀b,b≠a->H' b=H b)->Q .non H'
abbrev Own:=Addr->Prop
def isT (o:HO):Prop:=∃vs,o= .tup vs
def cI (o:Own)(H H':Hp):Prop:=∀x v,H x=some v->(¬ o x\/isT v)->H' x=some v
def Mv (o:Own)(H:Hp)(o':Own)(H':Hp):Prop:=cI o H H'/\∀x,o' x->o x\/H x=none
abbrev Or2 (a b:Own):Own:=fun x=>a x\/b x
theorem cI.of {o:Own}{H H':Hp}(g:Same H H'):cI o H H':=fun x v e _=>g x v e
theorem cI.refl {o:Own}{H:Hp}:cI o H H:=fun _ _ e _=>e
theorem cI.tup {o:Own}{H H':Hp}{x:Addr}{vs:List V}(k:cI o H H')(e:H x=some (.tup vs)):H' x=some (.tup vs):=k x _ e (.inr ⟨vs,rfl⟩)
theorem cI.le {o o':Own}{H H':Hp}(k:cI o H H')(h:∀x,o x->o' x):cI o' H H':=fun x v e z=>k x v e (z.elim (fun y=> .inl fun w=>y (h x w)) .inr)
theorem Mv.refl {o:Own}{H:Hp}:Mv o H o H:=⟨cI.refl,fun _=> .inl⟩
theorem Mv.of {o:Own}{H H':Hp}(g:Same H H'):Mv o H o H':=⟨cI.of g,fun _=> .inl⟩
theorem Mv.trans {o o1 o2:Own}{H H1 H2:Hp}(a:Mv o H o1 H1)(b:Mv o1 H1 o2 H2):Mv o H o2 H2:=by
 refine⟨fun x v e z=>b.1 x v (a.1 x v e z) ?_,fun x hx=>?_⟩
 ·rcases z with z | z
  ·exact .inl fun w=>(a.2 x w).elim z fun n=>by rw[n]at e;cases e
  ·exact .inr z
 ·rcases b.2 x hx with h | h
  ·exact a.2 x h
  ·rcases Classical.em (o x) with c | c
   ·exact .inl c
   ·right
    cases e:H x with
    |none=>rfl
    |some v=>rw[a.1 x v e (.inl c)]at h;cases h
theorem Mv.out {o o1:Own}{H H1:Hp}(a:Mv o H o1 H1){x:Addr}{v:HO}(e:H x=some v)(h:¬ o x):¬ o1 x:=fun w=>(a.2 x w).elim h fun n=>by rw[n]at e;cases e
structure Cs where
 (post count free speaks reads intail flag settles rests off reader streak rtail stail:Addr)
inductive Stc where
 |free (k:Nat) | speaks (n:Nat) (ds:List Int) (k:Nat) | reads (h:List Int) | tlS (v c:Nat) | tlR (n:Nat) (ds:List Int) (v c:Nat) | flag (l:Nat) (m:Bool) | settles (m:Bool) | rests (l:Nat) | off
abbrev Fr:=Nat×List Int
structure PS where
 (m1 m2 vt:Nat) (wt up:List Fr) (tot:Int) (now:Stc)
abbrev wr (n:Nat)(ds:List Int):List Int:=put (fb (n:Int) ds)
def Stc.shown:Stc->Str×Nat
 |.free k=>("free",k)
 |.speaks _ _ k=>("speaks",k)
 |.reads h=>("reads",h.length)
 |.tlS v _=>("tail speaks",v)
 |.tlR _ _ v _=>("tail reads",v)
 |.flag l _=>("flag",l)
 |.settles _=>("settles",0)
 |.rests l=>("rests",l)
 |.off=>("off",0)
def bL (S:PS):Int:=match S.now with
 |.free k=>if S.wt= [] then 1 else if 12<=S.tot/\k<8 then 1 else 0
 |.speaks n ds k=>(wr n ds).getD k 0
 |.tlS v _=>iH true v
 |.tlR _ _ v _=>iH false v
 |.flag _ _=>0
 |_=>1
def cT (S:PS)(st:Int)(w:Str)(nx:Stc):Str×PS:=if 18<=mvd S.tot st then ("off",{ S with tot:=mvd S.tot st,now:= .off }) else (w,{ S with tot:=mvd S.tot st,now:=nx })
def cA (S:PS)(sp:Bool):Str×PS:=cT S (if sp=true then 8 else 1) "fault" (.flag 6 (!sp))
def cJ (S:PS)(sp:Bool):Str×PS:=cT S (if sp=true then 8 else 1) "refuses" (.settles false)
def eZ (S:PS):Str×PS:=cT S 8 "" (.settles false)
def gY (S:PS)(n:Nat):Bool:=decide (Builtin.bitAnd ((n:Nat):Int) ((S.m1:Nat):Int)=((S.m2:Nat):Int))
def bF (S:PS)(b:Int):Str×PS:=match S.now with
 |.free k=>if bL S=0 then (if b=0 then ("begins",{ S with now:= .speaks (S.wt.headD (0, [])).1 (S.wt.headD (0, [])).2 1 }) else cA S true) else if b=0 then ("",{ S with now:= .reads [0] }) else ("",{ S with now:= .free (k+1) })
 |.speaks n ds k=>if ans ((wr n ds).take k++[b])="six" then cA S true else if (wr n ds).getD k 0=1/\b=0/\(kp ((wr n ds).take k)).length<9 then ("loses",{ S with now:= .reads ((wr n ds).take k++[b]) }) else if b=(wr n ds).getD k 0 then (if k+1=(wr n ds).length then ("",{ S with now:= .tlS 0 0 }) else ("",{ S with now:= .speaks n ds (k+1) })) else cA S true
 |.reads h=>if ans (h++[b])="more" then ("",{ S with now:= .reads (h++[b]) }) else if ans (h++[b])="whole" then ("",{ S with now:= .tlR (nmB (kp (h++[b]))) (daB (kp (h++[b]))) 0 0 }) else cA S false
 |.tlS v c=>if cZ S.vt true v c b="more" then ("",{ S with now:= .tlS (v+1) (tlN v b c) }) else if cZ S.vt true v c b="fault" then cA S true else if cZ S.vt true v c b="refused" then cJ S true else ("done",{ S with tot:=mvd S.tot (-1),wt:=S.wt.tail,now:= .rests 3 })
 |.tlR n ds v c=>if cZ S.vt false v c b="more" then ("",{ S with now:= .tlR n ds (v+1) (tlN v b c) }) else if cZ S.vt false v c b="fault" then cA S false else if cZ S.vt false v c b="refused" then cJ S false else ("takes",{ S with tot:=mvd S.tot (-1),up:=if gY S n=true then S.up++[(n,ds)] else S.up,now:= .rests 3 })
 |.flag l m=>if l=1 then ("",{ S with now:= .settles m }) else ("",{ S with now:= .flag (l-1) m })
 |.settles m=>if b=1 then ("",{ S with now:= .rests 3 }) else if m=true then eZ S else ("",S)
 |.rests l=>if b=0 then cA S false else ("",{ S with now:=if l=1 then .free 0 else .rests (l-1) })
 |.off=>("",S)
def FrN (f:Fr):Prop:=f.1<256/\f.2.length<=7/\f.2.all byt=true
theorem FrN.ok {f:Fr}(h:FrN f):nY (f.1:Int) f.2:=⟨fG.mpr ⟨by omega,by have:=h.1;omega⟩,h.2.1,h.2.2⟩
def Stc.Wf (wt:List Fr):Stc->Prop
 |.speaks n ds k=>FrN (n,ds)/\1<=k/\k<(wr n ds).length/\wt≠ []
 |.reads h=>bG h/\On h/\h.head? =some 0
 |.tlS _ _=>wt≠ []
 |.flag l _=>1<=l
 |.rests l=>1<=l
 |_=>True
structure Wf (S:PS):Prop where
 vt:S.vt<=5
 wt:∀f∈S.wt,FrN f
 now:S.now.Wf S.wt
theorem nm3 {l:List Int}(hb:bG l):szB l<=7:=by
 unfold szB
 have h:=jU (fX hb 9 3)
 have h2:((l.drop 9).take 3).length<=3:=by rw[Yo];omega
 have h3:=Yw (n:=2) (by decide) h2
 have:(2:Nat) ^ 3=8:=rfl
 omega
theorem b2V {h:List Int}(hb:bG h)(ho:On h):h.length<=170:=by
 have e:=xH hb ho.good
 have l:=(oY (kp h)).2
 have s:=nm3 (pB hb)
 have k83:(kp h).length<=83:=by
  by_cases c:12<=(kp h).length
  ·have:=ho.le c;omega
  ·omega
 have:h.length<=(put (kp h)).length:=by
  rw[e]
  split
  ·rw[Yc];omega
  ·exact Yd _
 omega
theorem yN {n:Nat}{ds:List Int}(h:FrN (n,ds)):Wr (wr n ds) (fb (n:Int) ds):=⟨rfl,pH _ _,b6K h.1 h.2.1⟩
theorem a2T {n:Nat}{ds:List Int}(h:FrN (n,ds)):27<=(wr n ds).length/\(wr n ds).length<=166:=by
 have a:=nR (n:Int) ds
 have b:=oY (fb (n:Int) ds)
 have c:=h.2.1
 have c':ds.length<=7:=c
 show 27<=(put (fb (n:Int) ds)).length/\(put (fb (n:Int) ds)).length<=166
 omega
theorem yM (n:Nat)(ds:List Int):(wr n ds).head? =some 0:=by
 show (put (fb (n:Int) ds)).head? =some 0
 rw[a4J]
 unfold fb hd hdD
 rfl
theorem a2S {n:Nat}{ds:List Int}:(wr n ds).take 1= [0]:=by
 have:=yM n ds
 generalize wr n ds=w at this
 cases w with
 |nil=>cases this
 |cons a b=>exact YT (fun y=>[y]) (Yq this)
theorem b0B {n:Nat}{ds:List Int}(h:FrN (n,ds)):∀k,k<(wr n ds).length->On ((wr n ds).take k)
 |0,_=>On.nil
 | k+1,hk=>by
  have ih:=b0B h k (by omega)
  have e:(wr n ds).take (k+1)=(wr n ds).take k++[(wr n ds)[k]]:=Yh (by omega)
  have m:=(yN h).more hk
  rw[e]at m ⊢
  exact ih.next m
theorem a1R {w:List Int}{b:Int}(h6:¬ ans (w++[b])="six")(h9:(kp w).length<9):ans (w++[b])="more":=by
 have h1:¬ 5<run (w++[b]):=fun z=>h6 (pI z)
 refine kI h1 (.inr fun c=>?_)
 have:=c.1
 rw[fV]at this
 split at this
 ·omega
 ·rw[Yc,Yy]at this;omega
theorem qL {S:PS}{st:Int}{w:Str}{nx:Stc}(h:Wf S)(hn:nx.Wf S.wt):Wf (cT S st w nx).2:=by
 unfold cT
 split
 ·exact⟨h.vt,h.wt,trivial⟩
 ·exact⟨h.vt,h.wt,hn⟩
theorem Wf.hear {S:PS}{b:Int}(h:Wf S)(hb:b=0\/b=1):Wf (bF S b).2:=by
 have hf:∀sp,Wf (cA S sp).2:=fun sp=>qL h (by show 1<=6;decide)
 have hr:∀sp,Wf (cJ S sp).2:=fun sp=>qL h trivial
 have hn:=h.now
 unfold bF
 cases e:S.now with
 | free k =>
  dsimp only
  split
  ·rename_i c
   split
   ·refine⟨h.vt,h.wt,?_⟩
    have hw:S.wt≠ []:=fun z=>by
     unfold bL at c
     rw[e]at c
     dsimp only at c
     rw[if_pos z]at c
     cases c
    cases ew:S.wt with
    |nil=>exact absurd ew hw
    | cons f r=>
     have hfn:=h.wt f (by rw[ew];exact YD)
     have:=a2T (n:=f.1) (ds:=f.2) hfn
     exact⟨hfn,Yd _,by show 1<(wr f.1 f.2).length;omega,by intro z;cases z⟩
   ·exact hf true
  ·split
   ·refine⟨h.vt,h.wt,⟨fun z hz=> .inl (Yj.mp hz),?_,rfl⟩⟩
    exact On.nil.next (b:=0) (by decide +kernel)
   ·exact⟨h.vt,h.wt,trivial⟩
 | speaks n ds k=>
  rw[e]at hn
  obtain⟨f1,f2,f3,f4⟩:=hn
  dsimp only
  split
  ·exact hf true
  rename_i c6
  split
  ·rename_i c
   have ho:=b0B f1 k f3
   refine⟨h.vt,h.wt,⟨?_,ho.next (a1R c6 c.2.2),?_⟩⟩
   ·exact mX (tD (yN f1).wbits) (fun z hz=>by rw[Yj.mp hz];exact hb)
   ·have hh:=yM n ds
    generalize wr n ds=w at hh f3
    cases w with
    |nil=>cases hh
    | cons x y=>
     cases k with
     |zero=>cases f2
     |succ k=>exact hh
  split
  ·split
   ·exact⟨h.vt,h.wt,f4⟩
   ·exact⟨h.vt,h.wt,⟨f1,by omega,by omega,f4⟩⟩
  ·exact hf true
 | reads r=>
  rw[e]at hn
  obtain⟨f1,f2,f3⟩:=hn
  dsimp only
  split
  ·rename_i c
   refine⟨h.vt,h.wt,⟨mX f1 (fun z hz=>by rw[Yj.mp hz];exact hb),f2.next c,?_⟩⟩
   rw[Y7,f3];rfl
  split
  ·exact⟨h.vt,h.wt,trivial⟩
  ·exact hf false
 | tlS v c=>
  rw[e]at hn
  dsimp only
  split
  ·exact⟨h.vt,h.wt,hn⟩
  split
  ·exact hf true
  split
  ·exact hr true
  ·exact⟨h.vt,fun f hf=>h.wt f (List.mem_of_mem_tail hf),by show 1<=3;decide⟩
 | tlR n ds v c=>
  dsimp only
  split
  ·exact⟨h.vt,h.wt,trivial⟩
  split
  ·exact hf false
  split
  ·exact hr false
  ·exact⟨h.vt,h.wt,by show 1<=3;decide⟩
 | flag l m=>
  rw[e]at hn
  have hl:1<=l:=hn
  dsimp only
  split
  ·exact⟨h.vt,h.wt,trivial⟩
  ·exact⟨h.vt,h.wt,by show 1<=l-1;omega⟩
 | settles m=>
  dsimp only
  split
  ·exact⟨h.vt,h.wt,by show 1<=3;decide⟩
  split
  ·exact qL h trivial
  ·exact h
 | rests l=>
  rw[e]at hn
  have hl:1<=l:=hn
  dsimp only
  split
  ·exact hf false
  ·refine⟨h.vt,h.wt,?_⟩
   show Stc.Wf S.wt (if l=1 then .free 0 else .rests (l-1))
   split
   ·trivial
   ·show 1<=l-1;omega
 |off=>exact h
def a2L (H:Hp)(o:Own)(t:Addr)(f:Fr):Prop:=∃d,H t=some (.tup [.int ((f.1:Nat):Int),.ref d])/\H d=some (.lst (f.2.map V.int))/\o d
inductive dJ (H:Hp)(o:Own):List V->List Fr->Prop
 |nil:dJ H o [] []
 |cons {t:Addr} {f:Fr} {ts:List V} {fs:List Fr}:a2L H o t f->dJ H o ts fs->dJ H o (.ref t::ts) (f::fs)
theorem dJ.len {H:Hp}{o:Own}:∀{ts:List V}{fs:List Fr},dJ H o ts fs->ts.length=fs.length
 |_,_,.nil=>rfl
 |_,_,.cons _ r=>YT (·+1) r.len
theorem dJ.snoc {H:Hp}{o:Own}{t:Addr}{f:Fr}:∀{ts:List V}{fs:List Fr},dJ H o ts fs->a2L H o t f->dJ H o (ts++[.ref t]) (fs++[f])
 |_,_,.nil,h=> .cons h .nil
 |_,_,.cons a r,h=> .cons a (r.snoc h)
theorem a2L.imp {H H':Hp}{o o':Own}{t:Addr}{f:Fr}(h:a2L H o t f)(g:∀x v,H x=some v->(o x\/isT v)->H' x=some v)(w:∀x,o x->o' x):a2L H' o' t f:=by
 obtain⟨d,e1,e2,e3⟩:=h
 exact⟨d,g _ _ e1 (.inr ⟨_,rfl⟩),g _ _ e2 (.inl e3),w d e3⟩
theorem dJ.imp {H H':Hp}{o o':Own}(g:∀x v,H x=some v->(o x\/isT v)->H' x=some v)(w:∀x,o x->o' x):∀{ts:List V}{fs:List Fr},dJ H o ts fs->dJ H' o' ts fs
 |_,_,.nil=> .nil
 |_,_,.cons a r=> .cons (a.imp g w) (r.imp g w)
theorem dJ.get {H:Hp}{o:Own}:∀{ts:List V}{fs:List Fr},dJ H o ts fs->∀{i:Nat}{v:V},ts[i]? =some v->∃t f,v= .ref t/\fs[i]? =some f/\a2L H o t f
 |_,_,.cons a _,0,_,rfl=>⟨_,_,rfl,rfl,a⟩
 |_,_,.cons _ r,i+1,_,h=>r.get (i:=i) h
abbrev pF (ch:Addr)(vt:Nat)(wl ul ct nw:Addr):List (Str×V):=[("choice",.ref ch),("votes",.int vt),("waiting",.ref wl),("handed_up",.ref ul),("tally",.ref ct),("now",.ref nw)]
abbrev Dl (o:Own)(wl ul:Addr):Own:=fun x=>o x/\x≠wl/\x≠ul
structure BAt (A:Cs)(H:Hp)(p nwf:Addr)(S:PS)(o:Own)(dx ch wl ul ct:Addr)(ws us:List V):Prop where
 e:H p=some (.ins A.post dx (pF ch S.vt wl ul ct nwf))
 ec:H ch=some (.tup [.int S.m1,.int S.m2])
 ew:H wl=some (.lst ws)
 fw:dJ H (Dl o wl ul) ws S.wt
 eu:H ul=some (.lst us)
 fu:dJ H (Dl o wl ul) us S.up
 et:rE A.count H ct S.tot
 op:o p
 ow:o wl
 ou:o ul
 ot:o ct
 ne:wl≠ul
 al:∀x,o x->H x≠none
def Bd (A:Cs)(H:Hp)(p nwf:Addr)(S:PS)(o:Own):Prop:=∃dx ch wl ul ct ws us,BAt A H p nwf S o dx ch wl ul ct ws us
theorem BAt.move {A:Cs}{H H':Hp}{p nwf:Addr}{S:PS}{o:Own}{dx ch wl ul ct:Addr}{ws us:List V}(h:BAt A H p nwf S o dx ch wl ul ct ws us)(g:∀x v,H x=some v->(o x\/isT v)->H' x=some v):BAt A H' p nwf S o dx ch wl ul ct ws us:=
 ⟨g _ _ h.e (.inl h.op),g _ _ h.ec (.inr ⟨_,rfl⟩),g _ _ h.ew (.inl h.ow),h.fw.imp (fun x v e z=>g x v e (z.imp_left And.left)) fun _ z=>z,g _ _ h.eu (.inl h.ou),h.fu.imp (fun x v e z=>g x v e (z.imp_left And.left)) fun _ z=>z,
  let ⟨d,e⟩:=h.et;⟨d,g _ _ e (.inl h.ot)⟩,h.op,h.ow,h.ou,h.ot,h.ne,fun x hx=>by
   have:=h.al x hx
   cases e:H x with
   |none=>exact absurd e this
   |some v=>rw[g x v e (.inl hx)];simp⟩
theorem Bd.move {A:Cs}{H H':Hp}{p nwf:Addr}{S:PS}{o:Own}(h:Bd A H p nwf S o)(g:∀x v,H x=some v->(o x\/isT v)->H' x=some v):Bd A H' p nwf S o:=
 let ⟨dx,ch,wl,ul,ct,ws,us,b⟩:=h;⟨dx,ch,wl,ul,ct,ws,us,b.move g⟩
theorem Bd.al {A:Cs}{H:Hp}{p nwf:Addr}{S:PS}{o:Own}(h:Bd A H p nwf S o):∀x,o x->H x≠none:=let ⟨_,_,_,_,_,_,_,b⟩:=h;b.al
theorem Bd.op {A:Cs}{H:Hp}{p nwf:Addr}{S:PS}{o:Own}(h:Bd A H p nwf S o):o p:=let ⟨_,_,_,_,_,_,_,b⟩:=h;b.op
theorem Bd.now {A:Cs}{H:Hp}{p nwf:Addr}{S S':PS}{o:Own}(h:Bd A H p nwf S o)(e1:S'.m1=S.m1)(e2:S'.m2=S.m2)(e3:S'.vt=S.vt)(e4:S'.wt=S.wt)(e5:S'.up=S.up)(e6:S'.tot=S.tot):Bd A H p nwf S' o:=by
 obtain⟨dx,ch,wl,ul,ct,ws,us,b⟩:=h
 exact⟨dx,ch,wl,ul,ct,ws,us,by rw[e3];exact b.e,by rw[e1,e2];exact b.ec,b.ew,by rw[e4];exact b.fw,b.eu,by rw[e5];exact b.fu,by rw[e6];exact b.et,b.op,b.ow,b.ou,b.ot,b.ne,b.al⟩
def b4K (A:Cs)(H:Hp)(nw:Addr)(vt:Nat)(o:Own):Stc->Prop
 |.free k=>∃dx,H nw=some (.ins A.free dx [("since",.int ((k:Nat):Int))])
 |.speaks n ds k=>∃dx wa r st ks t,H nw=some (.ins A.speaks dx [("wire",.ref wa),("reader",.ref r),("many",.int ((k:Nat):Int))])/\H wa=some (.lst ((wr n ds).map V.int))/\iC A.reader A.streak H r st ks ((wr n ds).take k) t/\wa≠ks/\o wa/\o r/\o st/\o ks
 |.reads h=>∃dx r st ks t,H nw=some (.ins A.reads dx [("reader",.ref r),("many",.int ((h.length:Nat):Int))])/\iC A.reader A.streak H r st ks h t/\o r/\o st/\o ks
 |.tlS v c=>∃dx tl,H nw=some (.ins A.intail dx [("tail",.ref tl),("found",.non)])/\nW A.rtail A.stail H tl vt true v c/\o tl
 |.tlR n ds v c=>∃dx tl t d,H nw=some (.ins A.intail dx [("tail",.ref tl),("found",.ref t)])/\nW A.rtail A.stail H tl vt false v c/\H t=some (.tup [.int ((n:Nat):Int),.ref d])/\H d=some (.lst (ds.map V.int))/\o tl/\o d
 |.flag l m=>∃dx,H nw=some (.ins A.flag dx [("left",.int ((l:Nat):Int)),("may_blame",.bl m)])
 |.settles m=>∃dx,H nw=some (.ins A.settles dx [("may_blame",.bl m)])
 |.rests l=>∃dx,H nw=some (.ins A.rests dx [("left",.int ((l:Nat):Int))])
 |.off=>∃dx,H nw=some (.ins A.off dx [])
structure StW (A:Cs)(H:Hp)(nw:Addr)(S:PS)(o:Own):Prop where
 at_:b4K A H nw S.vt o S.now
 on:o nw
 al:∀x,o x->H x≠none
theorem yV {C CK:Addr}{H H':Hp}{r st ks:Addr}{w:List Int}{t:Str}(h:iC C CK H r st ks w t)(g1:∀v,H r=some v->H' r=some v)(g2:∀v,H st=some v->H' st=some v)(g3:∀v,H ks=some v->H' ks=some v):iC C CK H' r st ks w t:=
 ⟨let ⟨d,e⟩:=h.rd;⟨d,g1 _ e⟩,let ⟨d,e⟩:=h.sk;⟨d,g2 _ e⟩,g3 _ h.kp⟩
theorem StW.move {A:Cs}{H H':Hp}{nw:Addr}{S:PS}{o:Own}(h:StW A H nw S o)(g:∀x v,H x=some v->(o x\/isT v)->H' x=some v):StW A H' nw S o:=by
 obtain⟨a,on,al⟩:=h
 have gn:∀v,H nw=some v->H' nw=some v:=fun v e=>g _ _ e (.inl on)
 refine⟨?_,on,fun x hx=>?_⟩
 ·revert a
  generalize S.now=s
  cases s with
  |free k=>intro hh;obtain⟨dx,e⟩:=hh;exact⟨dx,gn _ e⟩
  |speaks n ds k=>intro hh;obtain⟨dx,wa,r,st,ks,t,e,e1,e2,e3,o1,o2,o3,o4⟩:=hh;exact⟨dx,wa,r,st,ks,t,gn _ e,g _ _ e1 (.inl o1),yV e2 (fun v z=>g _ _ z (.inl o2)) (fun v z=>g _ _ z (.inl o3)) (fun v z=>g _ _ z (.inl o4)),e3,o1,o2,o3,o4⟩
  |reads w=>intro hh;obtain⟨dx,r,st,ks,t,e,e2,o2,o3,o4⟩:=hh;exact⟨dx,r,st,ks,t,gn _ e,yV e2 (fun v z=>g _ _ z (.inl o2)) (fun v z=>g _ _ z (.inl o3)) (fun v z=>g _ _ z (.inl o4)),o2,o3,o4⟩
  |tlS v c=>intro hh;obtain⟨dx,tl,e,⟨C,d,hC,e1⟩,o1⟩:=hh;exact⟨dx,tl,gn _ e,⟨C,d,hC,g _ _ e1 (.inl o1)⟩,o1⟩
  |tlR n ds v c=>intro hh;obtain⟨dx,tl,t,d,e,⟨C,d',hC,e1⟩,e2,e3,o1,o2⟩:=hh;exact⟨dx,tl,t,d,gn _ e,⟨C,d',hC,g _ _ e1 (.inl o1)⟩,g _ _ e2 (.inr ⟨_,rfl⟩),g _ _ e3 (.inl o2),o1,o2⟩
  |flag l m=>intro hh;obtain⟨dx,e⟩:=hh;exact⟨dx,gn _ e⟩
  |settles m=>intro hh;obtain⟨dx,e⟩:=hh;exact⟨dx,gn _ e⟩
  |rests l=>intro hh;obtain⟨dx,e⟩:=hh;exact⟨dx,gn _ e⟩
  |off=>intro hh;obtain⟨dx,e⟩:=hh;exact⟨dx,gn _ e⟩
 ·have:=al x hx
  cases e:H x with
  |none=>exact absurd e this
  |some v=>rw[g x v e (.inl hx)];simp
def bU (A:Cs)(H:Hp)(p:Addr)(S:PS)(o:Own):Prop:=∃nw ob os,Bd A H p nw S ob/\StW A H nw S os/\(∀x,ob x->os x->False)/\Wf S/\(∀x,ob x\/os x->o x)/\∀x,o x->H x≠none
theorem bU.move {A:Cs}{H H':Hp}{p:Addr}{S:PS}{o:Own}(h:bU A H p S o)(g:∀x v,H x=some v->(o x\/isT v)->H' x=some v):bU A H' p S o:=by
 obtain⟨nw,ob,os,b,s,d,w,i,al⟩:=h
 refine⟨nw,ob,os,b.move fun x v e z=>g x v e (z.imp_left fun y=>i x (.inl y)),s.move fun x v e z=>g x v e (z.imp_left fun y=>i x (.inr y)),d,w,i,fun x hx=>?_⟩
 have:=al x hx
 cases e:H x with
 |none=>exact absurd e this
 |some v=>rw[g x v e (.inl hx)];simp
theorem bU.same {A:Cs}{H H':Hp}{p:Addr}{S:PS}{o:Own}(h:bU A H p S o)(g:Same H H'):bU A H' p S o:=h.move fun x v e _=>g x v e
theorem bU.wf {A:Cs}{H:Hp}{p:Addr}{S:PS}{o:Own}(h:bU A H p S o):Wf S:=let ⟨_,_,_,_,_,_,w,_,_⟩:=h;w
theorem bU.al {A:Cs}{H:Hp}{p:Addr}{S:PS}{o:Own}(h:bU A H p S o):∀x,o x->H x≠none:=let ⟨_,_,_,_,_,_,_,_,a⟩:=h;a
theorem at0 {v:V}{vs:List V}:atI (v::vs) (0:Int)=some v:=cX (j:=0) rfl
theorem sq0 {v:V}{vs:List V}:seqIndex? (0:Int) (v::vs).length=some 0:=by
 unfold seqIndex?
 rw[YN]
 simp
theorem jE (H:Hp)(a:Addr)(x y:HO):upd (upd H a x) a y=upd H a y:=by
 funext z
 by_cases h:z=a
 ·rw[h,aB,aB]
 ·rw[aK h,aK h,aK h]
def wX (C:Addr)(f:Str):Sp:=fun vs H Q _=>∃a dx v,vs= [.ref a,v]/\H a=some (.ins C dx [])/\∀H',H'=upd H a (.ins C dx [(f,v)])->Q .non H'
def wW (C:Addr)(f g:Str):Sp:=fun vs H Q _=>∃a dx v w,vs= [.ref a,v,w]/\H a=some (.ins C dx [])/\∀H',H'=upd H a (.ins C dx [(f,v),(g,w)])->Q .non H'
def b1R (C:Addr)(f g h:Str):Sp:=fun vs H Q _=>∃a dx v w z,vs= [.ref a,v,w,z]/\H a=some (.ins C dx [])/\∀H',H'=upd H a (.ins C dx [(f,v),(g,w),(h,z)])->Q .non H'
def a7T (A:Cs):Sp:=fun vs H Q _=>vs= []/\∀r st ks H' t,iC A.reader A.streak H' r st ks [0] t->Same H H'->H r=none->H st=none->H ks=none->Q (.ref r) H'
def b0K (A:Cs)(lim:Int):Sp:=fun vs H Q _=>∃p nwf S o,vs= [.ref p]/\Bd A H p nwf S o/\Q (.bl (decide (lim<=S.tot))) H
def b5C (A:Cs):Sp:=fun vs H Q _=>∃p nwf S o,vs= [.ref p]/\Bd A H p nwf S o/\Q (.bl (decide (0<(S.wt.length:Int)))) H
def wY (A:Cs):Sp:=fun vs H Q _=>∃p nwf S o f r,vs= [.ref p]/\Bd A H p nwf S o/\S.wt=f::r/\FrN f/\∀pw H',H pw=none->Same H H'->H' pw=some (.lst ((wr f.1 f.2).map V.int))->Q (.ref pw) H'
def b1U (A:Cs):Sp:=fun vs H Q _=>∃p nwf S o,vs= [.ref p]/\Bd A H p nwf S o/\S.wt≠ []/\∀H',Bd A H' p nwf { S with wt:=S.wt.tail } o->cI o H H'->Q .non H'
def a3W (A:Cs):Sp:=fun vs H Q _=>∃p nwf S o t d n ds,vs= [.ref p,.ref t]/\Bd A H p nwf S o/\H t=some (.tup [.int ((n:Nat):Int),.ref d])/\H d=some (.lst (ds.map V.int))/\¬ o d/\S.up.length<900/\
 ∀H',Bd A H' p nwf { S with up:=if gY S n=true then S.up++[(n,ds)] else S.up } (Or2 o fun x=>x=d)->cI o H H'->Q .non H'
def b1S (K:W.Frag)(A:Cs)(C:Addr):Sp:=fun vs H Q E=>∃p nwf S o n a ds,vs= [.ref p,.int n,.ref a]/\Bd A H p nwf S o/\SqL K H a (ds.map V.int)/\ds.length<=500/\S.wt.length<900/\
 (nY n ds->∀H' d,H d=none->Bd A H' p nwf { S with wt:=S.wt++[(n.toNat,ds)] } (Or2 o fun x=>x=d)->cI o H H'->Q .non H')/\(¬ nY n ds->∀H',Same H H'->E (.ref C) none H')
inductive eN (H H':Hp):List V->List Fr->Prop
 |nil:eN H H' [] []
 |cons {t d:Addr} {f:Fr} {ts:List V} {fs:List Fr}:H t=none->H d=none->H' t=some (.tup [.int ((f.1:Nat):Int),.ref d])->H' d=some (.lst (f.2.map V.int))->eN H H' ts fs->eN H H' (.ref t::ts) (f::fs)
theorem eN.snoc {H H':Hp}{t d:Addr}{f:Fr}(h1:H t=none)(h2:H d=none)(e1:H' t=some (.tup [.int ((f.1:Nat):Int),.ref d]))(e2:H' d=some (.lst (f.2.map V.int))):∀{ts:List V}{fs:List Fr},eN H H' ts fs->eN H H' (ts++[.ref t]) (fs++[f])
 |_,_,.nil=> .cons h1 h2 e1 e2 .nil
 |_,_,.cons a1 a2 a3 a4 r=> .cons a1 a2 a3 a4 (r.snoc h1 h2 e1 e2)
theorem eN.same {H H' H2:Hp}(g:Same H' H2):∀{ts:List V}{fs:List Fr},eN H H' ts fs->eN H H2 ts fs
 |_,_,.nil=> .nil
 |_,_,.cons a1 a2 a3 a4 r=> .cons a1 a2 (g _ _ a3) (g _ _ a4) (r.same g)
theorem eN.len {H H':Hp}:∀{ts:List V}{fs:List Fr},eN H H' ts fs->ts.length=fs.length
 |_,_,.nil=>rfl
 |_,_,.cons _ _ _ _ r=>YT (·+1) r.len
def a3Z (K:W.Frag):Sp:=fun vs H Q _=>∃(a:Addr)(ts:List V)(fs:List Fr)(o:Own),vs= [.ref a]/\H a=some (.lst ts)/\dJ H o ts fs/\fs.length<=900/\∀l xs H',H l=none->Same H H'->H' l=some (.lst xs)->eN H H' xs fs->Q (.ref l) H'
def b5D (A:Cs):Sp:=fun vs H Q _=>∃p nwf S o,vs= [.ref p]/\Bd A H p nwf S o/\S.up.length<=900/\∀l xs H',H l=none->Same H H'->H' l=some (.lst xs)->eN H H' xs S.up->Q (.ref l) H'
def a3E (A:Cs):Sp:=fun vs H Q _=>∃p nwf S o w nx,vs= [.ref p,.str w,.ref nx]/\Bd A H p nwf S o/\(¬ 18<=S.tot->∀t H',Same H H'->H' t=some (.tup [.str w,.ref nx])->Q (.ref t) H')/\
 (18<=S.tot->∀t nw dx H',Same H H'->H nw=none->H' nw=some (.ins A.off dx [])->H' t=some (.tup [.str "off",.ref nw])->Q (.ref t) H')
def Aft (A:Cs)(H:Hp)(p nwf:Addr)(o:Own)(r:Str×PS)(t:Addr)(H':Hp):Prop:=∃nw' os',H' t=some (.tup [.str r.1,.ref nw'])/\Bd A H' p nwf r.2 o/\StW A H' nw' r.2 os'/\(∀x,os' x->H x=none)/\cI o H H'
def Stp (A:Cs)(H:Hp)(p nwf:Addr)(ob os:Own)(r:Str×PS)(t:Addr)(H':Hp):Prop:=∃nw' ob' os',H' t=some (.tup [.str r.1,.ref nw'])/\Bd A H' p nwf r.2 ob'/\StW A H' nw' r.2 os'/\(∀x,ob' x->os' x->False)/\Mv (Or2 ob os) H (Or2 ob' os') H'
def a7O (A:Cs):Sp:=fun vs H Q _=>∃p nwf S o sp,vs= [.ref p,.bl sp]/\Bd A H p nwf S o/\∀t H',Aft A H p nwf o (cA S sp) t H'->Q (.ref t) H'
def a0V (A:Cs):Sp:=fun vs H Q _=>∃p nwf S o sp,vs= [.ref p,.bl sp]/\Bd A H p nwf S o/\∀t H',Aft A H p nwf o (cJ S sp) t H'->Q (.ref t) H'
def a7S (A:Cs):Sp:=fun vs H Q _=>∃p nwf S o,vs= [.ref p]/\Bd A H p nwf S o/\∀t H',Aft A H p nwf o (eZ S) t H'->Q (.ref t) H'
theorem lX {o o':Own}{H H':Hp}{x:Addr}(k:cI o H H')(n:H' x=none):o x\/H x=none:=by
 rcases Classical.em (o x) with c | c
 ·exact .inl c
 ·right
  cases e:H x with
  |none=>rfl
  |some v=>rw[k x v e (.inl c)]at n;cases n
theorem Aft.stp {A:Cs}{H0 H H':Hp}{p nwf t:Addr}{ob os:Own}{r:Str×PS}{S:PS}(h:Aft A H p nwf ob r t H')(k:cI (Or2 ob os) H0 H)(b:Bd A H p nwf S ob):Stp A H0 p nwf ob os r t H':=by
 obtain⟨nw',os',e,bd,st,fr,kp⟩:=h
 refine⟨nw',ob,os',e,bd,st,fun x hx hy=>b.al x hx (fr x hy),fun x v ex z=>?_,fun x hx=>?_⟩
 ·exact kp x v (k x v ex z) (z.imp_left fun y w=>y (.inl w))
 ·rcases hx with hx | hx
  ·exact .inl (.inl hx)
  ·exact lX (o':=ob) k (fr x hx)
theorem Bd.count {A:Cs}{H H':Hp}{p nwf ct:Addr}{S:PS}{o:Own}{dx ch wl ul:Addr}{ws us:List V}{n:Int}(b:BAt A H p nwf S o dx ch wl ul ct ws us)(c:rE A.count H' ct n)(k:∀x,x≠ct->H' x=H x):Bd A H' p nwf { S with tot:=n } o/\cI o H H':=by
 have ne:∀{x:Addr}{v:HO},H x=some v->(∀C d,v≠ .ins C d (ctF S.tot))->x≠ct:=fun {x v} e h z=>by
  obtain⟨d,q⟩:=b.et
  rw[z,q]at e
  exact h _ _ (Yq e).symm
 have kk:cI o H H':=fun x v e z=>by
  rw[k x]
  ·exact e
  ·rintro rfl
   rcases z with z | ⟨vs,rfl⟩
   ·exact z b.ot
   ·obtain⟨d,q⟩:=b.et
    rw[q]at e;cases e
 have lk:∀{x:Addr}{l:List V},H x=some (.lst l)->H' x=some (.lst l):=fun {x l} e=>by rw[k x (ne e fun C d z=>nomatch z)];exact e
 have fk:∀{ts:List V}{fs:List Fr},dJ H (Dl o wl ul) ts fs->dJ H' (Dl o wl ul) ts fs:=fun {ts fs} h=>by
  induction h with
  |nil=>exact .nil
  | cons a _ ih=>
   obtain⟨d,e1,e2,e3⟩:=a
   exact .cons ⟨d,kk.tup e1,lk e2,e3⟩ ih
 refine⟨⟨dx,ch,wl,ul,ct,ws,us,?_,kk.tup b.ec,lk b.ew,fk b.fw,lk b.eu,fk b.fu,c,b.op,b.ow,b.ou,b.ot,b.ne,fun x hx=>?_⟩,kk⟩
 ·rw[k p (ne b.e fun C d z=>by cases z)];exact b.e
 ·by_cases h:x=ct
  ·obtain⟨d,q⟩:=c
   rw[h,q];simp
  ·rw[k x h];exact b.al x hx
def a3D (K:W.Frag):Sp:=fun vs H Q _=>∃(c:Addr)(m t n:Int),vs= [.ref c,.int n]/\H c=some (.tup [.int m,.int t])/\Q (.bl (decide (Builtin.bitAnd n m=t))) H
def a4A (K:W.Frag)(C:Addr):Sp:=fun vs H Q E=>∃(a:Addr)(ns:List Int),vs= [.ref a]/\SqT K H a (ns.map V.int)/\ns.length<=500/\(ns.all byt=true->∀H',Same H H'->Q .non H')/\(¬ ns.all byt=true->∀H',Same H H'->E (.ref C) none H')
def S0 (m1 m2 v:Nat):PS:=⟨m1,m2,v, [], [],0,.free 0⟩
def a2K (m1 m2 v:Int):Prop:=byt m1=true/\byt m2=true/\(v=1\/v=3\/v=5)
def wU (K:W.Frag)(A:Cs)(C:Addr):Sp:=fun vs H Q E=>∃(a dx ch:Addr)(m1 m2 v:Int),vs= [.ref a,.ref ch,.int v]/\H a=some (.ins A.post dx [])/\H ch=some (.tup [.int m1,.int m2])/\
 (a2K m1 m2 v->∀H' o,bU A H' a (S0 m1.toNat m2.toNat v.toNat) o->(∀x,o x->x=a\/H x=none)->(∀x u,x≠a->H x=some u->H' x=some u)->Q .non H')/\(¬ a2K m1 m2 v->∀H',(∀x u,x≠a->H x=some u->H' x=some u)->E (.ref C) none H')
theorem Bd.grow {A:Cs}{H:Hp}{p nwf d:Addr}{S:PS}{o:Own}{v:HO}(h:Bd A H p nwf S o)(e:H d=some v):Bd A H p nwf S (Or2 o fun x=>x=d):=by
 obtain⟨dx,ch,wl,ul,ct,ws,us,b⟩:=h
 refine⟨dx,ch,wl,ul,ct,ws,us,b.e,b.ec,b.ew,b.fw.imp (fun x v e _=>e) (fun x z=>⟨.inl z.1,z.2⟩),b.eu,b.fu.imp (fun x v e _=>e) (fun x z=>⟨.inl z.1,z.2⟩),b.et,.inl b.op,.inl b.ow,.inl b.ou,.inl b.ot,b.ne,fun x hx=>?_⟩
 rcases hx with hx | hx
 ·exact b.al x hx
 ·have hx':x=d:=hx
  rw[hx',e];simp
theorem vP {A:Cs}{H:Hp}{p nwf:Addr}{S:PS}{o:Own}{dx ch wl ul ct a:Addr}{ws us ys:List V}(b:BAt A H p nwf S o dx ch wl ul ct ws us)(ha:a=wl\/a=ul) :
  cI o H (upd H a (.lst ys))/\upd H a (.lst ys) p=H p/\upd H a (.lst ys) ch=H ch/\upd H a (.lst ys) ct=H ct/\(∀{ts:List V}{fs:List Fr},dJ H (Dl o wl ul) ts fs->dJ (upd H a (.lst ys)) (Dl o wl ul) ts fs)/\∀x,o x->upd H a (.lst ys) x≠none:=by
 have ea:∃l,H a=some (.lst l):=ha.elim (fun z=>⟨_,z▸b.ew⟩) fun z=>⟨_,z▸b.eu⟩
 obtain⟨l,ea⟩:=ea
 have oa:o a:=ha.elim (fun z=>z▸b.ow) fun z=>z▸b.ou
 have kk:cI o H (upd H a (.lst ys)):=fun x v e z=>by
  rw[aK]
  ·exact e
  ·rintro rfl
   rcases z with z | ⟨vs,rfl⟩
   ·exact z oa
   ·rw[ea]at e;cases e
 have nl:∀{x:Addr}{v:HO},H x=some v->(∀l,v≠ .lst l)->upd H a (.lst ys) x=H x:=fun {x v} e h=>by
  rw[aK]
  rintro rfl
  rw[ea]at e
  exact h _ (Yq e).symm
 refine⟨kk,nl b.e (fun l z=>nomatch z),nl b.ec (fun l z=>nomatch z),(let ⟨d,e⟩:=b.et;nl e fun l z=>nomatch z),fun {ts fs} h=>?_,fun x hx=>?_⟩
 ·induction h with
  |nil=>exact .nil
  | cons a' _ ih=>
   obtain⟨d,e1,e2,e3⟩:=a'
   refine .cons ⟨d,kk.tup e1,?_,e3⟩ ih
   rw[aK (ha.elim (fun z=>z▸e3.2.1) fun z=>z▸e3.2.2)]
   exact e2
 ·by_cases h:x=a
  ·rw[h,aB];simp
  ·rw[aK h];exact b.al x hx
def Stc.tag:Stc->Nat
 |.free _=>0
 |.speaks _ _ _=>1
 |.reads _=>2
 |.tlS _ _=>3
 |.tlR _ _ _ _=>3
 |.flag _ _=>4
 |.settles _=>5
 |.rests _=>6
 |.off=>7
def cM (A:Cs)(i:Nat):Sp:=fun vs H Q _=>∃nw p nwf S ob os,vs= [.ref nw,.ref p]/\S.now.tag=i/\Bd A H p nwf S ob/\StW A H nw S os/\Wf S/\Q (.int (bL S)) H
def cL (A:Cs)(i:Nat):Sp:=fun vs H Q _=>∃nw p nwf S ob os b,vs= [.ref nw,.int b,.ref p]/\S.now.tag=i/\Bd A H p nwf S ob/\StW A H nw S os/\(∀x,ob x->os x->False)/\Wf S/\(b=0\/b=1)/\S.up.length<900/\∀t H',Stp A H p nwf ob os (bF S b) t H'->Q (.ref t) H'
structure Bef (S S':PS):Prop where
 e1:S'.m1=S.m1
 e2:S'.m2=S.m2
 e3:S'.vt=S.vt
 e4:S'.wt=S.wt
 e5:S'.up=S.up
 e6:S'.tot=S.tot
theorem Stp.go {A:Cs}{H0 H1 H':Hp}{p nwf t nw':Addr}{ob os os':Own}{S:PS}{r:Str×PS}(b:Bd A H0 p nwf S ob)(dj:∀x,ob x->os x->False)(k:cI os H0 H1)(g:Same H1 H')(e:H' t=some (.tup [.str r.1,.ref nw']))(f:Bef S r.2)(st:StW A H' nw' r.2 os')(fr:∀x,os' x->os x\/H1 x=none):Stp A H0 p nwf ob os r t H':=by
 have b1:Bd A H1 p nwf S ob:=b.move fun x v e z=>k x v e (z.imp_left fun y w=>dj x y w)
 refine⟨nw',ob,os',e,(b1.move fun x v e _=>g x v e).now f.e1 f.e2 f.e3 f.e4 f.e5 f.e6,st,fun x hx hy=>?_,fun x v ex z=>g x v (k x v ex (z.imp_left fun y w=>y (.inr w))),fun x hx=>?_⟩
 ·exact(fr x hy).elim (dj x hx) (b1.al x hx)
 ·rcases hx with hx | hx
  ·exact .inl (.inl hx)
  ·rcases fr x hx with h | h
   ·exact .inl (.inr h)
   ·exact(lX (o':=ob) k h).imp_left .inr
theorem Stp.go2 {A:Cs}{H0 H1 H':Hp}{p nwf t nw':Addr}{ob os ob' os':Own}{r:Str×PS}(b:Bd A H1 p nwf r.2 ob')(k:cI (Or2 ob os) H0 H1)(g:Same H1 H')(e:H' t=some (.tup [.str r.1,.ref nw']))(st:StW A H' nw' r.2 os')(fr:∀x,os' x->H1 x=none)(fo:∀x,ob' x->Or2 ob os x\/H0 x=none):Stp A H0 p nwf ob os r t H':=by
 refine⟨nw',ob',os',e,b.move fun x v e _=>g x v e,st,fun x hx hy=>b.al x hx (fr x hy),fun x v ex z=>g x v (k x v ex z),fun x hx=>?_⟩
 rcases hx with hx | hx
 ·exact fo x hx
 ·exact lX (o':=ob) k (fr x hx)
theorem gG {A:Cs}{H:Hp}{nw:Addr}{S:PS}{v:HO}(e:H nw=some v)(h:b4K A H nw S.vt (fun x=>x=nw) S.now):StW A H nw S (fun x=>x=nw):=⟨h,rfl,fun x hx=>by
 have hx':x=nw:=hx
 rw[hx',e];simp⟩
theorem uU {S:PS}{k:Nat}(e:S.now= .free k):bL S=if S.wt= [] then 1 else if 12<=S.tot/\k<8 then 1 else 0:=by unfold bL;rw[e]
def a3U (A:Cs):Sp:=fun vs H Q _=>∃p S o,vs= [.ref p]/\bU A H p S o/\Q (.int (bL S)) H
def a3V (A:Cs):Sp:=fun vs H Q _=>∃p S o b,vs= [.ref p,.int b]/\bU A H p S o/\(b=0\/b=1)/\S.up.length<900/\∀H' o',bU A H' p (bF S b).2 o'->Mv o H o' H'->Q (.str (bF S b).1) H'
theorem qF {H:Hp}{x y C D dx dy:Addr}{fs gs:List (Str×V)}{v:V}(f:Str)(e1:H x=some (.ins C dx fs))(e2:H y=some (.ins D dy gs))(h1:fs.lookup f=some v)(h2:gs.lookup f=none):x≠y:=fun z=>by
 rw[z,e2]at e1
 have:=Yq e1
 injection this with _ _ h
 rw[<-h,h2]at h1
 cases h1
theorem zJ {H:Hp}{x y C dx:Addr}{fs:List (Str×V)}{l:List V}(e1:H x=some (.ins C dx fs))(e2:H y=some (.lst l)):x≠y:=fun z=>by
 rw[z,e2]at e1
 cases e1
theorem zR {C CK:Addr}{H H1:Hp}{r st ks:Addr}{w:List Int}{t:Str}{o:Own}(h:iC C CK H r st ks w t)(b:a9X H H1 r st ks)(o1:o r)(o2:o st)(o3:o ks):cI o H H1:=fun x v e z=>by
 refine b x v ?_ ?_ ?_ e
 ·rintro rfl
  rcases z with z | ⟨vs,rfl⟩
  ·exact z o1
  ·obtain⟨d,q⟩:=h.rd;rw[q]at e;cases e
 ·rintro rfl
  rcases z with z | ⟨vs,rfl⟩
  ·exact z o2
  ·obtain⟨d,q⟩:=h.sk;rw[q]at e;cases e
 ·rintro rfl
  rcases z with z | ⟨vs,rfl⟩
  ·exact z o3
  ·rw[h.kp]at e;cases e
theorem zQ {C1 C2:Addr}{H H1:Hp}{tl:Addr}{v n c:Nat}{s:Bool}{o:Own}(h:nW C1 C2 H tl v s n c)(b:a6Z H H1 tl)(o1:o tl):cI o H H1:=fun x u e z=>by
 refine b x u ?_ e
 rintro rfl
 rcases z with z | ⟨vs,rfl⟩
 ·exact z o1
 ·obtain⟨C,d,_,q⟩:=h;rw[q]at e;cases e
theorem pC {A:Cs}{H H1:Hp}{p nwf:Addr}{S:PS}{ob os:Own}(bd:Bd A H p nwf S ob)(dj:∀x,ob x->os x->False)(k:cI os H H1):Bd A H1 p nwf S ob:=bd.move fun x v e z=>k x v e (z.imp_left fun y w=>dj x y w)
theorem getD_get {w:List Int}{k:Nat}(h:k<w.length):w.getD k 0=w[k]:=by rw[Yg,Yb h];rfl
theorem kY {A:Cs}{H0 H1 H':Hp}{p nwf t nw':Addr}{ob os:Own}{S:PS}{r:Str×PS}{v:HO}(b:Bd A H0 p nwf S ob)(dj:∀x,ob x->os x->False)(k:cI os H0 H1)(g:Same H1 H')(e:H' t=some (.tup [.str r.1,.ref nw']))(f:Bef S r.2)(hn:H1 nw'=none)(en:H' nw'=some v)(sa:b4K A H' nw' r.2.vt (fun x=>x=nw') r.2.now):Stp A H0 p nwf ob os r t H':=
 Stp.go b dj k g e f (gG en sa) fun x hx=> .inr (by have hx':x=nw':=hx;rw[hx'];exact hn)
theorem lB {S:PS}{k:Nat}{b:Int}(e:S.now= .free k):bF S b=(if bL S=0 then (if b=0 then ("begins",{ S with now:= .speaks (S.wt.headD (0, [])).1 (S.wt.headD (0, [])).2 1 }) else cA S true) else if b=0 then ("",{ S with now:= .reads [0] }) else ("",{ S with now:= .free (k+1) }):Str×PS):=by unfold bF;rw[e]
theorem lC {S:PS}{l:Nat}{m:Bool}{b:Int}(e:S.now= .flag l m):bF S b=(if l=1 then ("",{ S with now:= .settles m }) else ("",{ S with now:= .flag (l-1) m }):Str×PS):=by unfold bF;rw[e]
theorem iB {S:PS}{m:Bool}{b:Int}(e:S.now= .settles m):bF S b=(if b=1 then ("",{ S with now:= .rests 3 }) else if m=true then eZ S else ("",S):Str×PS):=by unfold bF;rw[e]
theorem jL {S:PS}{l:Nat}{b:Int}(e:S.now= .rests l):bF S b=(if b=0 then cA S false else ("",{ S with now:=if l=1 then .free 0 else .rests (l-1) }):Str×PS):=by unfold bF;rw[e]
theorem mH {S:PS}{b:Int}(e:S.now= .off):bF S b=(("",S):Str×PS):=by unfold bF;rw[e]
theorem jM {S:PS}{h:List Int}{b:Int}(e:S.now= .reads h):bF S b=(if ans (h++[b])="more" then ("",{ S with now:= .reads (h++[b]) }) else if ans (h++[b])="whole" then ("",{ S with now:= .tlR (nmB (kp (h++[b]))) (daB (kp (h++[b]))) 0 0 }) else cA S false:Str×PS):=by unfold bF;rw[e]
theorem iW {S:PS}{n:Nat}{ds:List Int}{k:Nat}{b:Int}(e:S.now= .speaks n ds k):bF S b=(if ans ((wr n ds).take k++[b])="six" then cA S true else if (wr n ds).getD k 0=1/\b=0/\(kp ((wr n ds).take k)).length<9 then ("loses",{ S with now:= .reads ((wr n ds).take k++[b]) }) else if b=(wr n ds).getD k 0 then (if k+1=(wr n ds).length then ("",{ S with now:= .tlS 0 0 }) else ("",{ S with now:= .speaks n ds (k+1) })) else cA S true:Str×PS):=by unfold bF;rw[e]
theorem mF {S:PS}{v c:Nat}{b:Int}(e:S.now= .tlS v c):bF S b=(if cZ S.vt true v c b="more" then ("",{ S with now:= .tlS (v+1) (tlN v b c) }) else if cZ S.vt true v c b="fault" then cA S true else if cZ S.vt true v c b="refused" then cJ S true else ("done",{ S with tot:=mvd S.tot (-1),wt:=S.wt.tail,now:= .rests 3 }):Str×PS):=by unfold bF;rw[e]
theorem mG {S:PS}{n:Nat}{ds:List Int}{v c:Nat}{b:Int}(e:S.now= .tlR n ds v c):bF S b=(if cZ S.vt false v c b="more" then ("",{ S with now:= .tlR n ds (v+1) (tlN v b c) }) else if cZ S.vt false v c b="fault" then cA S false else if cZ S.vt false v c b="refused" then cJ S false else ("takes",{ S with tot:=mvd S.tot (-1),up:=if gY S n=true then S.up++[(n,ds)] else S.up,now:= .rests 3 }):Str×PS):=by unfold bF;rw[e]
structure Mid (H:Hp)(a:Addr)(v:HO)(cs:List (Addr×HO))(Hx:Hp):Prop where
 ea:Hx a=some v
 kp:∀x u,x≠a->H x=some u->Hx x=some u
 nw:∀c∈cs,H c.1=none/\c.1≠a/\Hx c.1=some c.2
 nd:(cs.map Prod.fst).Nodup
theorem Mid.set {H:Hp}{a:Addr}{v:HO}{cs:List (Addr×HO)}{Hx:Hp}(m:Mid H a v cs Hx)(v':HO):Mid H a v' cs (upd Hx a v'):=
 ⟨aB,fun x u hx h=>by rw[aK hx];exact m.kp x u hx h,fun c hc=>⟨(m.nw c hc).1,(m.nw c hc).2.1,by rw[aK (m.nw c hc).2.1];exact(m.nw c hc).2.2⟩,m.nd⟩
theorem Mid.add {H:Hp}{a y:Addr}{v o:HO}{cs:List (Addr×HO)}{Hx Hy:Hp}(m:Mid H a v cs Hx)(hn:Hx y=none)(g:Same Hx Hy)(e:Hy y=some o):Mid H a v ((y,o)::cs) Hy:=by
 have ya:y≠a:=fun z=>by rw[z,m.ea]at hn;cases hn
 refine⟨g _ _ m.ea,fun x u hx h=>g _ _ (m.kp x u hx h),fun c hc=>?_,YX.mpr ⟨fun h=>?_,m.nd⟩⟩
 ·rcases YE.mp hc with rfl | hc
  ·refine⟨?_,ya,e⟩
   cases eh:H y with
   |none=>rfl
   |some u=>rw[m.kp y u ya eh]at hn;cases hn
  ·exact⟨(m.nw c hc).1,(m.nw c hc).2.1,g _ _ (m.nw c hc).2.2⟩
 ·obtain⟨c,hc,ec⟩:=Y1.mp h
  have:=(m.nw c hc).2.2
  rw[ec,hn]at this
  cases this
theorem nJ {A:Cs}{H H1:Hp}{p nwf x:Addr}{S:PS}{o:Own}(b:Bd A H1 p nwf S o)(k:cI o H H1)(n:H1 x=none):H x=none:=by
 rcases lX (o':=o) k n with h | h
 ·exact absurd n (b.al x h)
 ·exact h
theorem a1Z {A:Cs}{H':Hp}{p nwf nw':Addr}{S:PS}{ob' os':Own}{b:Int}(wf:Wf S)(hb:b=0\/b=1)(b':Bd A H' p nwf (bF S b).2 ob')(s':StW A H' nw' (bF S b).2 os')(dj':∀x,ob' x->os' x->False)
  {dp ch wl ul ct:Addr} {ws us:List V} (bb:BAt A H' p nwf (bF S b).2 ob' dp ch wl ul ct ws us) :
  bU A (upd H' p (.ins A.post dp (pF ch (bF S b).2.vt wl ul ct nw'))) p (bF S b).2 (Or2 ob' os')/\cI (fun x=>x=p) H' (upd H' p (.ins A.post dp (pF ch (bF S b).2.vt wl ul ct nw'))):=by
 have kk:cI (fun x=>x=p) H' (upd H' p (.ins A.post dp (pF ch (bF S b).2.vt wl ul ct nw'))):=fun x v e z=>by
  rw[aK]
  ·exact e
  ·rintro rfl
   rcases z with z | ⟨vs,rfl⟩
   ·exact z rfl
   ·rw[bb.e]at e;cases e
 have ne:∀{x:Addr}{v:HO},H' x=some v->x≠p->upd H' p (.ins A.post dp (pF ch (bF S b).2.vt wl ul ct nw')) x=some v:=fun e h=>by rw[aK h];exact e
 have nl:∀{x:Addr}{l:List V},H' x=some (.lst l)->x≠p:=fun e z=>by rw[z,bb.e]at e;cases e
 have fk:∀{ts:List V}{fs:List Fr},dJ H' (Dl ob' wl ul) ts fs->dJ (upd H' p (.ins A.post dp (pF ch (bF S b).2.vt wl ul ct nw'))) (Dl ob' wl ul) ts fs:=fun {ts fs} h=>by
  induction h with
  |nil=>exact .nil
  | cons a _ ih=>
   obtain⟨d,e1,e2,e3⟩:=a
   exact .cons ⟨d,kk.tup e1,ne e2 (nl e2),e3⟩ ih
 have al:∀x,Or2 ob' os' x->upd H' p (.ins A.post dp (pF ch (bF S b).2.vt wl ul ct nw')) x≠none:=fun x hx=>by
  by_cases h:x=p
  ·rw[h,aB];simp
  ·rw[aK h];exact hx.elim (bb.al x) (s'.al x)
 obtain⟨dc,ec⟩:=id bb.et
 have ncp:ct≠p:=qF "total" ec bb.e rfl rfl
 refine⟨⟨nw',ob',os',⟨dp,ch,wl,ul,ct,ws,us,aB,kk.tup bb.ec,ne bb.ew (nl bb.ew),fk bb.fw,ne bb.eu (nl bb.eu),fk bb.fu,⟨dc,ne ec ncp⟩,bb.op,bb.ow,bb.ou,bb.ot,bb.ne,fun x hx=>al x (.inl hx)⟩,s'.move fun x v e z=>kk x v e (z.imp_left fun y w=>dj' x (by have w':x=p:=w;rw[w'];exact bb.op) y),dj',wf.hear hb,fun x hx=>hx,al⟩,kk⟩
structure Lw (A:Cs)(H0 H:Hp)(p:Addr)(S:PS)(o:Own):Prop where
 same:Same H0 H
 fr:∀x,o x->H0 x=none
 po:bU A H p S o
theorem Wf.hand {S:PS}{f:Fr}(h:Wf S)(hf:FrN f):Wf { S with wt:=S.wt++[f] }:=by
 refine⟨h.vt,fun g hg=>?_,?_⟩
 ·rcases YA.mp hg with z | z
  ·exact h.wt g z
  ·rw[Yj.mp z];exact hf
 ·have hn:=h.now
  have hne:S.wt++[f]≠ []:=by intro z;have:=(List.append_eq_nil_iff.mp z).2;cases this
  show Stc.Wf (S.wt++[f]) S.now
  revert hn
  cases S.now with
  |speaks n ds k=>exact fun ⟨a,b,c,d⟩=>⟨a,b,c,hne⟩
  |tlS v c=>exact fun _=>hne
  |free k=>exact fun z=>z
  |reads h=>exact fun z=>z
  |tlR n ds v c=>exact fun z=>z
  |flag l m=>exact fun z=>z
  |settles m=>exact fun z=>z
  |rests l=>exact fun z=>z
  |off=>exact fun z=>z
theorem bU.hand {A:Cs}{H:Hp}{p:Addr}{S:PS}{o:Own}(h:bU A H p S o):∃nw ob,Bd A H p nw S ob/\∀{n:Int}{ds:List Int},nY n ds->∀H' d,H d=none->Bd A H' p nw { S with wt:=S.wt++[(n.toNat,ds)] } (Or2 ob fun x=>x=d)->cI ob H H'->∃o',bU A H' p { S with wt:=S.wt++[(n.toNat,ds)] } o'/\Mv o H o' H':=by
 obtain⟨nw,ob,os,bd,st,dj,wf,inc,al⟩:=h
 refine⟨nw,ob,bd,fun {n ds} ok H' d hd b' k=>?_⟩
 have hb:=fG.mp ok.1
 have hf:FrN (n.toNat,ds):=⟨by show n.toNat<256;omega,ok.2.1,ok.2.2⟩
 have s':StW A H' nw S os:=st.move fun x v e z=>k x v e (z.imp_left fun y w=>dj x w y)
 refine⟨Or2 o fun x=>x=d,⟨nw,Or2 ob fun x=>x=d,os,b',⟨s'.at_,s'.on,s'.al⟩,?_,wf.hand hf,?_,?_⟩,k.le fun x hx=>inc x (.inl hx),fun x hx=>?_⟩
 ·rintro x (hx | hx) hy
  ·exact dj x hx hy
  ·have hx':x=d:=hx
   rw[hx']at hy
   exact al d (inc d (.inr hy)) hd
 ·rintro x ((hx | hx) | hx)
  ·exact .inl (inc x (.inl hx))
  ·exact .inr hx
  ·exact .inl (inc x (.inr hx))
 ·rintro x (hx | hx)
  ·rcases Classical.em (ob x) with c | c
   ·exact b'.al x (.inl c)
   ·cases e:H x with
    |none=>exact absurd e (al x hx)
    |some v=>rw[k x v e (.inl c)];simp
  ·exact b'.al x (.inr hx)
 ·rcases hx with hx | hx
  ·exact .inl hx
  ·have hx':x=d:=hx
   rw[hx'];exact .inr hd
theorem a8J {A:Cs}{H H1 H':Hp}{p dp:Addr}{v:HO}{S:PS}{o:Own}(g:Same H H1)(hp:H1 p=none)(hdp:H1 dp=none)(hP:bU A H' p S o)(hin:∀x,o x->x=p\/upd (upd H1 dp (.own p)) p v x=none)(hk:∀x u,x≠p->upd (upd H1 dp (.own p)) p v x=some u->H' x=some u):Lw A H H' p S o/\Same H1 H':=by
 have s1:Same H1 H':=fun x u e=>hk x u (aQ e hp) (by rw[aK (aQ e hp),aK (aQ e hdp)];exact e)
 refine⟨⟨g.trans s1,fun x hx=>?_,hP⟩,s1⟩
 rcases hin x hx with h | h
 ·rw[h];exact g.none hp
 ·refine g.none ?_
  by_cases c:x=p
  ·rw[c,aB]at h;cases h
  ·rw[aK c]at h
   by_cases d:x=dp
   ·rw[d,aB]at h;cases h
   ·rw[aK d]at h;exact h
theorem bU.bd {A:Cs}{H:Hp}{p:Addr}{S:PS}{o:Own}(h:bU A H p S o):∃nw ob,Bd A H p nw S ob:=let ⟨nw,ob,_,bd,_⟩:=h;⟨nw,ob,bd⟩
theorem bU.cell {A:Cs}{H:Hp}{p:Addr}{S:PS}{o:Own}(h:bU A H p S o):∃dx ch vt wl ul ct nw,H p=some (.ins A.post dx (pF ch vt wl ul ct nw)):=let ⟨nw,_,_,⟨dx,ch,wl,ul,ct,_,_,b⟩,_⟩:=h;⟨dx,ch,_,wl,ul,ct,nw,b.e⟩
theorem eN.at_ {H H':Hp}:∀{ts:List V}{fs:List Fr},eN H H' ts fs->dJ H' (fun _=>True) ts fs
 |_,_,.nil=> .nil
 |_,_,.cons _ _ a3 a4 r=> .cons ⟨_,a3,a4,trivial⟩ r.at_
structure FrL (H:Hp)(o:Own)(F:Addr)(fs:List Fr):Prop where
 no:¬ o F
 ex:∃xs,H F=some (.lst xs)/\dJ H (fun x=>¬ o x) xs fs
theorem b2Z {lo:Own}{H:Hp}{a:Addr}{o u:HO}(e:H a=some o)(h:lo a)(n:¬ isT o):Mv lo H lo (upd H a u):=⟨fun x v ex z=>by
 rw[aK]
 ·exact ex
 ·rintro rfl
  rcases z with z | z
  ·exact z h
  ·rw[e]at ex;cases ex;exact n z,fun _=> .inl⟩
theorem a8Y {xs:List V}:¬ isT (.lst xs):=fun ⟨_,z⟩=>by cases z
theorem StW.disp {A:Cs}{H:Hp}{nw:Addr}{S:PS}{os:Own}(st:StW A H nw S os):∃C dd fs,H nw=some (.ins C dd fs)/\(fs.lookup ("says":Str)=none/\fs.lookup ("step":Str)=none/\fs.lookup ("shown":Str)=none)/\∀f:Nat->Sp,(C=A.free/\f S.now.tag=f 0)\/(C=A.speaks/\f S.now.tag=f 1)\/(C=A.reads/\f S.now.tag=f 2)\/(C=A.intail/\f S.now.tag=f 3)\/(C=A.flag/\f S.now.tag=f 4)\/(C=A.settles/\f S.now.tag=f 5)\/(C=A.rests/\f S.now.tag=f 6)\/(C=A.off/\f S.now.tag=f 7):=by
 have sa:=st.at_
 cases en:S.now
 case free k=>
  rw[en]at sa
  obtain⟨dd,hS⟩:=sa
  exact⟨_,dd,_,hS,⟨rfl,rfl,rfl⟩,fun f=> .inl ⟨rfl,rfl⟩⟩
 case speaks n ds k=>
  rw[en]at sa
  obtain⟨dd,wa,r,st2,ks,t0,hS,_⟩:=sa
  exact⟨_,dd,_,hS,⟨rfl,rfl,rfl⟩,fun f=> .inr (.inl ⟨rfl,rfl⟩)⟩
 case reads h=>
  rw[en]at sa
  obtain⟨dd,r,st2,ks,t0,hS,_⟩:=sa
  exact⟨_,dd,_,hS,⟨rfl,rfl,rfl⟩,fun f=> .inr (.inr (.inl ⟨rfl,rfl⟩))⟩
 case tlS v c=>
  rw[en]at sa
  obtain⟨dd,tl,hS,_⟩:=sa
  exact⟨_,dd,_,hS,⟨rfl,rfl,rfl⟩,fun f=> .inr (.inr (.inr (.inl ⟨rfl,rfl⟩)))⟩
 case tlR n ds v c=>
  rw[en]at sa
  obtain⟨dd,tl,tf,df,hS,_⟩:=sa
  exact⟨_,dd,_,hS,⟨rfl,rfl,rfl⟩,fun f=> .inr (.inr (.inr (.inl ⟨rfl,rfl⟩)))⟩
 case flag l m=>
  rw[en]at sa
  obtain⟨dd,hS⟩:=sa
  exact⟨_,dd,_,hS,⟨rfl,rfl,rfl⟩,fun f=> .inr (.inr (.inr (.inr (.inl ⟨rfl,rfl⟩))))⟩
 case settles m=>
  rw[en]at sa
  obtain⟨dd,hS⟩:=sa
  exact⟨_,dd,_,hS,⟨rfl,rfl,rfl⟩,fun f=> .inr (.inr (.inr (.inr (.inr (.inl ⟨rfl,rfl⟩)))))⟩
 case rests l=>
  rw[en]at sa
  obtain⟨dd,hS⟩:=sa
  exact⟨_,dd,_,hS,⟨rfl,rfl,rfl⟩,fun f=> .inr (.inr (.inr (.inr (.inr (.inr (.inl ⟨rfl,rfl⟩))))))⟩
 case off=>
  rw[en]at sa
  obtain⟨dd,hS⟩:=sa
  exact⟨_,dd,_,hS,⟨rfl,rfl,rfl⟩,fun f=> .inr (.inr (.inr (.inr (.inr (.inr (.inr (⟨rfl,rfl⟩)))))))⟩
def iU (A:Cs)(H:Hp):List Addr->List PS->Own->Prop
 |[], [],o=>∀x,o x->H x≠none
 |p::ps,S::Ss,o=>∃o1 o2,bU A H p S o1/\iU A H ps Ss o2/\(∀x,o1 x->o2 x->False)/\(∀x,o1 x\/o2 x->o x)/\∀x,o x->H x≠none
 |_,_,_=>False
theorem iU.al {A:Cs}{H:Hp}:∀{ps:List Addr}{Ss:List PS}{o:Own},iU A H ps Ss o->∀x,o x->H x≠none
 |[], [],_,h=>h
 |_::_,_::_,_,⟨_,_,_,_,_,_,h⟩=>h
theorem iU.len {A:Cs}{H:Hp}:∀{ps:List Addr}{Ss:List PS}{o:Own},iU A H ps Ss o->ps.length=Ss.length
 |[], [],_,_=>rfl
 |_::_,_::_,_,⟨_,_,_,h,_⟩=>YT (·+1) h.len
theorem iU.move {A:Cs}{H H':Hp}:∀{ps:List Addr}{Ss:List PS}{o:Own},iU A H ps Ss o->(∀x v,H x=some v->(o x\/isT v)->H' x=some v)->iU A H' ps Ss o
 | [], [],o,h,g=>fun x hx=>by
  cases e:H x with
  |none=>exact absurd e (h x hx)
  |some v=>rw[g x v e (.inl hx)];simp
 | _::_,_::_,o,⟨o1,o2,h1,h2,dj,inc,al⟩,g=>⟨o1,o2,h1.move fun x v e z=>g x v e (z.imp_left fun y=>inc x (.inl y)),h2.move fun x v e z=>g x v e (z.imp_left fun y=>inc x (.inr y)),dj,inc,fun x hx=>by
  cases e:H x with
  |none=>exact absurd e (al x hx)
  |some v=>rw[g x v e (.inl hx)];simp⟩
theorem iU.same {A:Cs}{H H':Hp}{ps:List Addr}{Ss:List PS}{o:Own}(h:iU A H ps Ss o)(g:Same H H'):iU A H' ps Ss o:=h.move fun x v e _=>g x v e
theorem iU.get {A:Cs}{H:Hp}:∀{ps:List Addr}{Ss:List PS}{o:Own},iU A H ps Ss o->∀{i:Nat}{p:Addr},ps[i]? =some p->∃S oi,Ss[i]? =some S/\bU A H p S oi/\(∀x,oi x->o x)/\∀H' oi' S',Mv oi H oi' H'->bU A H' p S' oi'->∃o',iU A H' ps (Ss.set i S') o'/\Mv o H o' H'
 | q ::ps,S::Ss,o,⟨o1,o2,h1,h2,dj,inc,al⟩,0,p,hp=>by
  cases hp
  refine⟨S,o1,rfl,h1,fun x hx=>inc x (.inl hx),fun H' oi' S' m hP=>?_⟩
  have h2':iU A H' ps Ss o2:=h2.move fun x v e z=>m.1 x v e (z.imp_left fun y w=>dj x w y)
  refine⟨Or2 oi' o2,⟨oi',o2,hP,h2',fun x hx hy=>?_,fun x hx=>hx,fun x hx=>?_⟩,⟨fun x v e z=>m.1 x v e (z.imp_left fun y w=>y (inc x (.inl w))),fun x hx=>?_⟩⟩
  ·exact(m.2 x hx).elim (fun z=>dj x z hy) fun z=>h2.al x hy z
  ·rcases hx with hx | hx
   ·exact hP.al x hx
   ·exact h2'.al x hx
  ·rcases hx with hx | hx
   ·exact(m.2 x hx).imp (fun z=>inc x (.inl z)) id
   ·exact .inl (inc x (.inr hx))
 | q ::ps,S::Ss,o,⟨o1,o2,h1,h2,dj,inc,al⟩,i+1,p,hp=>by
  obtain⟨S1,oi,e1,hP1,le,back⟩:=iU.get h2 (i:=i) hp
  refine⟨S1,oi,e1,hP1,fun x hx=>inc x (.inr (le x hx)),fun H' oi' S' m hP=>?_⟩
  obtain⟨o2',h2',m'⟩:=back H' oi' S' m hP
  have h1':bU A H' q S o1:=h1.move fun x v e z=>m'.1 x v e (z.imp_left fun y w=>dj x y w)
  refine⟨Or2 o1 o2',⟨o1,o2',h1',h2',fun x hx hy=>?_,fun x hx=>hx,fun x hx=>?_⟩,⟨fun x v e z=>m'.1 x v e (z.imp_left fun y w=>y (inc x (.inr w))),fun x hx=>?_⟩⟩
  ·exact(m'.2 x hy).elim (fun z=>dj x hx z) fun z=>h1.al x hx z
  ·rcases hx with hx | hx
   ·exact h1'.al x hx
   ·exact h2'.al x hx
  ·rcases hx with hx | hx
   ·exact .inl (inc x (.inl hx))
   ·exact(m'.2 x hx).imp (fun z=>inc x (.inr z)) id
theorem iU.snoc {A:Cs}{H H':Hp}{p:Addr}{S:PS}{o1:Own}(hP:bU A H' p S o1)(g:Same H H')(n:∀x,o1 x->H x=none):∀{ps:List Addr}{Ss:List PS}{o:Own},iU A H ps Ss o->iU A H' (ps++[p]) (Ss++[S]) (Or2 o o1)
  | [], [],o,h=>⟨o1,o,hP,fun x hx=>by
      cases e:H x with
      |none=>exact absurd e (h x hx)
      |some v=>rw[g x v e];simp,fun x hx hy=>h x hy (n x hx),fun x hx=>hx.symm,fun x hx=>by
      rcases hx with hx | hx
      · cases e:H x with
        |none=>exact absurd e (h x hx)
        |some v=>rw[g x v e];simp
      · exact hP.al x hx⟩
  | q :: ps,T::Ss,o,⟨oa,ob,h1,h2,dj,inc,al⟩=>⟨oa,Or2 ob o1,h1.same g,iU.snoc hP g n h2,fun x hx hy=>by
      rcases hy with hy | hy
      · exact dj x hx hy
      · exact h1.al x hx (n x hy),fun x hx=>by
      rcases hx with hx | hx | hx
      · exact .inl (inc x (.inl hx))
      · exact .inl (inc x (.inr hx))
      · exact .inr hx,fun x hx=>by
      rcases hx with hx | hx
      · cases e:H x with
        |none=>exact absurd e (al x hx)
        |some v=>rw[g x v e];simp
      · exact hP.al x hx⟩
structure dH (H:Hp)(L:List (Addr×HO)):Prop where
 at_:∀(j:Nat)(c:Addr×HO),L[j]? =some c->H c.1=some c.2
 ap:∀(i j:Nat)(c d:Addr×HO),L[i]? =some c->L[j]? =some d->c.1=d.1->i=j
theorem dH.put {H:Hp}{L:List (Addr×HO)}{i:Nat}{a:Addr}{h:HO}(hc:dH H L)(e:L[i]? =some (a,h))(h':HO):dH (upd H a h') (L.set i (a,h')):=by
 have hi:i<L.length:=(Ye.mp e).1
 have old:∀(j:Nat)(c:Addr×HO),(L.set i (a,h'))[j]? =some c->(j=i/\c=(a,h'))\/(j≠i/\L[j]? =some c):=fun j c z=>by
  rw[Xl]at z
  by_cases k:i=j
  ·rw[if_pos k,if_pos hi]at z
   exact .inl ⟨k.symm,(Yq z).symm⟩
  ·rw[if_neg k]at z
   exact .inr ⟨fun y=>k y.symm,z⟩
 refine⟨fun j c z=>?_,fun j k c d z y q=>?_⟩
 ·rcases old j c z with ⟨_,rfl⟩ | ⟨n,z⟩
  ·exact aB
  ·rw[aK fun q=>n (hc.ap j i c (a,h) z e q)]
   exact hc.at_ j c z
 ·rcases old j c z with ⟨n1,rfl⟩ | ⟨n1,z⟩ <;> rcases old k d y with ⟨n2,rfl⟩ | ⟨n2,y⟩
  ·rw[n1,n2]
  ·exact absurd (hc.ap k i d (a,h) y e q.symm) n2
  ·exact absurd (hc.ap j i c (a,h) z e q) n1
  ·exact hc.ap j k c d z y q
theorem dH.keep {H H':Hp}{L:List (Addr×HO)}(hc:dH H L)(g:∀(j:Nat)(c:Addr×HO),L[j]? =some c->H' c.1=some c.2):dH H' L:=⟨g,hc.ap⟩
theorem dH.same {H H':Hp}{L:List (Addr×HO)}(hc:dH H L)(g:Same H H'):dH H' L:=hc.keep fun j c z=>g _ _ (hc.at_ j c z)
theorem dH.snoc {H:Hp}{L:List (Addr×HO)}{a:Addr}{h:HO}(hc:dH H L)(n:H a=none):dH (upd H a h) (L++[(a,h)]):=by
 have old:∀(j:Nat)(c:Addr×HO),(L++[(a,h)])[j]? =some c->(j=L.length/\c=(a,h))\/L[j]? =some c:=fun j c z=>by
  by_cases k:j<L.length
  ·rw[Yx k]at z
   exact .inr z
  ·rw [Yv (by omega)]at z
   have hj:j-L.length=0:=by
    cases e:j-L.length with
    |zero=>rfl
    |succ m=>rw[e]at z;cases z
   rw[hj]at z
   exact .inl ⟨by omega,(Yq z).symm⟩
 have ne:∀(j:Nat)(c:Addr×HO),L[j]? =some c->c.1≠a:=fun j c z q=>by have:=hc.at_ j c z;rw[q,n]at this;cases this
 refine⟨fun j c z=>?_,fun j k c d z y q=>?_⟩
 ·rcases old j c z with ⟨_,rfl⟩ | z
  ·exact aB
  ·rw[aK (ne j c z)];exact hc.at_ j c z
 ·rcases old j c z with ⟨n1,rfl⟩ | z <;> rcases old k d y with ⟨n2,rfl⟩ | y
  ·rw[n1,n2]
  ·exact absurd q.symm (ne k d y)
  ·exact absurd q (ne j c z)
  ·exact hc.ap j k c d z y q
open PyProof.Rows in
structure RS where
 (ps:List PS) (ow:List (Key×V)) (bo:List Int) (sa he:List (List Int)) (ev:List (Nat×Nat×Str))
inductive iR (H:Hp):List V->List (Nat×Nat×Str)->Prop
 |nil:iR H [] []
 |cons {t:Addr} {e:Nat×Nat×Str} {vs:List V} {es:List (Nat×Nat×Str)}:H t=some (.tup [.int ((e.1:Nat):Int),.int ((e.2.1:Nat):Int),.str e.2.2])->iR H vs es->iR H (.ref t::vs) (e::es)
theorem iR.imp {H H':Hp}(g:∀x xs,H x=some (.tup xs)->H' x=some (.tup xs)):∀{vs:List V}{es:List (Nat×Nat×Str)},iR H vs es->iR H' vs es
 |_,_,.nil=> .nil
 |_,_,.cons a r=> .cons (g _ _ a) (r.imp g)
theorem iR.snoc {H:Hp}{t:Addr}{e:Nat×Nat×Str}(a:H t=some (.tup [.int ((e.1:Nat):Int),.int ((e.2.1:Nat):Int),.str e.2.2])):∀{vs:List V}{es:List (Nat×Nat×Str)},iR H vs es->iR H (vs++[.ref t]) (es++[e])
 |_,_,.nil=> .cons a .nil
 |_,_,.cons b r=> .cons b (r.snoc a)
theorem iR.len {H:Hp}:∀{vs:List V}{es:List (Nat×Nat×Str)},iR H vs es->vs.length=es.length
 |_,_,.nil=>rfl
 |_,_,.cons _ r=>YT (·+1) r.len
abbrev rF (PL OW BO SA HE EV:Addr):List (Str×V):=[("posts",.ref PL),("owners",.ref OW),("borne",.ref BO),("sayings",.ref SA),("hearings",.ref HE),("happened",.ref EV)]
def lsC (as:List Addr)(xs:List (List Int)):List (Addr×HO):=List.zipWith (fun a x=>(a,HO.lst (x.map V.int))) as xs
structure Rw where
 (dx PL OW BO SA HE EV:Addr) (ps sas hes:List Addr) (evs:List V) (op:Own)
abbrev jQ (C r:Addr)(w:Rw)(R:RS):List (Addr×HO):=(r,.ins C w.dx (rF w.PL w.OW w.BO w.SA w.HE w.EV))::(w.PL,.lst (w.ps.map V.ref))::(w.OW,.dK R.ow)::(w.BO,.lst (R.bo.map V.int))::(w.SA,.lst (w.sas.map V.ref))::(w.HE,.lst (w.hes.map V.ref))::(w.EV,.lst w.evs)::(lsC w.sas R.sa++lsC w.hes R.he)
structure cB (C:Addr)(A:Cs)(H:Hp)(r:Addr)(R:RS)(o:Own)(w:Rw):Prop where
 cs:dH H (jQ C r w R)
 po:iU A H w.ps R.ps w.op
 ev:iR H w.evs R.ev
 l1:w.sas.length=R.ps.length
 l2:R.sa.length=R.ps.length
 l3:w.hes.length=R.ps.length
 l4:R.he.length=R.ps.length
 lp:R.ps.length<=5
 dj:∀x,w.op x->∀(j:Nat)(c:Addr×HO),(jQ C r w R)[j]? =some c->c.1≠x
 inc:∀x,(w.op x\/∃(j:Nat)(c:Addr×HO),(jQ C r w R)[j]? =some c/\c.1=x)->o x
 al:∀x,o x->H x≠none
def jO (C:Addr)(A:Cs)(H:Hp)(r:Addr)(R:RS)(o:Own):Prop:=∃w,cB C A H r R o w
section
variable {C:Addr}{A:Cs}{H H':Hp}{r:Addr}{R:RS}{o:Own}{w:Rw}
theorem cB.move (h:cB C A H r R o w)(g:∀x v,H x=some v->(o x\/isT v)->H' x=some v):cB C A H' r R o w:=
 ⟨h.cs.keep fun j c z=>g _ _ (h.cs.at_ j c z) (.inl (h.inc _ (.inr ⟨j,c,z,rfl⟩))),h.po.move fun x v e z=>g x v e (z.imp_left fun y=>h.inc x (.inl y)),h.ev.imp fun x xs e=>g x _ e (.inr ⟨_,rfl⟩),h.l1,h.l2,h.l3,h.l4,h.lp,h.dj,h.inc,fun x hx=>by
  cases e:H x with
  |none=>exact absurd e (h.al x hx)
  |some v=>rw[g x v e (.inl hx)];simp⟩
theorem cB.same (h:cB C A H r R o w)(g:Same H H'):cB C A H' r R o w:=h.move fun x v e _=>g x v e
theorem cB.er (h:cB C A H r R o w):H r=some (.ins C w.dx (rF w.PL w.OW w.BO w.SA w.HE w.EV)):=h.cs.at_ 0 _ rfl
theorem cB.ePL (h:cB C A H r R o w):H w.PL=some (.lst (w.ps.map V.ref)):=h.cs.at_ 1 _ rfl
theorem cB.eOW (h:cB C A H r R o w):H w.OW=some (.dK R.ow):=h.cs.at_ 2 _ rfl
theorem cB.eBO (h:cB C A H r R o w):H w.BO=some (.lst (R.bo.map V.int)):=h.cs.at_ 3 _ rfl
theorem cB.eSA (h:cB C A H r R o w):H w.SA=some (.lst (w.sas.map V.ref)):=h.cs.at_ 4 _ rfl
theorem cB.eHE (h:cB C A H r R o w):H w.HE=some (.lst (w.hes.map V.ref)):=h.cs.at_ 5 _ rfl
theorem cB.eEV (h:cB C A H r R o w):H w.EV=some (.lst w.evs):=h.cs.at_ 6 _ rfl
theorem cB.pl (h:cB C A H r R o w):w.ps.length=R.ps.length:=h.po.len
theorem cB.at (h:cB C A H r R o w){i:Nat}{S:PS}(hi:R.ps[i]? =some S):∃p oi,w.ps[i]? =some p/\bU A H p S oi:=by
 have hl:i<w.ps.length:=by rw[h.pl];exact(Ye.mp hi).1
 have hp:w.ps[i]? =some w.ps[i]:=Yb hl
 obtain⟨S',oi,e,hP,_⟩:=h.po.get hp
 rw[hi]at e
 cases e
 exact⟨_,oi,hp,hP⟩
end
theorem yS {L:List (Addr×HO)}{k j:Nat}{a:Addr}{v v':HO}{c:Addr×HO}(e:L[k]? =some (a,v))(h:(L.set k (a,v'))[j]? =some c):∃c',L[j]? =some c'/\c'.1=c.1:=by
 have hk:k<L.length:=(Ye.mp e).1
 rw[Xl]at h
 by_cases q:k=j
 ·rw[if_pos q,if_pos hk]at h
  cases h
  exact⟨(a,v),q▸e,rfl⟩
 ·rw[if_neg q]at h
  exact⟨c,h,rfl⟩
theorem cB.put {C:Addr}{A:Cs}{H:Hp}{r:Addr}{R R':RS}{o:Own}{w w':Rw}{k:Nat}{a:Addr}{v v':HO}(h:cB C A H r R o w)(e:(jQ C r w R)[k]? =some (a,v))(nT:¬ isT v)(eL:jQ C r w' R'=(jQ C r w R).set k (a,v'))(ep:R'.ps=R.ps)(e1:w'.ps=w.ps)(e2:w'.op=w.op)(e3:w'.sas.length=w.sas.length)(e4:R'.sa.length=R.sa.length)(e5:w'.hes.length=w.hes.length)(e6:R'.he.length=R.he.length)(ev:iR H w'.evs R'.ev):cB C A (upd H a v') r R' o w'/\Mv o H o (upd H a v'):=by
 have ea:=h.cs.at_ k _ e
 have oa:o a:=h.inc a (.inr ⟨k,_,e,rfl⟩)
 have kT:∀x u,H x=some u->isT u->upd H a v' x=some u:=fun x u eu t=>by
  rw[aK]
  ·exact eu
  ·rintro rfl
   rw[ea]at eu
   cases eu
   exact nT t
 refine⟨⟨eL▸h.cs.put e v',?_,ev.imp fun x xs ex=>kT x _ ex ⟨_,rfl⟩,by rw[e3,ep];exact h.l1,by rw[e4,ep];exact h.l2,by rw[e5,ep];exact h.l3,by rw[e6,ep];exact h.l4,by rw[ep];exact h.lp,?_,?_,?_⟩,b2Z ea oa nT⟩
 ·rw[e1,e2,ep]
  refine h.po.move fun x u eu z=>?_
  rcases z with z | z
  ·rw[aK fun q=>h.dj x z k _ e q.symm];exact eu
  ·exact kT x u eu z
 ·rw[e2,eL]
  intro x hx j c hc q
  obtain⟨c',h1,h2⟩:=yS e hc
  exact h.dj x hx j c' h1 (h2.trans q)
 ·rw [e2,eL]
  rintro x (hx | ⟨j,c,hc,q⟩)
  ·exact h.inc x (.inl hx)
  ·obtain⟨c',h1,h2⟩:=yS e hc
   exact h.inc x (.inr ⟨j,c',h1,h2.trans q⟩)
 ·intro x hx
  by_cases q:x=a
  ·rw[q,aB];simp
  ·rw[aK q];exact h.al x hx
theorem cB.step {C:Addr}{A:Cs}{H:Hp}{r:Addr}{R:RS}{o:Own}{w:Rw}{i:Nat}{p:Addr}(h:cB C A H r R o w)(hp:w.ps[i]? =some p):∃S oi,R.ps[i]? =some S/\bU A H p S oi/\(∀x,oi x->o x)/\∀H' oi' S',Mv oi H oi' H'->bU A H' p S' oi'->∃o' op',cB C A H' r { R with ps:=R.ps.set i S' } o' { w with op:=op' }/\Mv o H o' H':=by
 obtain⟨S,oi,eS,hP,le,back⟩:=h.po.get hp
 refine⟨S,oi,eS,hP,fun x hx=>h.inc x (.inl (le x hx)),fun H' oi' S' m hP'=>?_⟩
 obtain⟨op',po',m'⟩:=back H' oi' S' m hP'
 have nop:∀(j:Nat)(c:Addr×HO),(jQ C r w R)[j]? =some c->¬ w.op c.1:=fun j c hc z=>h.dj _ z j c hc rfl
 have len:(R.ps.set i S').length=R.ps.length:=XC
 have ko:cI o H H':=fun x v e z=>m'.1 x v e (z.imp_left fun y q=>y (h.inc x (.inl q)))
 refine⟨Or2 (fun x=>o x/\¬ w.op x) op',op',⟨h.cs.keep fun j c hc=>m'.1 _ _ (h.cs.at_ j c hc) (.inl (nop j c hc)),po',h.ev.imp fun x xs e=>m'.1 x _ e (.inr ⟨_,rfl⟩),h.l1.trans len.symm,h.l2.trans len.symm,h.l3.trans len.symm,h.l4.trans len.symm,by show (R.ps.set i S').length<=5;rw[len];exact h.lp,?_,?_,?_⟩,ko,?_⟩
 ·intro x hx j c hc q
  rcases m'.2 x hx with z | z
  ·exact h.dj x z j c hc q
  ·have:=h.cs.at_ j c hc
   rw[q,z]at this
   cases this
 ·rintro x (hx | ⟨j,c,hc,q⟩)
  ·exact .inr hx
  ·exact .inl ⟨h.inc x (.inr ⟨j,c,hc,q⟩),q▸nop j c hc⟩
 ·rintro x (hx | hx)
  ·cases e:H x with
   |none=>exact absurd e (h.al x hx.1)
   |some v=>rw[m'.1 x v e (.inl hx.2)];simp
  ·exact po'.al x hx
 ·rintro x (hx | hx)
  ·exact .inl hx.1
  ·exact(m'.2 x hx).imp (fun z=>h.inc x (.inl z)) id
theorem a7H {K:W.Frag}{H:Hp}{a b:Addr}{xs:List V}{m:List ((Int ⊕ Str)×V)}{v:HO}(h:SqL K H a xs)(e:H b=some (.dK m)):SqL K (upd H b v) a xs:=by
 rcases h with (h | ⟨o,h⟩) | h
 ·exact .inl (.inl ((aK fun q=>by rw[q,e]at h;cases h).trans h))
 ·exact .inl (.inr ⟨o,(aK fun q=>by rw[q,e]at h;cases h).trans h⟩)
 ·exact .inr h
theorem b5S {m:List ((Int ⊕ Str)×V)}:¬ isT (.dK m):=fun ⟨_,z⟩=>by cases z
theorem a5O {as:List Addr}{xs:List (List Int)}{i:Nat}{a:Addr}{x:List Int}(ha:as[i]? =some a)(hx:xs[i]? =some x):(lsC as xs)[i]? =some (a,HO.lst (x.map V.int)):=by
 unfold lsC
 rw[List.getElem?_zipWith,ha,hx]
theorem pA {as:List Addr}{xs:List (List Int)}(h:as.length=xs.length):(lsC as xs).length=xs.length:=by
 unfold lsC
 rw[List.length_zipWith,h,Nat.min_self]
theorem cB.sa_at {C:Addr}{A:Cs}{H:Hp}{r:Addr}{R:RS}{o:Own}{w:Rw}{i:Nat}{xs:List Int}(h:cB C A H r R o w)(hi:R.sa[i]? =some xs):∃a,w.sas[i]? =some a/\(jQ C r w R)[i+7]? =some (a,.lst (xs.map V.int)):=by
 have hl:i<R.sa.length:=(Ye.mp hi).1
 have e1:=h.l1
 have e2:=h.l2
 have ha:w.sas[i]? =some (w.sas[i]'(by omega)):=Yb (by omega)
 refine⟨_,ha,?_⟩
 show (lsC w.sas R.sa++lsC w.hes R.he)[i]? =_
 rw[Yx (by rw[pA (by omega)];exact hl)]
 exact a5O ha hi
theorem cB.he_at {C:Addr}{A:Cs}{H:Hp}{r:Addr}{R:RS}{o:Own}{w:Rw}{i:Nat}{xs:List Int}(h:cB C A H r R o w)(hi:R.he[i]? =some xs):∃a,w.hes[i]? =some a/\(jQ C r w R)[R.ps.length+i+7]? =some (a,.lst (xs.map V.int)):=by
 have hl:i<R.he.length:=(Ye.mp hi).1
 have e1:=h.l1
 have e2:=h.l2
 have e3:=h.l3
 have e4:=h.l4
 have ha:w.hes[i]? =some (w.hes[i]'(by omega)):=Yb (by omega)
 refine⟨_,ha,?_⟩
 show (lsC w.sas R.sa++lsC w.hes R.he)[R.ps.length+i]? =_
 have ll:=pA (as:=w.sas) (xs:=R.sa) (by omega)
 rw[Yv (by omega),show R.ps.length+i-(lsC w.sas R.sa).length=i by omega]
 exact a5O ha hi
def a3R (C:Addr)(A:Cs):Sp:=fun vs H Q _=>∃r R o w,vs= [.ref r]/\cB C A H r R o w/\∀l,H l=none->Q (.ref l) (upd H l (.lst (R.bo.map V.int)))
theorem zN {as:List Addr}{xs:List (List Int)}{i:Nat}{a:Addr}{y:List Int}(ha:as[i]? =some a):lsC as (xs.set i y)=(lsC as xs).set i (a,HO.lst (y.map V.int)):=by
 unfold lsC
 apply List.ext_getElem?
 intro j
 rw[List.getElem?_zipWith,Xl,Xl,List.getElem?_zipWith]
 by_cases q:i=j
 ·subst q
  have hl:i<as.length:=(Ye.mp ha).1
  rw[if_pos rfl,if_pos rfl,ha,List.length_zipWith]
  by_cases z:i<xs.length
  ·rw[if_pos z,if_pos (by omega)]
  ·rw[if_neg z,if_neg (by omega)]
 ·rw[if_neg q,if_neg q]
theorem cB.say {C:Addr}{A:Cs}{H:Hp}{r:Addr}{R:RS}{o:Own}{w:Rw}{i:Nat}{xs:List Int}{a:Addr}{b:Int}(h:cB C A H r R o w)(hi:R.sa[i]? =some xs)(ha:w.sas[i]? =some a):cB C A (upd H a (.lst (xs.map V.int++[.int b]))) r { R with sa:=R.sa.set i (xs++[b]) } o w/\Mv o H o (upd H a (.lst (xs.map V.int++[.int b]))):=by
 obtain⟨a',ha',e⟩:=h.sa_at hi
 rw[ha]at ha'
 cases ha'
 have hl:i<R.sa.length:=(Ye.mp hi).1
 have e1:=h.l1
 have e2:=h.l2
 have em:xs.map V.int++[V.int b]=(xs++[b]).map V.int:=by rw[Yn];rfl
 have eL:lsC w.sas (R.sa.set i (xs++[b]))++lsC w.hes R.he=(lsC w.sas R.sa++lsC w.hes R.he).set i (a,.lst ((xs++[b]).map V.int)):=by
  rw[List.set_append_left _ _ (by rw[pA (by omega)];exact hl),zN ha]
 rw[em]
 refine h.put (k:=i+7) (w':=w) e a8Y ?_ rfl rfl rfl rfl XC rfl rfl h.ev
 show (r,_)::(w.PL,_)::(w.OW,_)::(w.BO,_)::(w.SA,_)::(w.HE,_)::(w.EV,_)::(lsC w.sas (R.sa.set i (xs++[b]))++lsC w.hes R.he)=_
 rw[eL]
 rfl
theorem cB.hrd {C:Addr}{A:Cs}{H:Hp}{r:Addr}{R:RS}{o:Own}{w:Rw}{i:Nat}{xs:List Int}{a:Addr}{b:Int}(h:cB C A H r R o w)(hi:R.he[i]? =some xs)(ha:w.hes[i]? =some a):cB C A (upd H a (.lst (xs.map V.int++[.int b]))) r { R with he:=R.he.set i (xs++[b]) } o w/\Mv o H o (upd H a (.lst (xs.map V.int++[.int b]))):=by
 obtain⟨a',ha',e⟩:=h.he_at hi
 rw[ha]at ha'
 cases ha'
 have hl:i<R.he.length:=(Ye.mp hi).1
 have e1:=h.l1
 have e2:=h.l2
 have em:xs.map V.int++[V.int b]=(xs++[b]).map V.int:=by rw[Yn];rfl
 have ll:=pA (as:=w.sas) (xs:=R.sa) (by omega)
 have eL:lsC w.sas R.sa++lsC w.hes (R.he.set i (xs++[b]))=(lsC w.sas R.sa++lsC w.hes R.he).set (R.ps.length+i) (a,.lst ((xs++[b]).map V.int)):=by
  rw[List.set_append_right _ _ (by omega),show R.ps.length+i-(lsC w.sas R.sa).length=i by omega,zN ha]
 rw[em]
 refine h.put (k:=R.ps.length+i+7) (w':=w) e a8Y ?_ rfl rfl rfl rfl rfl rfl XC h.ev
 show (r,_)::(w.PL,_)::(w.OW,_)::(w.BO,_)::(w.SA,_)::(w.HE,_)::(w.EV,_)::(lsC w.sas R.sa++lsC w.hes (R.he.set i (xs++[b])))=_
 rw[eL]
 rfl
theorem cB.bear {C:Addr}{A:Cs}{H:Hp}{r:Addr}{R:RS}{o:Own}{w:Rw}{b:Int}(h:cB C A H r R o w):cB C A (upd H w.BO (.lst (R.bo.map V.int++[.int b]))) r { R with bo:=R.bo++[b] } o w/\Mv o H o (upd H w.BO (.lst (R.bo.map V.int++[.int b]))):=by
 have em:R.bo.map V.int++[V.int b]=(R.bo++[b]).map V.int:=by rw[Yn];rfl
 rw[em]
 exact h.put (k:=3) (w':=w) rfl a8Y rfl rfl rfl rfl rfl rfl rfl rfl h.ev
theorem cB.happen {C:Addr}{A:Cs}{H:Hp}{r t:Addr}{R:RS}{o:Own}{w:Rw}{e:Nat×Nat×Str}(h:cB C A H r R o w)(et:H t=some (.tup [.int ((e.1:Nat):Int),.int ((e.2.1:Nat):Int),.str e.2.2])):cB C A (upd H w.EV (.lst (w.evs++[.ref t]))) r { R with ev:=R.ev++[e] } o { w with evs:=w.evs++[.ref t] }/\Mv o H o (upd H w.EV (.lst (w.evs++[.ref t]))):=
 h.put (k:=6) (w':={ w with evs:=w.evs++[.ref t] }) rfl a8Y rfl rfl rfl rfl rfl rfl rfl rfl (h.ev.snoc et)
def a3N (C:Addr)(A:Cs)(NP:Addr):Sp:=fun vs H Q E=>∃r R o w k,vs= [.ref r,.int k]/\cB C A H r R o w/\(∀(i:Nat) p,k=((i:Nat):Int)->w.ps[i]? =some p->Q (.ref p) H)/\(¬ (0<=k/\k<((R.ps.length:Nat):Int))->∀H',Same H H'->E (.ref NP) none H')
def wQ (C:Addr)(A:Cs):Sp:=fun vs H Q _=>∃r R o w,vs= [.ref r]/\cB C A H r R o w/\∀l,H l=none->Q (.ref l) (upd H l (.lst w.evs))
def a3Q (K:W.Frag)(C:Addr)(A:Cs)(NP NF NN:Addr):Sp:=fun vs H Q E=>∃r R o w k n a ds,vs= [.ref r,.int k,.int n,.ref a]/\cB C A H r R o w/\SqL K H a (ds.map V.int)/\ds.length<=500/\R.ow.length<=900/\(∀S∈R.ps,S.wt.length<900)/\
 (¬ (0<=k/\k<((R.ps.length:Nat):Int))->∀H',Same H H'->E (.ref NP) none H')/\((0<=k/\k<((R.ps.length:Nat):Int))->¬ nY n ds->∀H',Same H H'->E (.ref NF) none H')/\
 (∀ (i:Nat) S,k=((i:Nat):Int)->R.ps[i]? =some S->nY n ds->∃j:Int,(iG R.ow (.inl n)).getD (.int ((i:Nat):Int))= .int j/\(j≠((i:Nat):Int)->∀H',Same H H'->E (.ref NN) none H')/\
  (j=((i:Nat):Int)->∀H' o',jO C A H' r { R with ps:=R.ps.set i { S with wt:=S.wt++[(n.toNat,ds)] },ow:=putK R.ow (.inl n) (.int ((i:Nat):Int)) } o'->Mv o H o' H'->Q .non H'))
def evt (t n:Nat)(w:Str):List (Nat×Nat×Str):=if w="" then [] else [(t,n,w)]
def qC (R R':RS)(n:Nat)(S:PS)(b:Int)(x y:List Int):RS:=
 { R' with ps:=R'.ps.set n (bF S b).2,sa:=R'.sa.set n (x++[bL S]),he:=R'.he.set n (y++[b]),ev:=R'.ev++evt R.bo.length n (bF S b).1 }
def aX (R:RS)(hs:List Int):Nat->RS
 |0=>R
 | n+1=>match R.ps[n]?,hs[n]?,R.sa[n]?,R.he[n]? with
  |some S,some b,some x,some y=>qC R (aX R hs n) n S b x y
  |_,_,_,_=>aX R hs n
def lQ (R:RS)(hs:List Int)(b:Int):RS:={ aX R hs R.ps.length with bo:=R.bo++[b] }
theorem gA {R:RS}{hs:List Int}{n:Nat}{S:PS}{b:Int}{x y:List Int}(e1:R.ps[n]? =some S)(e2:hs[n]? =some b)(e3:R.sa[n]? =some x)(e4:R.he[n]? =some y):aX R hs (n+1)=qC R (aX R hs n) n S b x y:=by
 show (match R.ps[n]?,hs[n]?,R.sa[n]?,R.he[n]? with
  |some S,some b,some x,some y=>qC R (aX R hs n) n S b x y
  |_,_,_,_=>aX R hs n)=_
 rw[e1,e2,e3,e4]
theorem iY (R:RS)(hs:List Int):∀n:Nat,(aX R hs n).bo=R.bo/\(aX R hs n).ow=R.ow/\(aX R hs n).ps.length=R.ps.length/\(aX R hs n).sa.length=R.sa.length/\(aX R hs n).he.length=R.he.length/\(∀j,n<=j->(aX R hs n).ps[j]? =R.ps[j]?/\(aX R hs n).sa[j]? =R.sa[j]?/\(aX R hs n).he[j]? =R.he[j]?)/\(aX R hs n).ev.length<=R.ev.length+n
 |0=>⟨rfl,rfl,rfl,rfl,rfl,fun _ _=>⟨rfl,rfl,rfl⟩,Yd _⟩
 | n + 1 => by
  obtain⟨h1,h2,h3,h4,h5,h6,h7⟩:=iY R hs n
  have go :(aX R hs (n+1)=aX R hs n)\/∃S b x y,aX R hs (n+1)=qC R (aX R hs n) n S b x y:=by
   cases e1:R.ps[n]? with
   |none=>left;show (match R.ps[n]?,hs[n]?,R.sa[n]?,R.he[n]? with | some S,some b,some x,some y=>qC R (aX R hs n) n S b x y | _,_,_,_=>aX R hs n)=_;rw[e1]
   | some S=>
    cases e2:hs[n]? with
    |none=>left;show (match R.ps[n]?,hs[n]?,R.sa[n]?,R.he[n]? with | some S,some b,some x,some y=>qC R (aX R hs n) n S b x y | _,_,_,_=>aX R hs n)=_;rw[e1,e2]
    | some b=>
     cases e3:R.sa[n]? with
     |none=>left;show (match R.ps[n]?,hs[n]?,R.sa[n]?,R.he[n]? with | some S,some b,some x,some y=>qC R (aX R hs n) n S b x y | _,_,_,_=>aX R hs n)=_;rw[e1,e2,e3]
     | some x=>
      cases e4:R.he[n]? with
      |none=>left;show (match R.ps[n]?,hs[n]?,R.sa[n]?,R.he[n]? with | some S,some b,some x,some y=>qC R (aX R hs n) n S b x y | _,_,_,_=>aX R hs n)=_;rw[e1,e2,e3,e4]
      |some y=>exact .inr ⟨S,b,x,y,gA e1 e2 e3 e4⟩
  rcases go with e | ⟨S,b,x,y,e⟩
  ·rw[e];exact⟨h1,h2,h3,h4,h5,fun j hj=>h6 j (by omega),by omega⟩
  ·rw [e]
   refine⟨h1,h2,?_,?_,?_,fun j hj=>⟨?_,?_,?_⟩,?_⟩
   ·show ((aX R hs n).ps.set n _).length=_;rw[XC];exact h3
   ·show ((aX R hs n).sa.set n _).length=_;rw[XC];exact h4
   ·show ((aX R hs n).he.set n _).length=_;rw[XC];exact h5
   ·show ((aX R hs n).ps.set n _)[j]? =_;rw[Y9 (by omega)];exact(h6 j (by omega)).1
   ·show ((aX R hs n).sa.set n _)[j]? =_;rw[Y9 (by omega)];exact(h6 j (by omega)).2.1
   ·show ((aX R hs n).he.set n _)[j]? =_;rw[Y9 (by omega)];exact(h6 j (by omega)).2.2
   ·show ((aX R hs n).ev++evt _ _ _).length<=_
    rw[Yc]
    have:(evt R.bo.length n (bF S b).1).length<=1:=by unfold evt;split <;> simp
    omega
def nA (ns:List Int)(b:Int):Prop:=b∈ns/\∀z∈ns,b<=z
theorem nA.uniq {ns:List Int}{a b:Int}(h:nA ns a)(g:nA ns b):a=b:=by
 have:=h.2 b g.1
 have:=g.2 a h.1
 omega
structure SzR (R:RS):Prop where
 bo:R.bo.length<900
 sa:∀x∈R.sa,x.length<900
 he:∀x∈R.he,x.length<900
 ev:R.ev.length<900
 up:∀S∈R.ps,S.up.length<900
def a3O (K:W.Frag)(C:Addr)(A:Cs)(spc:Addr->List V->Hp->VK->Prop):Sp:=fun vs H Q _=>∃r R o w f,∃hs:Int->Nat->Int,vs= [.ref r,.ref f]/\cB C A H r R o w/\R.ps≠ []/\SzR R/\(∀b,nA (R.ps.map bL) b->(∀i,i<R.ps.length->∀H1,Same H H1->FnE K H1 f/\∀Q1:VK,(∀H2,Same H1 H2->Q1 (.int (hs b i)) H2)->spc f [.int ((i:Nat):Int),.int ((R.bo.length:Nat):Int),.int b] H1 Q1)/\(∀i,hs b i=0\/hs b i=1)/\
 ∀H' o',jO C A H' r (lQ R ((List.range R.ps.length).map (hs b)) b) o'->Mv o H o' H'->Q (.int b) H')
theorem lY {L1 L2:List (Addr×HO)}{c0 c:Addr×HO}{j:Nat}(z:(L1++c0::L2)[j]? =some c):(j=L1.length/\c=c0)\/(j<L1.length/\(L1++L2)[j]? =some c)\/(L1.length<j/\(L1++L2)[j-1]? =some c):=by
 by_cases k:j<L1.length
 ·rw[Yx k]at z
  exact .inr (.inl ⟨k,by rw[Yx k];exact z⟩)
 ·rw[Yv (by omega)]at z
  cases e:j-L1.length with
  |zero=>rw[e]at z;exact .inl ⟨by omega,(Yq z).symm⟩
  |succ m=>rw[e]at z;exact .inr (.inr ⟨by omega,by rw[Yv (by omega),show j-1-L1.length=m by omega];exact z⟩)
theorem dH.ins {H:Hp}{L1 L2:List (Addr×HO)}{a:Addr}{h:HO}(hc:dH H (L1++L2))(n:H a=none):dH (upd H a h) (L1++(a,h)::L2):=by
 have ne:∀(j:Nat)(c:Addr×HO),(L1++L2)[j]? =some c->c.1≠a:=fun j c z q=>by have:=hc.at_ j c z;rw[q,n]at this;cases this
 refine⟨fun j c z=>?_,fun j k c d z y q=>?_⟩
 ·rcases lY z with ⟨_,rfl⟩ | ⟨_,z⟩ | ⟨_,z⟩
  ·exact aB
  ·rw[aK (ne _ c z)];exact hc.at_ _ c z
  ·rw[aK (ne _ c z)];exact hc.at_ _ c z
 ·rcases lY z with ⟨n1,rfl⟩ | ⟨n1,z⟩ | ⟨n1,z⟩ <;> rcases lY y with ⟨n2,rfl⟩ | ⟨n2,y⟩ | ⟨n2,y⟩
  ·omega
  ·exact absurd q.symm (ne _ d y)
  ·exact absurd q.symm (ne _ d y)
  ·exact absurd q (ne _ c z)
  ·exact hc.ap _ _ c d z y q
  ·have:=hc.ap _ _ c d z y q;omega
  ·exact absurd q (ne _ c z)
  ·have:=hc.ap _ _ c d z y q;omega
  ·have:=hc.ap _ _ c d z y q;omega
structure Mk0 (A:Cs)(H0:Hp)(a:Addr)(H:Hp)(L:List (Addr×HO))(ps:List Addr)(Ss:List PS)(op:Own):Prop where
 cs:dH H L
 po:iU A H ps Ss op
 dj:∀x,op x->∀(j:Nat)(c:Addr×HO),L[j]? =some c->c.1≠x
 nw:∀(j:Nat)(c:Addr×HO),L[j]? =some c->c.1=a\/H0 c.1=none
 npo:∀x,op x->H0 x=none
 kp:∀x u,x≠a->H0 x=some u->H x=some u
 ha:H a≠none
theorem tU {c0 c:Addr×HO}{j:Nat}(z:[c0][j]? =some c):j=0/\c=c0:=by
 cases j with
 |zero=>exact⟨rfl,(Yq z).symm⟩
 |succ j=>cases z
theorem Mk0.base {A:Cs}{H:Hp}{a:Addr}{v:HO}(e:H a=some v):Mk0 A H a H [(a,v)] [] [] (fun _=>False):=by
 refine⟨⟨fun j c z=>?_,fun i j c d z y q=>?_⟩,fun x hx=>hx.elim,fun x hx=>hx.elim,fun j c z=>?_,fun x hx=>hx.elim,fun x u _ q=>q,by rw[e];simp⟩
 ·obtain⟨_,rfl⟩:=tU z
  exact e
 ·rw[(tU z).1,(tU y).1]
 ·obtain⟨_,rfl⟩:=tU z
  exact .inl rfl
section
variable {A:Cs}{H0 H H':Hp}{a q:Addr}{L L1 L2:List (Addr×HO)}{ps:List Addr}{Ss:List PS}{op:Own}{v v':HO}
theorem Mk0.non0 (h:Mk0 A H0 a H L ps Ss op)(n:H q=none):H0 q=none:=by
 cases e:H0 q with
 |none=>rfl
 | some u=>
  by_cases z:q=a
  ·exact absurd (z▸n) h.ha
  ·rw[h.kp q u z e]at n;cases n
theorem Mk0.ins (h:Mk0 A H0 a H (L1++L2) ps Ss op)(n:H q=none):Mk0 A H0 a (upd H q v) (L1++(q,v)::L2) ps Ss op:=by
 have nq:=h.non0 n
 refine⟨h.cs.ins n,h.po.same (aJ n v),fun x hx j c z y=>?_,fun j c z=>?_,h.npo,fun x u hx e=>?_,?_⟩
 ·rcases lY z with ⟨_,rfl⟩ | ⟨_,z⟩ | ⟨_,z⟩
  ·exact h.po.al x hx (y▸n)
  ·exact h.dj x hx _ c z y
  ·exact h.dj x hx _ c z y
 ·rcases lY z with ⟨_,rfl⟩ | ⟨_,z⟩ | ⟨_,z⟩
  ·exact .inr nq
  ·exact h.nw _ c z
  ·exact h.nw _ c z
 ·exact aJ n v _ _ (h.kp x u hx e)
 ·have:=h.ha
  cases e:H a with
  |none=>exact absurd e this
  |some u=>rw[aJ n v _ _ e];simp
theorem Mk0.put (h:Mk0 A H0 a H ((a,v)::L) ps Ss op)(nT:¬ isT v):Mk0 A H0 a (upd H a v') ((a,v')::L) ps Ss op:=by
 have e:H a=some v:=h.cs.at_ 0 _ rfl
 have old:∀(j:Nat)(c:Addr×HO),((a,v')::L)[j]? =some c->∃c',((a,v)::L)[j]? =some c'/\c'.1=c.1:=fun j c z=>by
  cases j with
  |zero=>cases z;exact⟨_,rfl,rfl⟩
  |succ j=>exact⟨c,z,rfl⟩
 refine⟨h.cs.put (i:=0) rfl v',h.po.move fun x u eu z=>?_,fun x hx j c z y=>?_,fun j c z=>?_,h.npo,fun x u hx eu=>?_,by rw[aB];simp⟩
 ·rw [aK fun y=>?_]
  ·exact eu
  ·rcases z with z | z
   ·exact h.dj x z 0 _ rfl y.symm
   ·rw[y,e]at eu;cases eu;exact nT z
 ·obtain⟨c',z1,z2⟩:=old j c z
  exact h.dj x hx j c' z1 (z2.trans y)
 ·obtain⟨c',z1,z2⟩:=old j c z
  rw[<-z2]
  exact h.nw j c' z1
 ·rw[aK hx];exact h.kp x u hx eu
theorem Mk0.post {p dp:Addr}{w:HO}{S:PS}{o:Own}(h:Mk0 A H0 a H L ps Ss op)(hp:H p=none)(hdp:H dp=none)(hP:bU A H' p S o)(hin:∀x,o x->x=p\/upd (upd H dp (.own p)) p w x=none)(hk:∀x u,x≠p->upd (upd H dp (.own p)) p w x=some u->H' x=some u):Mk0 A H0 a H' L (ps++[p]) (Ss++[S]) (Or2 op o):=by
 obtain⟨lw,g⟩:=a8J (Same.refl H) hp hdp hP hin hk
 have no:∀x,o x->H x=none:=fun x hx=>lw.fr x hx
 refine⟨h.cs.same g,h.po.snoc hP g no,fun x hx j c z y=>?_,h.nw,fun x hx=>?_,fun x u hx e=>g _ _ (h.kp x u hx e),?_⟩
 ·rcases hx with hx | hx
  ·exact h.dj x hx j c z y
  ·have:=h.cs.at_ j c z
   rw[y,no x hx]at this;cases this
 ·rcases hx with hx | hx
  ·exact h.npo x hx
  ·exact h.non0 (no x hx)
 ·have:=h.ha
  cases e:H a with
  |none=>exact absurd e this
  |some u=>rw[g _ _ e];simp
end
theorem vO {as:List Addr}{q:Addr}(n:Nat)(h:as.length=n):lsC (as++[q]) (List.replicate (n+1) [])=lsC as (List.replicate n [])++[(q,.lst [])]:=by
 unfold lsC
 rw[List.replicate_succ',List.zipWith_append (by rw[YM];exact h)]
 rfl
def R0 (ms:List (Int×Int))(v:Int):RS:={ ps:=ms.map fun m=>S0 m.1.toNat m.2.toNat v.toNat,ow:=[],bo:=[],sa:=List.replicate ms.length [],he:=List.replicate ms.length [],ev:=[] }
theorem Mk0.fin {C:Addr}{A:Cs}{H0 H:Hp}{a dx PL OW BO SA HE EV:Addr}{ps sas hes:List Addr}{op:Own}{ms:List (Int×Int)}{v:Int}(h:Mk0 A H0 a H (jQ C a ⟨dx,PL,OW,BO,SA,HE,EV,ps,sas,hes, [],op⟩ (R0 ms v)) ps (R0 ms v).ps op)(l1:sas.length=ms.length)(l2:hes.length=ms.length)(l5:ms.length<=5):∃o,jO C A H a (R0 ms v) o/\∀x,o x->x=a\/H0 x=none:=by
 have lp:(R0 ms v).ps.length=ms.length:=Ya ..
 refine⟨fun x=>op x\/∃(j:Nat)(c:Addr×HO),(jQ C a ⟨dx,PL,OW,BO,SA,HE,EV,ps,sas,hes, [],op⟩ (R0 ms v))[j]? =some c/\c.1=x,⟨_,h.cs,h.po,.nil,by rw[lp];exact l1,by rw[lp];exact YM ..,by rw[lp];exact l2,by rw[lp];exact YM ..,by rw[lp];exact l5,h.dj,fun x hx=>hx,fun x hx=>?_⟩,fun x hx=>?_⟩
 ·rcases hx with hx | ⟨j,c,z,rfl⟩
  ·exact h.po.al x hx
  ·rw[h.cs.at_ j c z];simp
 ·rcases hx with hx | ⟨j,c,z,rfl⟩
  ·exact .inr (h.npo x hx)
  ·exact h.nw j c z
def wH (H:Hp)(cl:Addr)(ms:List (Int×Int)):Prop:=∃ts:List Addr,H cl=some (.lst (ts.map V.ref))/\ts.length=ms.length/\∀(i:Nat)(t:Addr)(m:Int×Int),ts[i]? =some t->ms[i]? =some m->H t=some (.tup [.int m.1,.int m.2])
theorem wH.keep {H H':Hp}{cl:Addr}{ms:List (Int×Int)}(h:wH H cl ms)(g:∀x u,(x=cl\/isT u)->H x=some u->H' x=some u):wH H' cl ms:=by
 obtain⟨ts,h1,h2,h3⟩:=h
 exact⟨ts,g _ _ (.inl rfl) h1,h2,fun i t m z y=>g _ _ (.inr ⟨_,rfl⟩) (h3 i t m z y)⟩
def a3P (C:Addr)(A:Cs)(NP:Addr):Sp:=fun vs H Q E=>∃a dx cl v ms,vs= [.ref a,.ref cl,.int v]/\H a=some (.ins C dx [])/\wH H cl ms/\ms.length<=500/\
 (((1<=ms.length/\ms.length<=5)/\∀m∈ms,a2K m.1 m.2 v)->∀H' o,jO C A H' a (R0 ms v) o->(∀x,o x->x=a\/H x=none)->(∀x u,x≠a->H x=some u->H' x=some u)->Q .non H')/\
 (¬ ((1<=ms.length/\ms.length<=5)/\∀m∈ms,a2K m.1 m.2 v)->∀H',(∀x u,x≠a->H x=some u->H' x=some u)->E (.ref NP) none H')
def BmK (K:W.Frag)(bm:Addr):Prop:=W.nsIn K mainGlobals "__builtins__"=some (some (.ref bm))/\bm≠builtinsNs/\bm≠mainGlobals/\∃sl,K.lookup bm=some ⟨.type "module",some builtinsNs,.plain,sl⟩
theorem BmK.bm {K:W.Frag}{h:Heap}{mg:Str->Option Value}{bm:Addr}(X:K.In h)(G:h.Ns mainGlobals mg)(z:BmK K bm):Bm K mg bm:=by
 obtain⟨a,b,c,sl,d⟩:=z
 exact⟨W.mg_of X G a,b,c,_,d,rfl,rfl,rfl⟩
theorem b1Z {S:PS}(wf:Wf S):bL S=0\/bL S=1:=by
 have hw:=wf.now
 have sy:bL S=bL S:=rfl
 conv at sy=>rhs;unfold bL
 rw[sy]
 cases en:S.now with
 | speaks n ds k=>
  rw[en]at hw
  dsimp only
  rw[Yg,Yb hw.2.2.1]
  exact(yN hw.1).wbits _ (YL _)
 |tlR n ds v c=>dsimp only;unfold iH;split <;> first | exact .inl rfl | exact .inr rfl
 |tlS v c=>dsimp only;unfold iH;split <;> first | exact .inl rfl | exact .inr rfl
 |free k=>dsimp only;(repeat' split) <;> first | exact .inl rfl | exact .inr rfl
 |flag l m=>exact .inl rfl
 |reads h=>exact .inr rfl
 |settles m=>exact .inr rfl
 |rests l=>exact .inr rfl
 |off=>exact .inr rfl
abbrev b5J:Stmt:=(gJ Zc6).getD 2 (.Pass ⟨0,0,0,0⟩)
abbrev lamT:Expr:=match b5J with
 |.Return (some (.Call _ (l::_) _ _)) _=>l
 |_=> .Name "" ⟨0,0,0,0⟩
abbrev ipT:Arguments:=match lamT with
 |.Lambda a _ _ _=>a
 |_=>⟨[], [],none, [], [],none, []⟩
abbrev ibT:Expr:=match lamT with
 |.Lambda _ b _ _=>b
 |e=>e
abbrev b3L:Scope:=match lamT with
 |.Lambda _ _ s _=>s
 |_=>bM b5J
abbrev a4O:Pos:=match lamT with
 |.Lambda _ _ _ p=>p
 |_=>⟨0,0,0,0⟩
abbrev iqT:Str:=("Rail.turn":Str)++".<locals>."++"<lambda>"
theorem clT {L c:Addr}{f:Addr}{cd:Value}(h:(PyProof.Rows.envOfC "Rail.turn" (bM Zc6) L f cd).cells.lookup (Str.ofString "wrong")=some c):closureFor b3L (PyProof.Rows.envOfC "Rail.turn" (bM Zc6) L f cd)=pure [(Str.ofString "wrong",c)]:=by
 have e:(PyProof.Rows.envOfC "Rail.turn" (bM Zc6) L f cd).cells.lookup (Str.ofString "wrong")=some (L+1):=rfl
 rw[e]at h
 cases h
 rfl
theorem scT:uI ["post","turn","bit","wrong"] ["post","turn","bit"] ["wrong"] b3L:=⟨rfl,rfl,rfl,by decide +kernel,rfl,by decide +kernel,by decide +kernel,by decide +kernel⟩
def wG (H:Hp)(f:Addr)(ws:List Int):Prop:=∃c c' wl,H f=some (nC f iqT ipT ibT b3L [("wrong",c)] c')/\H c'=some (jB c' iqT)/\H c=some (kO c (.ref wl))/\H wl=some (.lst (ws.map V.int))
def wrB (ws:List Int)(i b:Int):Int:=if i∈ws then 1-b else b
def b5B:Addr->List V->Hp->VK->Prop:=fun f vs H Q=>∃(ws:List Int)(i t b:Int),vs= [.int i,.int t,.int b]/\wG H f ws/\∀H',Same H H'->Q (.int (wrB ws i b)) H'
theorem wG.same {H H':Hp}{f:Addr}{ws:List Int}(h:wG H f ws)(g:Same H H'):wG H' f ws:=by
 obtain⟨c,c',wl,h1,h2,h3,h4⟩:=h
 exact⟨c,c',wl,g _ _ h1,g _ _ h2,g _ _ h3,g _ _ h4⟩
theorem a4D {P:Program}{w:World}{K:W.Frag}{mg:Str->Option Value}{base:Heap}:b0W P w K mg base 2 b5B:=by
 rintro f A outer s H us vs Q hr e0 r ⟨ws,i,t,b,rfl,⟨c,c',wl,h1,h2,h3,h4⟩,q⟩
 refine a9B (k:=1) (N:=["post","turn","bit","wrong"]) (ws:=[.ref wl]) scT hr e0 h1 h2 ⟨rfl,by simp,.cons h3 .nil⟩ rfl r (fun pm ctv=> .of_eq ?_) fun hr'=>⟨_,(cG (dO (aY b0A (dv 0) (dv 3) rfl) (aR gW aH (dv 2)) (dv 2))),?_⟩
 ·rcases r with _ | ⟨r1,r⟩
  rcases r with _ | ⟨r2,r⟩
  rcases r with _ | ⟨r3,r⟩
  cases r
  rfl
 have dc:wl≠c:=fun z=>by rw[z,h3]at h4;cases h4
 have hd:lF H [c] wl=some (.lst (ws.map V.int)):=by rw[dF (by simpa using dc)];exact h4
 refine⟨fun v H'=>v= .int (wrB ws i b)/\H'=lF H [c],?_,?_⟩
 ·refine⟨ws,(show SqA K (lF H [c]) wl (ws.map V.int) from .inl (SqL.of hd)),?_⟩
  unfold wrB
  by_cases hm:i∈ws
  ·rw[Yl hm,if_pos hm]
   exact⟨rfl,rfl⟩
  ·rw[Yu hm,if_neg hm]
   exact⟨rfl,rfl⟩
 ·rintro v H' ⟨rfl,rfl⟩
  refine q _ fun z o e=>?_
  show wD H (lF H [c]) [c] z=some o
  by_cases hz:z∈ [c]
  ·rw[a0I hz];exact e
  ·rw[gR hz,dF hz];exact e
def MvP (P:Addr)(o:Own)(H:Hp)(o':Own)(H':Hp):Prop:=Mv (Or2 o fun x=>x=P) H (Or2 o' fun x=>x=P) H'
def jN (P:Addr)(o:Own)(H:Hp):Prop:=¬ o P/\∃ps,H P=some (.tbl ps)/\TriplesOk ps.toList/\(codeAmong a4O ps.toList=none\/∃c',codeAmong a4O ps.toList=some (.ref c')/\H c'=some (jB c' iqT)/\¬ o c')
theorem jN.tabP {P:Addr}{o:Own}{H:Hp}(h:jN P o H):a2J P a4O iqT H:=by
 obtain⟨_,ps,h1,h2,h3⟩:=h
 exact⟨ps,h1,h2,h3.imp id fun ⟨c',a,b,_⟩=>⟨c',a,b⟩⟩
theorem jN.same {P:Addr}{o:Own}{H H':Hp}(h:jN P o H)(g:Same H H'):jN P o H':=by
 obtain⟨n,ps,h1,h2,h3⟩:=h
 exact⟨n,ps,g _ _ h1,h2,h3.imp id fun ⟨c',a,b,c⟩=>⟨c',a,g _ _ b,c⟩⟩
theorem jN.mv {P:Addr}{o o':Own}{H H':Hp}(h:jN P o H)(m:Mv o H o' H'):jN P o' H':=by
 obtain⟨n,ps,h1,h2,h3⟩:=h
 refine⟨fun z=>(m.2 _ z).elim n fun y=>(by rw[h1]at y;cases y),ps,m.1 _ _ h1 (.inl n),h2,h3.imp id fun ⟨c',a,b,c⟩=>⟨c',a,m.1 _ _ b (.inl c),fun z=>(m.2 _ z).elim c fun y=>by rw[b]at y;cases y⟩⟩
theorem jN.mv2 {P:Addr}{o o' ox:Own}{H H':Hp}(h:jN P (Or2 o ox) H)(m:Mv o H o' H'):jN P (Or2 o' ox) H':=by
 obtain⟨n,ps,h1,h2,h3⟩:=h
 refine⟨fun z=>?_,ps,m.1 _ _ h1 (.inl fun z=>n (.inl z)),h2,h3.imp id fun ⟨c',a,b,c⟩=>⟨c',a,m.1 _ _ b (.inl fun z=>c (.inl z)),fun z=>?_⟩⟩
 ·rcases z with z | z
  ·rcases m.2 _ z with y | y
   ·exact n (.inl y)
   ·rw[h1]at y;cases y
  ·exact n (.inr z)
 ·rcases z with z | z
  ·rcases m.2 _ z with y | y
   ·exact c (.inl y)
   ·rw[b]at y;cases y
  ·exact c (.inr z)
theorem jN.own {P:Addr}{o o2:Own}{H:Hp}(h:jN P o H)(g:∀x,o2 x->o x):jN P o2 H:=by
 obtain⟨n,ps,h1,h2,h3⟩:=h
 exact⟨fun z=>n (g _ z),ps,h1,h2,h3.imp id fun ⟨c',a,b,c⟩=>⟨c',a,b,fun z=>c (g _ z)⟩⟩
theorem b0M {qs:Array Value}:¬ isT (.tbl qs):=fun ⟨_,z⟩=>by cases z
def wrL (ws:List Int)(n:Nat)(b:Int):List Int:=(List.range n).map fun i=>wrB ws ((i:Nat):Int) b
def a3M (C:Addr)(A:Cs)(NP P:Addr):Sp:=fun vs H Q E=>∃r R o w wl ws ox,vs= [.ref r,.ref wl]/\H wl=some (.lst (ws.map V.int))/\ws.length<=500/\cB C A H r R o w/\R.ps≠ []/\SzR R/\jN P (Or2 o ox) H/\(∀x,ox x->H x≠none)/\
 ((∀x∈ws,0<=x/\x<((R.ps.length:Nat):Int))->∀b H' o',nA (R.ps.map bL) b->jO C A H' r (lQ R (wrL ws R.ps.length b) b) o'->jN P (Or2 o' ox) H'->MvP P o H o' H'->Q (.int b) H')/\
 (¬ (∀x∈ws,0<=x/\x<((R.ps.length:Nat):Int))->∀H',Same H H'->E (.ref NP) none H')
theorem b0C {ws:List Int}{i b:Int}(h:b=0\/b=1):wrB ws i b=0\/wrB ws i b=1:=by
 unfold wrB
 by_cases z:i∈ws
 ·rw[if_pos z];omega
 ·rw[if_neg z];exact h
theorem cB.says {C:Addr}{A:Cs}{H:Hp}{r:Addr}{R:RS}{o:Own}{w:Rw}(h:cB C A H r R o w){b:Int}(hb:b∈R.ps.map bL):b=0\/b=1:=by
 obtain⟨S,hS,rfl⟩:=Y1.mp hb
 obtain⟨i,hi,e⟩:=Xb hS
 obtain⟨p,oi,_,hP⟩:=h.at (i:=i) (S:=S) (by rw[Yb hi,e])
 exact b1Z hP.wf
def b1X (C:Addr)(A:Cs)(NP:Addr)(g:PS->Hp->VK->Prop):Sp:=fun vs H Q E=>∃r R o w k,vs= [.ref r,.int k]/\cB C A H r R o w/\(∀(i:Nat) S,k=((i:Nat):Int)->R.ps[i]? =some S->g S H Q)/\(¬ (0<=k/\k<((R.ps.length:Nat):Int))->∀H',Same H H'->E (.ref NP) none H')
def a4C (C:Addr)(A:Cs)(NP:Addr)(g:RS->List (List Int)):Sp:=fun vs H Q E=>∃r R o w k,vs= [.ref r,.int k]/\cB C A H r R o w/\(∀(i:Nat) xs,k=((i:Nat):Int)->(g R)[i]? =some xs->∀l,H l=none->Q (.ref l) (upd H l (.lst (xs.map V.int))))/\(¬ (0<=k/\k<((R.ps.length:Nat):Int))->∀H',Same H H'->E (.ref NP) none H')
def b8P:PS->Hp->VK->Prop:=fun S H Q=>S.up.length<=900/\∀l xs H',H l=none->Same H H'->H' l=some (.lst xs)->eN H H' xs S.up->Q (.ref l) H'
abbrev FB (P:Program)(w:World)(K:W.Frag)(mg:Str->Option Value)(base:Heap)(CX:CXT)(k:Nat)(nm:Str)(a:Addr)(d:FuncData)(ps:List Str)(sp:Sp):Prop:=fM P w K mg base CX k a d ps sp/\Binds K d ps []/\W.keepIn K (.ref a)=true/\mg nm=some (.ref a)
abbrev MB (P:Program)(w:World)(K:W.Frag)(mg:Str->Option Value)(base:Heap)(CX:CXT)(k:Nat)(a:Addr)(d:FuncData)(ps:List Str)(sp:Sp):Prop:=fM P w K mg base CX k a d ps sp/\Binds K d ps []
abbrev FL (K:W.Frag)(f:Addr)(n q:Str)(st:Stmt)(oc:Value)(od:Option Addr)(kV dc pm:Value)(an:Option Addr)(cd ct:Value)(sl:Array (Option Value)):Prop:=K.lookup f=some ⟨oc,od,.func (W.fnOf n q (lD st) (gJ st) (bM st) .none kV dc pm an cd ct),sl⟩
structure GFm (K:W.Frag)(mg:Str->Option Value)(nm:Str)(st:Stmt)(f:Addr)(d:FuncData):Prop where
 F:Fun K nm nm st f d
 m:mg nm=some (.ref f)
def GF (K:W.Frag)(mg:Str->Option Value)(nm:Str)(st:Stmt)(f:Addr):Prop:=∃d,GFm K mg nm st f d
def MF (K:W.Frag)(C:Addr)(x q:Str)(st:Stmt)(f:Addr):Prop:=W.findIn K (.ref C) x=some (some (.ref f))/\∃d,Fun K x q st f d
theorem gf_mk {K:W.Frag}{h:Heap}{mg:Str->Option Value}{nm:Str}{st:Stmt}{f:Addr}{oc kV dc pm cd ct:Value}{od an:Option Addr}{sl:Array (Option Value)}(X:K.In h)(G:h.Ns mainGlobals mg)(a:W.nsIn K mainGlobals nm=some (some (.ref f)))(l:FL K f nm nm st oc od kV dc pm an cd ct sl)(c:W.codeIn K cd nm=true)(k:W.keepIn K (.ref f)=true):GF K mg nm st f:=⟨_,xW l c k,W.mg_of X G a⟩
theorem mf_mk {K:W.Frag}{C:Addr}{x q:Str}{st:Stmt}{f:Addr}{oc kV dc pm cd ct:Value}{od an:Option Addr}{sl:Array (Option Value)}(a:W.findIn K (.ref C) x=some (some (.ref f)))(l:FL K f x q st oc od kV dc pm an cd ct sl)(c:W.codeIn K cd q=true)(k:W.keepIn K (.ref f)=true):MF K C x q st f:=⟨a,_,xW l c k⟩
def MFc (K:W.Frag)(C:Addr)(x q:Str)(st:Stmt)(f c0:Addr):Prop:=W.findIn K (.ref C) x=some (some (.ref f))/\∃d,Fun K x q st f d/\d.code= .ref c0
theorem mfc_mk {K:W.Frag}{C c0:Addr}{x q:Str}{st:Stmt}{f:Addr}{oc kV dc pm ct:Value}{od an:Option Addr}{sl:Array (Option Value)}(a:W.findIn K (.ref C) x=some (some (.ref f)))(l:FL K f x q st oc od kV dc pm an (.ref c0) ct sl)(c:W.codeIn K (.ref c0) q=true)(k:W.keepIn K (.ref f)=true):MFc K C x q st f c0:=⟨a,_,xW l c k,rfl⟩
abbrev HB (x q:Str)(st:Stmt)(ps:List Str):Prop:=∀(kV doc pm:Value)(an:Option Addr)(cdv ct:Value)(us:List Value),us.length=ps.length->bindArgs (W.fnOf x q (lD st) (gJ st) (bM st) .none kV doc pm an cdv ct) ⟨us, []⟩=pure (ps.zip us)
theorem bi0 {d:FuncData}(h:bindArgs d ⟨[], []⟩=pure []):∀us:List Value,us.length=([]:List Str).length->bindArgs d ⟨us, []⟩=pure (([]:List Str).zip us) | [],_=>h
theorem bi1 {d:FuncData}{a:Str}(h:∀u,bindArgs d ⟨[u], []⟩=pure [(a,u)]):∀us:List Value,us.length= [a].length->bindArgs d ⟨us, []⟩=pure ([a].zip us):=by
 intro us hl
 rcases us with _ | ⟨u,_ | ⟨w_,l_⟩⟩
 ·simp at hl
 ·exact h u
 ·simp at hl
theorem bi2 {d:FuncData}{a b:Str}(h:∀u v,bindArgs d ⟨[u,v], []⟩=pure [(a,u),(b,v)]):∀us:List Value,us.length= [a,b].length->bindArgs d ⟨us, []⟩=pure ([a,b].zip us):=by
 intro us hl
 rcases us with _ | ⟨u,_ | ⟨v,_ | ⟨w_,l_⟩⟩⟩
 ·simp at hl
 ·simp at hl
 ·exact h u v
 ·simp at hl
theorem bi3 {d:FuncData}{a b c:Str}(h:∀u v x,bindArgs d ⟨[u,v,x], []⟩=pure [(a,u),(b,v),(c,x)]):∀us:List Value,us.length= [a,b,c].length->bindArgs d ⟨us, []⟩=pure ([a,b,c].zip us):=by
 intro us hl
 rcases us with _ | ⟨u,_ | ⟨v,_ | ⟨x,_ | ⟨w_,l_⟩⟩⟩⟩
 ·simp at hl
 ·simp at hl
 ·simp at hl
 ·exact h u v x
 ·simp at hl
theorem bi4 {d:FuncData}{a b c e:Str}(h:∀u v x y,bindArgs d ⟨[u,v,x,y], []⟩=pure [(a,u),(b,v),(c,x),(e,y)]):∀us:List Value,us.length= [a,b,c,e].length->bindArgs d ⟨us, []⟩=pure ([a,b,c,e].zip us):=by
 intro us hl
 rcases us with _ | ⟨u,_ | ⟨v,_ | ⟨x,_ | ⟨y,_ | ⟨w_,l_⟩⟩⟩⟩⟩
 ·simp at hl
 ·simp at hl
 ·simp at hl
 ·simp at hl
 ·exact h u v x y
 ·simp at hl
theorem sco {N ps:List Str}{sc:Scope}(h1:sc.kind= .function/\sc.isCoroutine=false/\sc.isGenerator=false)(h2:N.Nodup/\N.take ps.length=ps/\(∀x∈ps,sc.names.lookup x=some .local\/sc.names.lookup x=some .cell)/\∀y∈sc.names,y.2≠ .free):gK N ps sc:=⟨h1.1,h1.2.1,h1.2.2,h2.1,h2.2.1,h2.2.2.1,h2.2.2.2⟩
section
variable {P:Program}{w:World}{K:W.Frag}{mg:Str->Option Value}{base:Heap}{CX:CXT}{x q:Str}{st:Stmt}{f:Addr}{fd:FuncData}{ps:List Str}{k:Nat}{sp:Sp}
theorem mbM (N:List Str)(F:Fun K x q st f fd)(g:gK N ps (bM st)->fM P w K mg base CX k f fd ps sp)(S:gK N ps (bM st):=by exact sco ⟨rfl,rfl,rfl⟩ (by decide +kernel))
  (hb:HB x q st ps:=by first | exact fun _ _ _ _ _ _=>bi1 fun _=>rfl | exact fun _ _ _ _ _ _=>bi2 fun _ _=>rfl | exact fun _ _ _ _ _ _=>bi3 fun _ _ _=>rfl | exact fun _ _ _ _ _ _=>bi4 fun _ _ _ _=>rfl | exact fun _ _ _ _ _ _=>bi5 fun _ _ _ _ _=>rfl | exact fun _ _ _ _ _ _=>bi6 fun _ _ _ _ _ _=>rfl | exact fun _ _ _ _ _ _=>bi7 fun _ _ _ _ _ _ _=>rfl | exact fun _ _ _ _ _ _=>bi0 rfl):MB P w K mg base CX k f fd ps sp:=⟨g S,F.binds hb⟩
theorem fbM (N:List Str)(F:GFm K mg x st f fd)(g:gK N ps (bM st)->fM P w K mg base CX k f fd ps sp)(S:gK N ps (bM st):=by exact sco ⟨rfl,rfl,rfl⟩ (by decide +kernel))
  (hb:HB x x st ps:=by first | exact fun _ _ _ _ _ _=>bi1 fun _=>rfl | exact fun _ _ _ _ _ _=>bi2 fun _ _=>rfl | exact fun _ _ _ _ _ _=>bi3 fun _ _ _=>rfl | exact fun _ _ _ _ _ _=>bi4 fun _ _ _ _=>rfl | exact fun _ _ _ _ _ _=>bi5 fun _ _ _ _ _=>rfl | exact fun _ _ _ _ _ _=>bi6 fun _ _ _ _ _ _=>rfl | exact fun _ _ _ _ _ _=>bi7 fun _ _ _ _ _ _ _=>rfl | exact fun _ _ _ _ _ _=>bi0 rfl):FB P w K mg base CX k x f fd ps sp:=⟨g S,F.F.binds hb,F.F.kp,F.m⟩
end
section
variable (P:Program)(w:World){K:W.Frag}(mg:Str->Option Value)(base:Heap){CA:Cs}
variable {ZdT Zcu ZcO ZbR Zih ZgT ZgR Zii Zik Zhu Zij ZjK Zfv Zf0 Zil ZgU Zfx Zf1 ZdP Zdc ZdO Zdt Zds Ze0 ZdF ZfY Zcp Zbx ZdE Zdb ZcN Zed ZcK Zdp ZeK Zee ZdI ZdH Zec ZeL ZeO ZdQ Zeg ZdJ Zc7 Zdu Zej Zda ZdM ZcL ZbQ ZbP ZgS Zdq ZeR ZjJ ZfC Zf3 Zhv Zf2 Zht Zfw ZeM ZeT ZeP ZdR Zeh ZdK Zc8 Zdv Zek ZfA ZfB Zc9 Zdw Zel ZeQ Zei ZdS ZdL ZeU ZeS Zdr ZeX ZeW ZcM ZeZ ZdN ZfD ZeY Zef ZeV ZgO ZgQ Zfu Zft Zdj ZgP ZfZ ZlX Zmc Zlc ZjI ZlW ZcG ZbN ZdD Zkj Zk:Addr}
variable {ZhL Zfy Zf8 Zeo ZkE Zjj Zjh ZkF ZkH ZjY ZkG Zle ZhO Ziy ZkI Zjk ZhQ Ziz ZhH Zgj ZhG Zg2 Zg1 Zjc Zjd Ziw Zgk Ze7 Zjb Zgi Zf7 Zin Zf4 ZgX ZgY Zio ZhA Zhz Zim Zg6 Zi0 ZhI Ziq ZhB Zge Zg3 Zit Zgh ZhE Zf5 Zen Zem Zji ZgZ Zi3 Zld ZjV ZiB ZjZ ZiA ZjX ZhP Zg7 Zi5 Zi1 ZhJ Zir ZhC Zgf Zg4 Ziu ZjT ZjU Zgg Zg5 Ziv Zi2 Zis ZhK ZhD Zi6 Zi4 Zg0 Zi9 Zi8 Zf6 ZgV ZhF ZjW Zja Zip Zi7 Zje Zjg ZhN ZhM Ze8 Zjf Zix Zl9:FuncData}
variable {ZkC Zme ZlD ZlU ZkD ZlE Zl8 ZlV Zl7 ZlR ZlF Zk4 Zk6 ZlH Zl3 ZlQ Zl4 ZlT ZlI Zk5 ZlS ZlG:Tok}
variable (Zb7:mg "MOST_ALIKE"=some (.int 5 ZlE))
variable (ZaB:mg "NoBits"=some (.ref Zlc))
variable (ZdA:mg "HIGHEST_BYTE"=some (.int 255 ZkC))
variable (ZI:mg "NoKey"=some (.ref ZlW))
variable (Zk7:mg "KEY"=some (.int 64647 Zme))
variable (Zby:mg "CHECK_BITS"=some (.int 15 ZlD))
variable (ZdB:mg "HIGHEST_NAME"=some (.int 255 ZkD))
variable (Zd4:mg "Streak"=some (.ref CA.streak))
variable (Zq:mg "NoFrame"=some (.ref ZcG))
variable (Zes:mg "MOST_BYTES"=some (.int 7 ZlF))
variable (Ze3:mg "NAME_BITS"=some (.int 8 ZlU))
variable (Ze4:mg "SIZE_BITS"=some (.int 3 ZlV))
variable (ZaW:mg "BYTE_BITS"=some (.int 8 ZlR))
variable (Zdk:mg "SIZE_AT"=some (.int 9 Zl8))
variable (Zbz:mg "DATA_AT"=some (.int 12 Zl7))
variable (Zct:mg "ANSWER_AT"=some (.int 1 ZlQ))
variable (ZcR:mg "VOTES_AT"=some (.int 9 Zl4))
variable (Zdl:mg "Tail"=some (.ref ZdD))
variable (Zeu:mg "QUIET_FROM"=some (.int 12 ZlH))
variable (ZfE:mg "OFF_FROM"=some (.int 18 Zl3))
variable (ZbO:mg "GREAT_FAULT"=some (.int 8 Zk4))
variable (ZdW:mg "SMALL_FAULT"=some (.int 1 Zk6))
variable (Zhw:mg "Reader"=some (.ref CA.reader))
variable (Zk8:mg "Off"=some (.ref CA.off))
variable (ZcQ:mg "Flagging"=some (.ref CA.flag))
variable (Ze2:mg "FLAG_BITS"=some (.int 6 ZlT))
variable (Zb0:mg "Settles"=some (.ref CA.settles))
variable (Zc5:mg "VOTES"=some (.ref Zkj))
variable (Zz:mg "NoPost"=some (.ref ZbN))
variable (ZiT:mg "Count"=some (.ref CA.count))
variable (ZdG:mg "Free"=some (.ref CA.free))
variable (ZdV:mg "QUIET_TURNS"=some (.int 8 Zk5))
variable (ZcC:mg "Rests"=some (.ref CA.rests))
variable (ZbA:mg "REST_TURNS"=some (.int 3 ZlI))
variable (Zd3:mg "Speaks"=some (.ref CA.speaks))
variable (Zc4:mg "Reads"=some (.ref CA.reads))
variable (Zd2:mg "InTail"=some (.ref CA.intail))
variable (ZfF:mg "ReadTail"=some (.ref CA.rtail))
variable (Ze1:mg "DUEL_BITS"=some (.int 9 ZlS))
variable (Ze5:mg "SpeakTail"=some (.ref CA.stail))
variable (Zae:mg "Rail"=some (.ref Zk))
variable (Zet:mg "MOST_POSTS"=some (.int 5 ZlG))
variable (Zj0:mg "Post"=some (.ref CA.post))
variable (ZeN:mg "NoName"=some (.ref ZjI))
variable (ZS:mg "range"=none)
variable (Zk9:mg "all"=none)
variable (Z3:mg "list"=none)
variable (Zu:mg "len"=none)
variable (Zlb:mg "max"=none)
variable (Zhx:mg "min"=none)
variable (Ze6:mg "enumerate"=none)
variable (Zhy:mg "sum"=none)
variable (Zev:mg "isinstance"=none)
variable (ZiU:mg "tuple"=none)
variable (Zla:mg "int"=none)
variable (Zdz:yF K Zkj [1,3,5])
variable (Zg:TCl K CA.rtail)
variable (Zf:TCl K CA.stail)
variable (Zh:Cls K CA.streak)
variable (Zbm:Mk K CA.streak ZdT)
variable (Ze:Cls K CA.reader)
variable (Zal:b0X K ZdD "__init__" Ze0)
variable (Zd:Cls K CA.count)
variable (Zdy:Mk K CA.reader ZdP)
variable (ZL:Cls K CA.free)
variable (Zi:Cls K CA.speaks)
variable (ZE:Cls K CA.reads)
variable (Zr:Cls K CA.intail)
variable (Zt:Cls K CA.flag)
variable (ZU:Cls K CA.settles)
variable (ZZ:Cls K CA.rests)
variable (Za:Cls K CA.post)
variable (ZaY:Mk K CA.flag Zc7)
variable (Zas:Mk K CA.settles Zdu)
variable (ZdU:Mk K CA.count Zed)
variable (ZaT:Mk K CA.free ZeO)
variable (Zax:Mk K CA.rests Zej)
variable (Zbl:Mk K CA.speaks ZdQ)
variable (ZaK:Mk K CA.reads Zeg)
variable (Zbk:Mk K CA.intail ZdJ)
variable (ZcP:Mk K CA.rtail Zdb)
variable (Zcv:Mk K CA.stail ZcN)
variable (Zb6:Cls K CA.off)
variable (Zb:Cls K Zk)
variable (Zep:Mk K CA.post ZeT)
variable (Zeq:Mk K Zk ZeX)
variable (ZT:Meth K CA.streak "lengthen" Zcu)
variable (ZC:Meth K CA.streak "is_full" ZcO)
variable (ZaQ:Meth K CA.streak "is_too_long" ZbR)
variable (Zbf:Meth K CA.reader "judged" Zdc)
variable (Za3:Meth K CA.rtail "is_fault" Zcp)
variable (ZaX:Meth K CA.stail "is_fault" Zcp)
variable (ZaR:Meth K CA.rtail "judged_vote" Zbx)
variable (ZaC:Meth K CA.stail "judged_vote" Zbx)
variable (Zai:Meth K CA.count "is_off" Zdp)
variable (ZW:Meth K CA.count "move" Zee)
variable (ZO:Meth K CA.reader "hear" ZdO)
variable (Za6:Meth K CA.count "is_quiet" ZcK)
variable (ZbK:Meth K CA.post "is_off" ZdM)
variable (Zer:MkB K CA.off)
variable (Zam:Meth K CA.count "fault" ZdI)
variable (ZbH:Meth K CA.count "blame" ZdH)
variable (Za7:Meth K CA.post "has_frame" ZcL)
variable (Zbe:Meth K CA.post "is_quiet" Zda)
variable (Za2:Meth K CA.rtail "says" ZdF)
variable (ZaV:Meth K CA.stail "says" ZdF)
variable (Zaz:Meth K CA.free "says" ZeP)
variable (ZaP:Meth K CA.post "foremost_wire" ZbQ)
variable (Zbp:Meth K CA.reader "frame" Zds)
variable (Zbq:Meth K CA.reader "plain" Zdt)
variable (ZbS:Meth K CA.count "good" Zec)
variable (ZaO:Meth K CA.post "drop_foremost" ZbP)
variable (Zbo:Meth K CA.post "hand_up" Zdq)
variable (Za1:Meth K CA.rtail "hear" ZdE)
variable (ZaU:Meth K CA.stail "hear" ZdE)
variable (ZbL:Meth K CA.speaks "says" ZdR)
variable (ZbT:Meth K CA.reads "says" Zeh)
variable (ZbI:Meth K CA.intail "says" ZdK)
variable (Zbc:Meth K CA.flag "says" Zc8)
variable (Zbr:Meth K CA.settles "says" Zdv)
variable (ZbV:Meth K CA.rests "says" Zek)
variable (Zcq:Meth K CA.off "says" ZfA)
variable (Zb8:Meth K CA.free "step" ZeQ)
variable (ZbM:Meth K CA.speaks "step" ZdS)
variable (ZbU:Meth K CA.reads "step" Zei)
variable (ZbJ:Meth K CA.intail "step" ZdL)
variable (Zbd:Meth K CA.flag "step" Zc9)
variable (Zbs:Meth K CA.settles "step" Zdw)
variable (ZbW:Meth K CA.rests "step" Zel)
variable (Zcr:Meth K CA.off "step" ZfB)
variable (Zl:Meth K Zk "post_at" Zdr)
variable (Zb9:Meth K CA.post "hand" ZeR)
variable (Zcb:Meth K CA.post "says" ZeU)
variable (Zca:Meth K CA.post "hear" ZeS)
variable (Za8:Meth K Zk "make_turn" ZcM)
variable (Zcs:Meth K CA.post "got" ZfC)
variable (Zan:Meth K Zk "events" ZdN)
variable (ZaD:Meth K Zk "got" ZfD)
variable (Zav:Meth K Zk "heard" Zef)
variable (Zce:Meth K Zk "said" ZeY)
variable (Zcd:Meth K Zk "hand" ZeW)
variable (Zcf:Meth K Zk "turn" ZeZ)
variable (Zcc:Meth K Zk "bits" ZeV)
variable (ZfG:Bm K mg 4)
variable (Zak:bJ K CA.streak "last")
variable (Zv:bJ K CA.streak "alike")
variable (Zy:bJ K CA.reader "streak")
variable (Zp:bJ K CA.reader "kept")
variable (ZG:bJ K CA.reader "answer")
variable (Zo:bJ K CA.count "total")
variable (Z6:bJ K CA.free "since")
variable (ZH:bJ K CA.speaks "wire")
variable (ZR:bJ K CA.speaks "reader")
variable (ZB:bJ K CA.speaks "many")
variable (Z4:bJ K CA.reads "reader")
variable (ZaE:bJ K CA.reads "many")
variable (ZA:bJ K CA.intail "tail")
variable (Zaw:bJ K CA.intail "found")
variable (Zad:bJ K CA.flag "left")
variable (ZM:bJ K CA.flag "may_blame")
variable (Z5:bJ K CA.settles "may_blame")
variable (Zau:bJ K CA.rests "left")
variable (Zj:bJ K CA.post "tally")
variable (Zn:bJ K CA.post "waiting")
variable (ZaA:bJ K CA.post "choice")
variable (ZJ:bJ K CA.post "handed_up")
variable (Z7:bJ K CA.post "votes")
variable (Zab:bJ K CA.post "now")
variable (ZF:bJ K Zk "posts")
variable (Zaj:bJ K Zk "owners")
variable (ZN:bJ K Zk "borne")
variable (ZX:bJ K Zk "sayings")
variable (ZQ:bJ K Zk "hearings")
variable (ZP:bJ K Zk "happened")
variable (Zdd:W.excIn K Zlc [.type "ValueError",.type "Exception",.type "BaseException",.type "object"] "ValueError.__new__"=true)
variable (Zdx:W.excIn K ZlW [.type "ValueError",.type "Exception",.type "BaseException",.type "object"] "ValueError.__new__"=true)
variable (Zaa:W.excIn K ZcG [.type "ValueError",.type "Exception",.type "BaseException",.type "object"] "ValueError.__new__"=true)
variable (Z0:W.excIn K ZbN [.type "ValueError",.type "Exception",.type "BaseException",.type "object"] "ValueError.__new__"=true)
variable (Zde:W.excIn K ZjI [.type "ValueError",.type "Exception",.type "BaseException",.type "object"] "ValueError.__new__"=true)
variable (ZfH:W.codeHdIn K 969 965=true)
variable (hc_Rail_turn:ZgV.code= .ref 969)
set_option maxHeartbeats 4000000
variable (ZaJ:MB P w K mg base (CX0) 1 ZdT ZhL ["self"] (a3K CA.streak))
include Zh Zak Zv in
theorem Zkw (F0:Fun K "__init__" "Streak.__init__" Zh3 ZdT ZhL):type_of% ZaJ:=by
 refine mbM ["self"] F0 fun Sc0=>F0.ok Sc0 (fun vs H Q E h=>?_) fun cdv A outer s H vs Q E hr h=>?_
 ·obtain⟨a,dx,rfl,_⟩:=h
  rfl
 obtain⟨a,dx,rfl,ha,q⟩:=h
 have nd:=Sc0.nd
 refine⟨_,(aF (bO Zh Zak (dv 0) tQ) (aG (bO Zh Zv (dv 0) aH))),?_⟩
 refine⟨dx, [],ha,by decide,?_⟩
 refine⟨dx,_,aB,by decide,?_⟩
 exact q _ (by rw[jE];rfl)
variable (ZV:MB P w K mg base (CX0) 1 Zcu Zfy ["self","bit"] (a7K CA.streak))
include Zh Zak Zv in
theorem ZiC (F0:Fun K "lengthen" "Streak.lengthen" Zfz Zcu Zfy):type_of% ZV:=by
 refine mbM ["self","bit"] F0 fun Sc0=>F0.ok Sc0 (fun vs H Q E h=>?_) fun cdv A outer s H vs Q E hr h=>?_
 ·obtain⟨a,s,b,rfl,_⟩:=h
  rfl
 obtain⟨a,s,b,rfl,⟨dx,ha⟩,q⟩:=h
 have nd:=Sc0.nd
 refine⟨_,(aF (bO Zh Zv (dv 0) (cG (dO (aY dW (dv 1) (aP Zh Zak (dv 0)) (aV _)) (aR bV (aP Zh Zv (dv 0)) aH) aH))) (aG (bO Zh Zak (dv 0) (dv 1)))),?_⟩
 refine⟨fun x H'=>x= .int (((skp s b).2:Nat):Int)/\H'=H,?_,?_⟩
 ·obtain⟨l,n⟩:=s
  cases l with
  |none=>exact⟨dx,_,.non,ha,rfl,rfl,rfl⟩
  | some c=>
   refine⟨dx,_,.int c,ha,rfl,?_⟩
   conv=>whnf
   refine bN (fun z=>?_) (fun z=>?_)
   ·have e:b=c:=dec_true z
    subst e
    refine⟨dx,_,.int n,ha,rfl,?_,rfl⟩
    have e2:(skp (some b,n) b).2=n+1:=if_pos rfl
    rw[e2];rfl
   ·have e:¬ b=c:=dec_false z
    refine⟨?_,rfl⟩
    have e2:(skp (some c,n) b).2=1:=if_neg fun y=>e (Yq y).symm
    rw[e2];rfl
 rintro x H' ⟨rfl,rfl⟩
 refine⟨dx,_,ha,(show 2<1000 by decide),?_⟩
 refine⟨dx,_,aB,(show 2<1000 by decide),?_⟩
 refine q _ ⟨dx,?_⟩ fun x hx=>by rw[aK hx,aK hx]
 rw[aB]
 rfl
variable (ZK:MB P w K mg base (CX0) 1 ZcO Zf8 ["self"] (a3L CA.streak))
include Zb7 Zh Zv in
theorem ZiZ (F0:Fun K "is_full" "Streak.is_full" Zgd ZcO Zf8):type_of% ZK:=by
 refine mbM ["self"] F0 fun Sc0=>F0.ok Sc0 (fun vs H Q E h=>?_) fun cdv A outer s H vs Q E hr h=>?_
 ·obtain⟨a,s,rfl,_⟩:=h
  rfl
 obtain⟨a,s,rfl,⟨dx,ha⟩,q⟩:=h
 have nd:=Sc0.nd
 refine⟨_,(aG (aM (eO dW (aP Zh Zv (dv 0)) (bD (v:= .int 5) rfl Zb7 ⟨_,rfl⟩) (aV _)))),?_⟩
 refine⟨dx,_,.int s.2,ha,rfl,?_⟩
 conv=>whnf
 rw[a2E]
 exact q
variable (ZaN:MB P w K mg base (CX0) 1 ZbR Zeo ["self"] (a3J CA.streak))
include Zb7 Zh Zv in
theorem Zha (F0:Fun K "is_too_long" "Streak.is_too_long" Zey ZbR Zeo):type_of% ZaN:=by
 refine mbM ["self"] F0 fun Sc0=>F0.ok Sc0 (fun vs H Q E h=>?_) fun cdv A outer s H vs Q E hr h=>?_
 ·obtain⟨a,s,rfl,_⟩:=h
  rfl
 obtain⟨a,s,rfl,⟨dx,ha⟩,q⟩:=h
 have nd:=Sc0.nd
 refine⟨_,(aG (aM (eO uK (aP Zh Zv (dv 0)) (bD (v:= .int 5) rfl Zb7 ⟨_,rfl⟩) (aV _)))),?_⟩
 refine⟨dx,_,.int s.2,ha,rfl,?_⟩
 show Q (.bl (decide ((5:Int)<((s.2:Nat):Int)))) H
 rw[a9J]
 exact q
variable (Z1:FB P w K mg base (CXR P w) 1 "bits_of" Zih ZkE ["number","many"] (a4B))
include ZaB ZS Zdd in
theorem ZlY (F0:GFm K mg "bits_of" ZkJ Zih ZkE):type_of% Z1:=by
 refine fbM ["number","many"] F0 fun Sc0=>F0.F.okR Sc0 (fun vs H Q E h=>?_) fun cdv A outer s H vs Q E hr h=>?_
 ·obtain⟨n,m,rfl,_⟩:=h
  rfl
 obtain⟨n,m,rfl,hn,hm,q⟩:=h
 have nd:=Sc0.nd
 refine⟨_,(aF (bH (PW.pt (oA (aY wI (dv 0) aH (aV _)) (lM (aY nD (aR yJ (dv 0) (dv 1)) aH (aV _))))) (aG (dN YR ZaB Zdd (aA bA aD))) aW) (aG (aM (gH rfl (ix:=[0,1]) (cV rfl ZS (aA (dv 1) aD)) (fun C fp s0 H0 at0=>fB) (fun C fp s0 H0 at0=>(aR rH (aR yJ (dv 1) (aR gW (aR gW (dv 2) aH) (dv 0))) aH)) rfl rfl (by rfl) (show ([".0","place","number","many"]:List Str).Nodup by decide +kernel))))),?_⟩
 refine⟨by omega,?_⟩
 conv=>whnf
 refine jW (a2C hn) ?_
 have em:((m:Nat):Int).toNat=m:=YI m
 refine⟨⟨by omega,by omega⟩,gC (fun i ys H'=>ys=((bY n m).take i).map V.int/\H'=H) ?_ ⟨rfl,rfl⟩ ?_ ?_⟩
 ·rintro i ys H' hi ⟨rfl,_⟩
  refine bW ?_
  rw[Ya,Yo,cC]
  omega
 ·rintro i ys H' hi ⟨rfl,rfl⟩
  rw[em]at hi
  refine⟨(by show (0:Int)<=(m:Int)-1-(0+(i:Int));omega),?_,rfl⟩
  have e:(m:Int)-1-(0+(i:Int))=((m-1-i:Nat):Int):=by omega
  show _++[V.int (Builtin.bitAnd ((n:Int) / 2 ^ ((m:Int)-1-(0+(i:Int))).toNat) 1)]=_
  rw[e,b0V,a0O hi,Yn]
  rfl
 ·rintro ys H' ⟨rfl,rfl⟩ p hp
  rw[em,Ym (by rw[cC];exact Yd _)]
  exact q p hp
variable (Zw:FB P w K mg base (CX0) 1 "number_of" ZgT Zjj ["bits"] (wV K))
theorem Zlz (F0:GFm K mg "number_of" ZjE ZgT Zjj):type_of% Zw:=by
 refine fbM ["bits","number","bit"] F0 fun Sc0=>F0.F.ok Sc0 (fun vs H Q E h=>?_) fun cdv A outer s H vs Q E hr h=>?_
 ·obtain⟨a,bs,rfl,_⟩:=h
  rfl
 obtain⟨a,bs,rfl,hS,hb,hl,q⟩:=h
 have nd:=Sc0.nd
 refine⟨_,(aF (bB (i:=1) nd rfl (Or.inl rfl) aH) (aF (dZ YW rfl (dC (dv 0)) (cQ (i:=2) nd rfl (Or.inl rfl)) (aG (bB (i:=1) nd rfl (Or.inl rfl) (aR bV (aR iD (dv 1) aH) (dv 2))))) (aG (aM (dv 1))))),?_⟩
 refine⟨⟨_,hS⟩,gP (xs:=bs.map V.int) (fun i σ H'=>(∃x,σ= [some (.ref a),some (.int (jH (bs.take i))),x])/\H'=H) ⟨⟨_,rfl⟩,rfl⟩ (fun i σ H' _ z=>by rw[z.2];exact hS) ?_ ?_⟩
 ·rintro i x σ H' hx ⟨⟨y,rfl⟩,rfl⟩
  obtain⟨hi,rfl⟩:=mL hx
  have hb':bG (bs.take i):=fun b h=>hb b (Xf h)
  have b1:=tW hb'
  have b2:(2:Int) ^ (bs.take i).length<=2 ^ 450:=wL (by rw[Yo];omega)
  refine⟨⟨qW (n:=450) (a1K b1.1 (by omega)),gQ (by decide) (by decide)⟩,⟨some (.int bs[i]),?_⟩,rfl⟩
  rw[Yh hi,nH]
  rfl
 ·rintro σ H' ⟨⟨y,rfl⟩,rfl⟩
  rw[Ya,Ym (Yd _),a8X hb]
  exact q
variable (Zaq:FB P w K mg base (CX0) 1 "are_bytes" ZgR Zjh ["numbers"] (a7R K))
include ZdA Zk9 in
theorem Zlx (F0:GFm K mg "are_bytes" ZjC ZgR Zjh):type_of% Zaq:=by
 refine fbM ["numbers"] F0 fun Sc0=>F0.F.ok Sc0 (fun vs H Q E h=>?_) fun cdv A outer s H vs Q E hr h=>?_
 ·obtain⟨a,ns,rfl,_⟩:=h
  rfl
 obtain⟨a,ns,rfl,hS,hl,q⟩:=h
 have nd:=Sc0.nd
 refine⟨_,(aG (aM (aZ (b4R rfl) rfl Zk9 b4G (aA (gH rfl (ix:=[]) (b3B (dv 0)) (fun C fp s0 H0 at0=>fB) (fun C fp s0 H0 at0=>(vM qY qY aH (dv 0) (bD (v:= .int 255) rfl ZdA ⟨_,rfl⟩))) rfl rfl (by rfl) (show ([".0","number"]:List Str).Nodup by decide +kernel)) aD)))),?_⟩
 refine a6N hS (fun i ys=>ys=((ns.take i).map byt).map V.bl) ?_ rfl ?_ ?_
 ·rintro i ys hi rfl
  refine bW ?_
  rw[Ya,Ya,Yo]
  omega
 ·rintro i x ys hx rfl
  obtain⟨hi,rfl⟩:=mL hx
  conv=>whnf
  refine bN (fun c=>⟨?_,rfl⟩) (fun c=>⟨?_,rfl⟩)
  ·have c1:(0:Int)<=ns[i]:=dec_true c
   rw[Yh hi,Yn,Yn]
   show _++[V.bl (decide (ns[i]<=255))]=_++[V.bl (byt ns[i])]
   unfold byt
   rw[Yl c1,Bool.true_and]
  ·have c1:¬ (0:Int)<=ns[i]:=dec_false c
   rw[Yh hi,Yn,Yn]
   show _++[V.bl false]=_++[V.bl (byt ns[i])]
   unfold byt
   rw[Yu c1,Bool.false_and]
 rintro ys rfl p hp
 rw[Ya,Ym (Yd _)]
 refine⟨ns.map byt,SqL.of aB,?_⟩
 have e:(ns.map byt).all id=ns.all byt:=by rw[List.all_map];rfl
 rw[e]
 exact q _ (aJ hp _)
variable (ZcD:FB P w K mg base (CXR P w) 1 "divided" Zii ZkF ["number","key"] (a0Y))
include ZI Zdx in
theorem ZlZ (F0:GFm K mg "divided" ZkK Zii ZkF):type_of% ZcD:=by
 refine fbM ["number","key","whole","rest","power"] F0 fun Sc0=>F0.F.okR Sc0 (fun vs H Q E h=>?_) fun cdv A outer s H vs Q E hr h=>?_
 ·obtain⟨a,rfl,_⟩:=h
  rfl
 obtain⟨a,rfl,ha,q⟩:=h
 have nd:=Sc0.nd
 refine⟨_,(aF (bH (aY dW (dv 1) aH (aV _)) (aG (dN YR ZI Zdx (aA bA aD))) aW) (aF (bB (i:=2) nd rfl (Or.inl rfl) aH) (aF (bB (i:=3) nd rfl (Or.inl rfl) (dv 0)) (aF (a4M PassesOwn.leaving (aY a2Q (zL (dv 3)) (zL (dv 1)) (aV _)) (aF (bB (i:=4) nd rfl (Or.inl rfl) (aR gW (zL (dv 3)) (zL (dv 1)))) (aF (bB (i:=2) nd rfl (Or.inl rfl) (aR zA (dv 2) (aR zF aH (dv 4)))) (aG (bB (i:=3) nd rfl (Or.inl rfl) (aR zA (dv 3) (aR zF (dv 1) (dv 4)))))))) (aG (aM (cF (aA (dv 2) (aA (dv 3) aD))))))))),?_⟩
 refine⟨fun mm σ H'=>∃(w r:Nat)(p:Option V),mm=bl r/\σ= [some (.int a),some (.int 64647),some (.int w),some (.int r),p]/\H'=H/\r<2 ^ 450/\R r=R a,⟨_,0,a,_,rfl,rfl,rfl,ha,rfl⟩,?_⟩
 rintro mm σ H' ⟨w,r,p,rfl,rfl,rfl,hr,e⟩
 conv=>whnf
 refine bN (fun c=>?_) (fun c=>?_)
 ·have c1:16<=bl r:=by
   have:((Builtin.Int.intBits (64647:Int):Nat):Int)<=((Builtin.Int.intBits (r:Int):Nat):Int):=dec_true c
   have k:=yD
   show 16<=Builtin.Int.intBits (r:Int)
   have k':Builtin.Int.intBits (64647:Int)=16:=k
   omega
  obtain⟨t1,t2,t3⟩:=a5V hr c1
  have r3:=a6U hr
  refine⟨fun σ' H2=>∃(w:Nat)(p:Option V),σ'= [some (.int a),some (.int 64647),some (.int w),some (.int ((r ^^^ 64647 <<< (bl r-16):Nat):Int)),p]/\H2=H',?_,?_⟩
  ·rintro σ' H2 ⟨w',p',rfl,rfl⟩
   exact⟨bl (r ^^^ 64647 <<< (bl r-16)),t3,w',_,p',rfl,rfl,rfl,t1,t2.trans e⟩
  have ep:((Builtin.Int.intBits (r:Int):Nat):Int)-((Builtin.Int.intBits (64647:Int):Nat):Int)=((bl r-16:Nat):Int):=by
   have k':Builtin.Int.intBits (64647:Int)=16:=yD
   rw[k']
   show ((bl r:Nat):Int)-_=_
   omega
  refine⟨1,(bl r-16),rfl,YT V.int ep,⟨a5N (n:=1) (by decide),by omega⟩,w,_,rfl,rfl,trivial,?_⟩
  refine⟨64647,(bl r-16),rfl,YT V.int ep,⟨a5N (n:=16) (by decide),by omega⟩,r,_,rfl,rfl,trivial,?_⟩
  exact⟨_,_,rfl,rfl⟩
 ·have c1:bl r<16:=by
   have:¬ ((Builtin.Int.intBits (64647:Int):Nat):Int)<=((Builtin.Int.intBits (r:Int):Nat):Int):=dec_false c
   have k':Builtin.Int.intBits (64647:Int)=16:=yD
   show Builtin.Int.intBits (r:Int)<16
   omega
  have hs:r<32768:=Yf (b0Q r) (Yw (n:=2) (j:=15) (by decide) (by omega))
  rw[pJ hs]at e
  rw[e]
  exact⟨aL rfl,fun p hp=>q w p hp⟩
variable (Zac:FB P w K mg base (CX0) 2 "rest_of" Zik ZkH ["bits"] (b1P K))
include ZI Zk7 Zw ZcD in
theorem Zl1 (F0:GFm K mg "rest_of" ZkM Zik ZkH):type_of% Zac:=by
 refine fbM ["bits"] F0 fun Sc0=>F0.F.ok Sc0 (fun vs H Q E h=>?_) fun cdv A outer s H vs Q E hr h=>?_
 ·obtain⟨a,bs,rfl,_⟩:=h
  rfl
 obtain⟨a,bs,rfl,hS,hb,hl,q⟩:=h
 have nd:=Sc0.nd
 refine⟨_,(aG (aM (bI fH (aU ZcD.1 (hr.mono (by decide)) rfl ZcD.2.2.2 ZcD.2.2.1 ZcD.2.1 .nil gU (aA (aU Zw.1 (hr.mono (by decide)) rfl Zw.2.2.2 Zw.2.2.1 Zw.2.1 .nil aN (aA (dv 0) aD)) (aA (bD (v:= .int 64647) rfl Zk7 ⟨_,rfl⟩) aD))) aH (fun _ _=>rfl)))),?_⟩
 refine⟨a,bs,rfl,hS,hb,hl,?_⟩
 refine⟨nm bs,rfl,Yf (jU hb) (Yw (by decide) hl),fun w p hp=>?_⟩
 exact⟨_,_,SqT.of aB,rfl,q _ (aJ hp _)⟩
variable (Zco:FB P w K mg base (CX0) 3 "check_of" Zhu ZjY ["bits"] (a7Q K))
include ZaB ZI Zby Z3 Z1 Zac in
theorem ZlO (F0:GFm K mg "check_of" Zkh Zhu ZjY):type_of% Zco:=by
 refine fbM ["bits"] F0 fun Sc0=>F0.F.ok Sc0 (fun vs H Q E h=>?_) fun cdv A outer s H vs Q E hr h=>?_
 ·obtain⟨a,bs,rfl,_⟩:=h
  rfl
 obtain⟨a,bs,rfl,hS,hb,hl,q⟩:=h
 have nd:=Sc0.nd
 refine⟨_,(aG (aM (aU Z1.1 (hr.mono (by decide)) rfl Z1.2.2.2 Z1.2.2.1 Z1.2.1 .nil gU (aA (aU Zac.1 (hr.mono (by decide)) rfl Zac.2.2.2 Zac.2.2.1 Zac.2.1 .nil aN (aA (aR yL (cU dU rfl Z3 fQ (aA (dv 0) aD)) (aR a2M (eE (aA aH aD)) (bD (v:= .int 15) rfl Zby ⟨_,rfl⟩))) aD)) (aA (bD (v:= .int 15) rfl Zby ⟨_,rfl⟩) aD))))),?_⟩
 refine⟨_,.inl hS,fun l hl1=>?_⟩
 have g1:=aJ hl1 (.lst (bs.map V.int))
 have e1:=aB (H:=H) (a:=l) (o:= .lst (bs.map V.int))
 generalize upd H l (.lst (bs.map V.int))=H1 at g1 e1
 refine⟨aL rfl,fun o ho=>?_⟩
 have g2:=aJ ho (.lst [.int 0])
 have e2:=aB (H:=H1) (a:=o) (o:= .lst [.int 0])
 generalize upd H1 o (.lst [.int 0])=H2 at g2 e2
 refine⟨_,e2,⟨by decide,by decide⟩,(by show 1*15<=sizeLine;exact small (by decide)),fun z hz=>?_⟩
 have g3:=aJ hz (.lst (List.replicate (15:Int).toNat [V.int 0]).flatten)
 have e3:upd H2 z (.lst (List.replicate (15:Int).toNat [V.int 0]).flatten) z=some (.lst ((zs 15).map V.int)):=by rw[aB];rfl
 generalize upd H2 z (.lst (List.replicate (15:Int).toNat [V.int 0]).flatten)=H3 at g3 e3
 refine⟨_,_,g3 _ _ (g2 _ _ e1),e3,(by rw[Ya];exact small (by show bs.length+15<=1000;omega)),fun c hc=>?_⟩
 have g4:=aJ hc (.lst (bs.map V.int++(zs 15).map V.int))
 have e4:upd H3 c (.lst (bs.map V.int++(zs 15).map V.int)) c=some (.lst ((bs++zs 15).map V.int)):=by rw[aB,Yn]
 generalize upd H3 c (.lst (bs.map V.int++(zs 15).map V.int))=H4 at g4 e4
 refine⟨c,bs++zs 15,rfl,SqL.of e4,fY hb (sZ 15),(by rw[Yc];show bs.length+15<=450;omega),fun H5 g5=>?_⟩
 refine⟨ckn bs,15,rfl,a6P bs,by decide,fun p hp=>?_⟩
 have gs:=g1.trans (g2.trans (g3.trans (g4.trans g5)))
 exact q p _ (gs.none hp) (gs.trans (aJ hp _)) aB
variable (ZcE:FB P w K mg base (CX0) 1 "is_name" Zij ZkG ["number"] (b5G))
include ZdB in
theorem Zl0 (F0:GFm K mg "is_name" ZkL Zij ZkG):type_of% ZcE:=by
 refine fbM ["number"] F0 fun Sc0=>F0.F.ok Sc0 (fun vs H Q E h=>?_) fun cdv A outer s H vs Q E hr h=>?_
 ·obtain⟨n,rfl,_⟩:=h
  rfl
 obtain⟨n,rfl,q⟩:=h
 have nd:=Sc0.nd
 refine⟨_,(aG (aM (vM qY qY aH (dv 0) (bD (v:= .int 255) rfl ZdB ⟨_,rfl⟩)))),?_⟩
 conv=>whnf
 refine bN (fun c=>?_) (fun c=>?_)
 ·have c1:(0:Int)<=n:=dec_true c
  show Q (.bl (decide (n<=255))) H
  have e:decide (n<=255)=byt n:=by unfold byt;rw[Yl c1,Bool.true_and]
  rw[e];exact q
 ·have c1:¬ (0:Int)<=n:=dec_false c
  show Q (.bl false) H
  have e:false=byt n:=by unfold byt;rw[Yu c1,Bool.false_and]
  rw[e];exact q
variable (Zdi:FB P w K mg base (CX0) 3 "put_in" ZjK Zle ["bits"] (a7L K))
include Zd4 Zh Zbm ZT ZC ZaJ ZV ZK in
theorem Zl6 (F0:GFm K mg "put_in" ZlC ZjK Zle):type_of% Zdi:=by
 refine fbM ["bits","wire","streak","bit"] F0 fun Sc0=>F0.F.ok Sc0 (fun vs H Q E h=>?_) fun cdv A outer s H vs Q E hr h=>?_
 ·obtain⟨a,bs,rfl,_⟩:=h
  rfl
 obtain⟨a,bs,rfl,hS,hl,q⟩:=h
 have nd:=Sc0.nd
 refine⟨_,(aF (bB (i:=1) nd rfl (Or.inl rfl) (eE aD)) (aF (bB (i:=2) nd rfl (Or.inl rfl) (lR Zbm ZaJ.1 (hr.mono (by decide)) rfl Zd4 ZaJ.2 .nil aN)) (aF (dZ YW rfl (dC (dv 0)) (cQ (i:=3) nd rfl (Or.inl rfl)) (aF (bC (cO (dv 1) (aA (dv 3) aD))) (aF (bC (bQ Zh ZT ZV.1 (hr.mono (by decide)) ZV.2 .nil aN (dv 2) (aA (dv 3) aD))) (aG (bH (cN (bR Zh ZC ZK.1 (hr.mono (by decide)) ZK.2 .nil aN (dv 2))) (aF (bC (cO (dv 1) (aA (aR gW aH (dv 3)) aD))) (aG (bC (bQ Zh ZT ZV.1 (hr.mono (by decide)) ZV.2 .nil aN (dv 2) (aA (aR gW aH (dv 3)) aD))))) aW))))) (aG (aM (dv 1)))))),?_⟩
 refine⟨aL rfl,fun p hp=>?_⟩
 have g0:=aJ hp (.lst [])
 have e0:=aB (H:=H) (a:=p) (o:= .lst [])
 generalize upd H p (.lst [])=H1 at g0 e0
 refine fun st dx hst hdx hne=>⟨st,dx,rfl,aB,fun H2 eH=>⟨rfl,?_⟩⟩
 have g1:Same H1 H2:=by rw[eH];exact bK hst hdx
 have s2:jA CA.streak H2 st (sk []):=⟨dx,by rw[eH];exact aB⟩
 clear eH
 have nst:=g0.none hst
 refine⟨⟨_,(g0.trans g1).seq hS⟩,gP (xs:=bs.map V.int) (fun i σ H'=>(∃x,σ= [some (.ref a),some (.ref p),some (.ref st),x])/\H' p=some (.lst ((put (bs.take i)).map V.int))/\jA CA.streak H' st (sk (put (bs.take i)))/\Same H H')
  ⟨⟨_,rfl⟩,g1 _ _ e0,s2,g0.trans g1⟩ (fun i σ H' _ z=>z.2.2.2.seq hS) ?_ ?_⟩
 ·rintro i x σ H' hx ⟨⟨y,rfl⟩,h1,h2,h3⟩
  obtain⟨hi,rfl⟩:=mL hx
  have pl:=oY (bs.take i)
  rw[Yo]at pl
  have h4:=oX (bs.take i)
  generalize uX hi=ept
  generalize bs[i]=b at ept
  generalize put (bs.take i)=w at h1 h2 pl h4 ept
  refine⟨⟨_,SqL.of h1⟩,_,h1,bW (by rw[Ya];omega),?_⟩
  have h1':upd H' p (.lst (w.map V.int++[.int b])) p=some (.lst ((w++[b]).map V.int)):=by rw[aB,Yn];rfl
  have h2':jA CA.streak (upd H' p (.lst (w.map V.int++[.int b]))) st (sk w):=h2.set h1
  have h3':Same H (upd H' p (.lst (w.map V.int++[.int b]))):=h3.put hp
  generalize upd H' p (.lst (w.map V.int++[.int b]))=H3 at h1' h2' h3'
  obtain⟨d3,k3⟩:=id h2'
  refine⟨⟨d3,_,k3,rfl⟩,st,sk w,b,rfl,h2',fun H4 s4 k4=>?_⟩
  rw[<-kZ]at s4
  have h1'':=(k4 p (h2'.ne h1')).trans h1'
  have h3'':Same H H4:=fun c o e=>(k4 c (aQ e nst)).trans (h3' c o e)
  obtain⟨d4,k5⟩:=id s4
  refine⟨⟨d4,_,k5,rfl⟩,st,sk (w++[b]),rfl,s4,?_⟩
  conv=>whnf
  refine bN (fun c=>?_) (fun c=>?_)
  ·have c1:run (w++[b])=5:=dec_true c
   have ep:put (bs.take (i+1))=w++[b]++[1-b]:=by rw[ept];unfold pst;rw[if_pos c1]
   refine⟨⟨_,SqL.of h1''⟩,_,h1'',bW (by rw[Ya,Yc,Yy];omega),?_⟩
   have q1:upd H4 p (.lst ((w++[b]).map V.int++[.int (1-b)])) p=some (.lst ((w++[b]++[1-b]).map V.int)):=by rw[aB,Yn (l₁:=w++[b])];rfl
   have q2:=s4.set (ys:=(w++[b]).map V.int++[.int (1-b)]) h1''
   have q3:Same H (upd H4 p (.lst ((w++[b]).map V.int++[.int (1-b)]))):=h3''.put hp
   generalize upd H4 p (.lst ((w++[b]).map V.int++[.int (1-b)]))=H5 at q1 q2 q3
   obtain⟨d6,k6⟩:=id q2
   refine⟨⟨d6,_,k6,rfl⟩,st,sk (w++[b]),1-b,rfl,q2,fun H6 s6 k7=>?_⟩
   rw[<-kZ]at s6
   refine⟨⟨_,rfl⟩,?_,?_,fun c o e=>(k7 c (aQ e nst)).trans (q3 c o e)⟩
   ·rw[ep];exact(k7 p (q2.ne q1)).trans q1
   ·rw[ep];exact s6
  ·have c1:¬ run (w++[b])=5:=dec_false c
   have ep:put (bs.take (i+1))=w++[b]:=by rw[ept];unfold pst;rw[if_neg c1]
   exact⟨⟨_,rfl⟩,by rw[ep];exact h1'',by rw[ep];exact s4,h3''⟩
 rintro σ H' ⟨⟨y,rfl⟩,h1,h2,h3⟩
 rw[Ya,Ym (Yd _)]at h1
 exact q p H' hp h3 h1
variable (Zx:FB P w K mg base (CXR P w) 2 "check_frame" Zfv ZhO ["name","data"] (b1W K ZcG))
include Zq Zes Zu Zaa Zaq ZcE in
theorem Zkz (F0:GFm K mg "check_frame" Zh6 Zfv ZhO):type_of% Zx:=by
 refine fbM ["name","data"] F0 fun Sc0=>F0.F.okR Sc0 (fun vs H Q E h=>?_) fun cdv A outer s H vs Q E hr h=>?_
 ·obtain⟨n,a,ds,rfl,_⟩:=h
  rfl
 obtain⟨n,a,ds,rfl,hS,hl,q1,q2⟩:=h
 have nd:=Sc0.nd
 refine⟨_,(aF (bH (fK (cN (aU ZcE.1 (hr.mono (by decide)) rfl ZcE.2.2.2 ZcE.2.2.1 ZcE.2.1 .nil aN (aA (dv 0) aD)))) (aG (dN YR Zq Zaa (aA bA aD))) aW) (aF (bH (aY uK (aZ cP rfl Zu bT (aA (dv 1) aD)) (bD (v:= .int 7) rfl Zes ⟨_,rfl⟩) (aV _)) (aG (dN YR Zq Zaa (aA bA aD))) aW) (aG (bH (fK (cN (aU Zaq.1 (hr.mono (by decide)) rfl Zaq.2.2.2 Zaq.2.2.1 Zaq.2.1 .nil aN (aA (dv 1) aD)))) (aG (dN YR Zq Zaa (aA bA aD))) aW)))),?_⟩
 refine⟨n,rfl,?_⟩
 conv=>whnf
 refine bN (fun c=>?_) (fun c=>?_)
 ·have c1:¬ byt n=true:=fun z=>by
   have:(!byt n)=true:=c
   rw[z]at this;cases this
  exact⟨aL rfl,q2 (a5F (.inl c1)) _ (Same.refl _)⟩
 have c1:byt n=true:=by
  cases e:byt n with
  |true=>rfl
  |false=>exact absurd (show (!byt n)=true by rw[e];rfl) c
 refine⟨_,.inl hS,?_⟩
 rw[Ya]
 conv=>whnf
 refine bN (fun z=>?_) (fun z=>?_)
 ·have z1:(7:Int)<((ds.length:Nat):Int):=dec_true z
  exact⟨aL rfl,q2 (a5F (.inr (.inl (by omega)))) _ (Same.refl _)⟩
 have z1:¬ (7:Int)<((ds.length:Nat):Int):=dec_false z
 refine⟨a,ds,rfl,.inl hS,hl,fun H1 g1=>?_⟩
 conv=>whnf
 refine bN (fun y=>?_) (fun y=>?_)
 ·have y1:¬ ds.all byt=true:=fun z=>by
   have:(!ds.all byt)=true:=y
   rw[z]at this;cases this
  exact⟨aL rfl,q2 (fun h=>y1 h.2.2) _ g1⟩
 ·have y1:ds.all byt=true:=by
   cases e:ds.all byt with
   |true=>rfl
   |false=>exact absurd (show (!ds.all byt)=true by rw[e];rfl) y
  exact q1 ⟨c1,by omega,y1⟩ _ g1
variable (Zbu:FB P w K mg base (CXR P w) 5 "frame_bits" Zf0 Ziy ["name","data"] (a7N K ZcG))
include ZaB ZI Zq Ze3 Ze4 ZaW Zu Z1 Zco Zx in
theorem Zk0 (F0:GFm K mg "frame_bits" ZiP Zf0 Ziy):type_of% Zbu:=by
 refine fbM ["name","data","bits","byte"] F0 fun Sc0=>F0.F.okR Sc0 (fun vs H Q E h=>?_) fun cdv A outer s H vs Q E hr h=>?_
 ·obtain⟨n,a,ds,rfl,_⟩:=h
  rfl
 obtain⟨n,a,ds,rfl,hS,hl,q1,q2⟩:=h
 have nd:=Sc0.nd
 refine⟨_,(aF (bC (aU Zx.1 (hr.mono (by decide)) rfl Zx.2.2.2 Zx.2.2.1 Zx.2.1 .nil (iJ fun _ _ _ z=>z) (aA (dv 0) (aA (dv 1) aD)))) (aF (bB (i:=2) nd rfl (Or.inl rfl) (aR yL (aR yL (eE (aA aH aD)) (aU Z1.1 (hr.mono (by decide)) rfl Z1.2.2.2 Z1.2.2.1 Z1.2.1 .nil (iJ fun _ _ _ z=>z) (aA (dv 0) (aA (bD (v:= .int 8) rfl Ze3 ⟨_,rfl⟩) aD)))) (aU Z1.1 (hr.mono (by decide)) rfl Z1.2.2.2 Z1.2.2.1 Z1.2.1 .nil (iJ fun _ _ _ z=>z) (aA (aZ cP rfl Zu bT (aA (dv 1) aD)) (aA (bD (v:= .int 3) rfl Ze4 ⟨_,rfl⟩) aD))))) (aF (dZ PassesOwn.leaving rfl (dC (dv 1)) (cQ (i:=3) nd rfl (Or.inl rfl)) (aG (bC (a1O (dv 2) (aA (aU Z1.1 (hr.mono (by decide)) rfl Z1.2.2.2 Z1.2.2.1 Z1.2.1 .nil (iJ fun _ _ _ z=>z) (aA (dv 3) (aA (bD (v:= .int 8) rfl ZaW ⟨_,rfl⟩) aD))) aD))))) (aG (aM (aR yL (dv 2) (aU Zco.1 (hr.mono (by decide)) rfl Zco.2.2.2 Zco.2.2.1 Zco.2.1 .nil aN (aA (dv 2) aD)))))))),?_⟩
 refine⟨n,a,ds,rfl,hS,hl,fun hf H1 g1=>?_,q2⟩
 obtain⟨m,rfl,hm⟩:=a0H hf.1
 refine⟨aL rfl,fun p2 hp2=>?_⟩
 have g2:=aJ hp2 (.lst [.int 0])
 have e2:=aB (H:=H1) (a:=p2) (o:= .lst [.int 0])
 generalize upd H1 p2 (.lst [.int 0])=H2 at g2 e2
 refine⟨m,8,rfl,by show m<2 ^ 8;omega,by decide,fun p3 hp3=>?_⟩
 have g3:=aJ hp3 (.lst ((bY m 8).map V.int))
 have e3:=aB (H:=H2) (a:=p3) (o:= .lst ((bY m 8).map V.int))
 generalize upd H2 p3 (.lst ((bY m 8).map V.int))=H3 at g3 e3
 refine⟨_,_,g3 _ _ e2,e3,(by rw[Ya,cC];exact aL rfl),fun p4 hp4=>?_⟩
 have g4:=aJ hp4 (.lst ([.int 0]++(bY m 8).map V.int))
 have e4:=aB (H:=H3) (a:=p4) (o:= .lst ([.int 0]++(bY m 8).map V.int))
 generalize upd H3 p4 (.lst ([.int 0]++(bY m 8).map V.int))=H4 at g4 e4
 have gs4:=g1.trans (g2.trans (g3.trans g4))
 refine⟨_,.inl (gs4.seq hS),?_⟩
 rw[Ya]
 have h7:=hf.2.1
 refine⟨ds.length,3,rfl,by show ds.length<2 ^ 3;omega,by decide,fun p5 hp5=>?_⟩
 have g5:=aJ hp5 (.lst ((bY ds.length 3).map V.int))
 have e5:=aB (H:=H4) (a:=p5) (o:= .lst ((bY ds.length 3).map V.int))
 generalize upd H4 p5 (.lst ((bY ds.length 3).map V.int))=H5 at g5 e5
 refine⟨_,_,g5 _ _ e4,e5,(by rw[Yc,Ya,Ya,cC,cC];exact aL rfl),fun p6 hp6=>?_⟩
 have g6:=aJ hp6 (.lst ([.int 0]++(bY m 8).map V.int++(bY ds.length 3).map V.int))
 have e6:upd H5 p6 (.lst ([.int 0]++(bY m 8).map V.int++(bY ds.length 3).map V.int)) p6=some (.lst ((hdD (m:Int) ds.length []).map V.int)):=by
  rw[aB];unfold hdD b8;simp
 generalize upd H5 p6 (.lst ([.int 0]++(bY m 8).map V.int++(bY ds.length 3).map V.int))=H6 at g6 e6
 have gs6:=gs4.trans (g5.trans g6)
 have np6:H p6=none:=(gs4.trans g5).none hp6
 refine⟨⟨_,gs6.seq hS⟩,gP (xs:=ds.map V.int) (fun i σ H'=>(∃x,σ= [some (.int m),some (.ref a),some (.ref p6),x])/\Same H H'/\H' p6=some (.lst ((hdD (m:Int) ds.length (ds.take i)).map V.int))) ⟨⟨_,rfl⟩,gs6,e6⟩ (fun i σ H' _ z=>z.2.1.seq hS) ?_ ?_⟩
 ·rintro i x σ H' hx ⟨⟨y,rfl⟩,g,e⟩
  obtain⟨hi,rfl⟩:=mL hx
  obtain⟨d,ed,hd256⟩:=a0H (a6V hf.2.2 hi)
  have hlen:=pG (m:Int) ds.length (ds.take i)
  rw[Yo]at hlen
  refine⟨⟨_,e⟩,d,8,by rw[ed];rfl,by show d<2 ^ 8;omega,by decide,fun p7 hp7=>?_⟩
  have g7:=aJ hp7 (.lst ((bY d 8).map V.int))
  refine⟨_,_,g7 _ _ e,aB,(by rw[Ya,Ya,cC,hlen];exact small (by omega)),⟨_,rfl⟩,(g.trans g7).put np6,?_⟩
  have eb:b8 ds[i]=bY d 8:=by rw[ed];rfl
  rw[aB,Yh hi,vV,eb,Yn]
 rintro σ H7 ⟨⟨y,rfl⟩,g7,e7⟩
 rw[Ya,Ym (Yd _)]at e7
 have hlen:=xT (m:Int) ds
 refine⟨p6,hd (m:Int) ds,rfl,SqL.of e7,mJ _ _,by omega,fun p8 H8 hp8 g8 e8=>?_⟩
 refine⟨_,_,g8 _ _ e7,e8,(by rw[Ya,Ya,yC];show (hd (m:Int) ds).length+15<=sizeLine;exact small (by omega)),fun p9 hp9=>?_⟩
 have g9:=aJ hp9 (.lst ((hd (m:Int) ds).map V.int++(ck (hd (m:Int) ds)).map V.int))
 refine q1 hf p9 _ ((g7.trans g8).none hp9) (g7.trans (g8.trans g9)) ?_
 rw[aB]
 unfold fb
 rw[Yn]
 rfl
variable (ZcF:FB P w K mg base (CXR P w) 6 "wire_of" Zil ZkI ["name","data"] (a3C K ZcG))
include ZaB ZI Zq Zdi Zbu in
theorem Zl2 (F0:GFm K mg "wire_of" ZkN Zil ZkI):type_of% ZcF:=by
 refine fbM ["name","data"] F0 fun Sc0=>F0.F.okR Sc0 (fun vs H Q E h=>?_) fun cdv A outer s H vs Q E hr h=>?_
 ·obtain⟨n,a,ds,rfl,_⟩:=h
  rfl
 obtain⟨n,a,ds,rfl,hS,hl,q1,q2⟩:=h
 have nd:=Sc0.nd
 refine⟨_,(aG (aM (aU Zdi.1 (hr.mono (by decide)) rfl Zdi.2.2.2 Zdi.2.2.1 Zdi.2.1 .nil aN (aA (aU Zbu.1 (hr.mono (by decide)) rfl Zbu.2.2.2 Zbu.2.2.1 Zbu.2.1 .nil (iJ fun _ _ _ z=>z) (aA (dv 0) (aA (dv 1) aD))) aD)))),?_⟩
 refine⟨n,a,ds,rfl,hS,hl,fun hf p H1 hp g1 e1=>?_,q2⟩
 have:=nR n ds
 have:=hf.2.1
 exact⟨p,fb n ds,rfl,SqL.of e1,by omega,fun p2 H2 hp2 g2 e2=>q1 hf p2 H2 (g1.none hp2) (g1.trans g2) e2⟩
variable (Zar:FB P w K mg base (CX0) 2 "told_size" ZgU Zjk ["bits"] (b1O K))
include Zdk Zbz Zw in
theorem ZlA (F0:GFm K mg "told_size" ZjF ZgU Zjk):type_of% Zar:=by
 refine fbM ["bits"] F0 fun Sc0=>F0.F.ok Sc0 (fun vs H Q E h=>?_) fun cdv A outer s H vs Q E hr h=>?_
 ·obtain⟨a,bs,rfl,_⟩:=h
  rfl
 obtain⟨a,bs,rfl,hS,hb,h12,hl,q⟩:=h
 have nd:=Sc0.nd
 refine⟨_,(aG (aM (aU Zw.1 (hr.mono (by decide)) rfl Zw.2.2.2 Zw.2.2.1 Zw.2.1 .nil aN (aA (iI pK (dv 0) (fC (bD (v:= .int 9) rfl Zdk ⟨_,rfl⟩)) (fC (bD (v:= .int 12) rfl Zbz ⟨_,rfl⟩))) aD)))),?_⟩
 refine⟨_,hS,fun p hp=>?_⟩
 have ec:lG (bs.map V.int) (some (9:Int)) (some (12:Int))=((bs.drop 9).take 3).map V.int:=nU rfl rfl (by omega)
 rw[ec]
 refine⟨p,_,rfl,SqL.of aB,fX hb 9 3,?_,q _ (aJ hp _)⟩
 rw[Yo];omega
variable (Z9:FB P w K mg base (CX0) 3 "is_complete" Zfx ZhQ ["bits"] (b5F K))
include Zby ZaW Zbz Zu Zar in
theorem ZkB (F0:GFm K mg "is_complete" Zh8 Zfx ZhQ):type_of% Z9:=by
 refine fbM ["bits"] F0 fun Sc0=>F0.F.ok Sc0 (fun vs H Q E h=>?_) fun cdv A outer s H vs Q E hr h=>?_
 ·obtain⟨a,bs,rfl,_⟩:=h
  rfl
 obtain⟨a,bs,rfl,hS,hb,hl,q1,q2⟩:=h
 have nd:=Sc0.nd
 refine⟨_,(aG (aM (a5J (eO a2Q (aZ cP rfl Zu bT (aA (dv 0) aD)) (bD (v:= .int 12) rfl Zbz ⟨_,rfl⟩) (aV _)) (a4Q (eO dW (aZ cP rfl Zu bT (aA (dv 0) aD)) (aR bV (aR bV (bD (v:= .int 12) rfl Zbz ⟨_,rfl⟩) (aR iD (bD (v:= .int 8) rfl ZaW ⟨_,rfl⟩) (aU Zar.1 (hr.mono (by decide)) rfl Zar.2.2.2 Zar.2.2.1 Zar.2.1 .nil aN (aA (dv 0) aD)))) (bD (v:= .int 15) rfl Zby ⟨_,rfl⟩)) (aV _)))))),?_⟩
 refine⟨_,.inl hS,?_⟩
 rw[Ya]
 conv=>whnf
 refine bN (fun c=>?_) (fun c=>?_)
 ·have c1:(12:Int)<=((bs.length:Nat):Int):=dec_true c
  refine⟨_,.inl hS,?_⟩
  rw[Ya]
  refine⟨a,bs,rfl,hS,hb,by omega,hl,fun H1 g1=>?_⟩
  have:=wO hb
  refine⟨⟨by decide,gQ (by omega) (by omega)⟩,?_⟩
  by_cases z:jC bs
  ·have e:decide (((bs.length:Nat):Int)=12+8*((szB bs:Nat):Int)+15)=true:=Yl (by have:=z.2;omega)
   show Q (.bl (decide (((bs.length:Nat):Int)=12+8*((szB bs:Nat):Int)+15))) H1
   rw[e];exact q1 z _ g1
  ·have e:decide (((bs.length:Nat):Int)=12+8*((szB bs:Nat):Int)+15)=false:=Yu (fun y=>z ⟨by omega,by omega⟩)
   show Q (.bl (decide (((bs.length:Nat):Int)=12+8*((szB bs:Nat):Int)+15))) H1
   rw[e];exact q2 z _ g1
 ·have c1:¬ (12:Int)<=((bs.length:Nat):Int):=dec_false c
  exact q2 (fun z=>by have:=z.1;omega) _ (Same.refl _)
variable (Zbv:FB P w K mg base (CXR P w) 4 "read_frame" Zf1 Ziz ["bits"] (b1Q K ZcG))
include ZI Zq ZaW Zdk Zbz ZS Zaa Zw Zac Zar Z9 in
theorem Zk1 (F0:GFm K mg "read_frame" ZiQ Zf1 Ziz):type_of% Zbv:=by
 refine fbM ["bits","starts"] F0 fun Sc0=>F0.F.okR Sc0 (fun vs H Q E h=>?_) fun cdv A outer s H vs Q E hr h=>?_
 ·obtain⟨a,bs,rfl,_⟩:=h
  rfl
 obtain⟨a,bs,rfl,hS,hb,hl,q1,q2⟩:=h
 have nd:=Sc0.nd
 refine⟨_,(aF (bH (fK (cN (aU Z9.1 (hr.mono (by decide)) rfl Z9.2.2.2 Z9.2.2.1 Z9.2.1 .nil aN (aA (dv 0) aD)))) (aG (dN YR Zq Zaa (aA bA aD))) aW) (aF (bH (aY nD (bI cR (dv 0) aH (fun _ _=>rfl)) aH (aV _)) (aG (dN YR Zq Zaa (aA bA aD))) aW) (aF (bH (aY nD (aU Zac.1 (hr.mono (by decide)) rfl Zac.2.2.2 Zac.2.2.1 Zac.2.1 .nil aN (aA (dv 0) aD)) aH (aV _)) (aG (dN YR Zq Zaa (aA bA aD))) aW) (aF (fZ (j:=1) nd rfl rfl rfl (ix:=[]) (cV rfl ZS (aA (aU Zar.1 (hr.mono (by decide)) rfl Zar.2.2.2 Zar.2.2.1 Zar.2.1 .nil aN (aA (dv 0) aD)) aD)) (fun C fp s0 H0 at0=>fB) (fun C fp s0 H0 at0=>(aR bV (bD (v:= .int 12) rfl Zbz ⟨_,rfl⟩) (aR iD (bD (v:= .int 8) rfl ZaW ⟨_,rfl⟩) (dv 0)))) rfl rfl (by rfl) (show ([".0","number"]:List Str).Nodup by decide +kernel)) (aG (aM (cF (aA (aU Zw.1 (hr.mono (by decide)) rfl Zw.2.2.2 Zw.2.2.1 Zw.2.1 .nil aN (aA (iI pK (dv 0) (fC aH) (fC (bD (v:= .int 9) rfl Zdk ⟨_,rfl⟩))) aD)) (aA (gH rfl (ix:=[0]) (dC (dv 1)) (fun C fp s0 H0 at0=>fB) (fun C fp s0 H0 at0=>(aU Zw.1 (hr.mono (by decide)) rfl Zw.2.2.2 Zw.2.2.1 Zw.2.1 .nil aN (aA (iI (b0Y (K:=K)) (dv 1) (fC (dv 0)) (fC (aR bV (dv 0) (bD (v:= .int 8) rfl ZaW ⟨_,rfl⟩)))) aD))) rfl rfl (by rfl) (show ([".0","start","bits"]:List Str).Nodup by decide +kernel)) aD))))))))),?_⟩
 refine⟨a,bs,rfl,hS,hb,hl,fun hc H1 g1=>?_,fun hc H1 g1=>⟨aL rfl,q2 (fun z=>hc z.1) _ g1⟩⟩
 have h12:=hc.1
 have e0:atI (bs.map V.int) (0:Int)=some (.int (bs.getD 0 0)):=by rw[<-b8O (by omega)];exact uE (i:=0) (by omega)
 refine⟨_,_,g1.seq hS,e0,?_⟩
 conv=>whnf
 refine bN (fun c=>?_) (fun c=>?_)
 ·refine⟨aL rfl,q2 (fun z=>?_) _ g1⟩
  have:(!decide (bs.getD 0 0=0))=true:=c
  rw[Yl z.2.1]at this;cases this
 have c1:bs.getD 0 0=0:=YG fun y=>c (by
  show (!decide (bs.getD 0 0=0))=true
  rw[Yu y];rfl)
 refine⟨a,bs,rfl,g1.seq hS,hb,hl,fun H2 g2=>?_⟩
 conv=>whnf
 refine bN (fun z=>?_) (fun z=>?_)
 ·refine⟨aL rfl,q2 (fun y=>?_) _ (g1.trans g2)⟩
  have:(!decide (((rst bs:Nat):Int)=0))=true:=z
  rw[Yl (by have:=y.2.2;omega)]at this;cases this
 have z1:rst bs=0:=YG fun y=>z (by
  show (!decide (((rst bs:Nat):Int)=0))=true
  rw[Yu (by omega)];rfl)
 have ok:yG bs:=⟨hc,c1,z1⟩
 have gs2:=g1.trans g2
 have s8:=wO hb
 refine⟨a,bs,rfl,gs2.seq hS,hb,h12,hl,fun H3 g3=>?_⟩
 have gs3:=gs2.trans g3
 have em:((szB bs:Nat):Int).toNat=szB bs:=YI _
 refine⟨⟨by omega,by omega⟩,gC (fun i ys H'=>ys=((List.range i).map fun k=>V.int (12+8*((k:Nat):Int)))/\H'=H3) ?_ ⟨rfl,rfl⟩ ?_ ?_⟩
 ·rintro i ys H' hi ⟨rfl,_⟩
  refine bW ?_
  rw[Ya,Xk];omega
 ·rintro i ys H' hi ⟨rfl,rfl⟩
  rw[em]at hi
  refine⟨⟨by decide,gQ (by omega) (by omega)⟩,?_,rfl⟩
  rw[List.range_succ,Yn]
  show _++[V.int (12+8*(0+(i:Int)))]=_++[V.int (12+8*((i:Nat):Int))]
  rw[Xn]
 rintro ys H4 ⟨rfl,rfl⟩ ps hps
 rw[em]
 have g4:=aJ hps (.lst ((List.range (szB bs)).map fun k=>V.int (12+8*((k:Nat):Int))))
 have e4:=aB (H:=H4) (a:=ps) (o:= .lst ((List.range (szB bs)).map fun k=>V.int (12+8*((k:Nat):Int))))
 generalize upd H4 ps _=H5 at g4 e4
 have gs5:=gs3.trans g4
 refine⟨_,gs5.seq hS,fun p6 hp6=>?_⟩
 have ec:lG (bs.map V.int) (some (1:Int)) (some (9:Int))=((bs.drop 1).take 8).map V.int:=nU rfl rfl (by omega)
 rw[ec]
 have g6:=aJ hp6 (.lst (((bs.drop 1).take 8).map V.int))
 have e6:=aB (H:=H5) (a:=p6) (o:= .lst (((bs.drop 1).take 8).map V.int))
 generalize upd H5 p6 _=H6 at g6 e6
 refine⟨p6,_,rfl,SqL.of e6,fX hb 1 8,(by rw[Yo];omega),?_⟩
 have gs6:=gs5.trans g6
 have e46:=g6 _ _ e4
 refine⟨⟨_,SqL.of e46⟩,dX (xs:=(List.range (szB bs)).map fun k=>V.int (12+8*((k:Nat):Int))) (fun i ys H'=>ys=((daB bs).take i).map V.int/\Same H6 H') ?_ ⟨rfl,Same.refl _⟩ (fun i ys H' _ z=>SqL.of (z.2 _ _ e46)) ?_ ?_⟩
 ·rintro i ys H' hi ⟨rfl,_⟩
  refine bW ?_
  rw[Ya,Yo]
  rw[Ya,Xk]at hi
  omega
 ·rintro i x ys H' hx ⟨rfl,g⟩
  have hi:i<szB bs:=by
   have:=(Ye.mp hx).1
   rwa [Ya,Xk]at this
  have ex:x=V.int (12+8*((i:Nat):Int)):=by
   rw[Yi,Jd hi]at hx
   exact(Yq hx).symm
  subst ex
  have hc2:=hc.2
  refine⟨_,(gs6.trans g).seq hS,fun p7 hp7=>?_⟩
  have ec2:lG (bs.map V.int) (some ((12:Int)+8*((i:Nat):Int))) (some ((12:Int)+8*((i:Nat):Int)+8))=((bs.drop (12+8*i)).take 8).map V.int:=nU (by omega) (by omega) (by omega)
  rw[ec2]
  refine⟨p7,_,rfl,SqL.of aB,fX hb _ 8,(by rw[Yo];omega),?_,g.trans (aJ hp7 _)⟩
  rw[a6J hi,Yn]
  rfl
 rintro ys H7 ⟨rfl,g7⟩ p8 hp8
 have e8:upd H7 p8 (.lst (((daB bs).take ((List.range (szB bs)).map fun k=>V.int (12+8*((k:Nat):Int))).length).map V.int)) p8=some (.lst ((daB bs).map V.int)):=by
  rw[aB,Ya,Xk,Ym (by rw[a0D];exact Yd _)]
 have g8:=aJ hp8 (.lst (((daB bs).take ((List.range (szB bs)).map fun k=>V.int (12+8*((k:Nat):Int))).length).map V.int))
 generalize upd H7 p8 _=H8 at e8 g8
 refine⟨aL rfl,fun t ht=>?_⟩
 have g9:=aJ ht (.tup [.int ((nm ((bs.drop 1).take 8):Nat):Int),.ref p8])
 exact q1 ok t p8 _ ((gs6.trans g7).none hp8) (gs6.trans (g7.trans (g8.trans g9))) (g9 _ _ e8) aB
variable (Zck:MB P w K mg base (CX0) 3 ZdP ZhH ["self"] (a3S CA.reader CA.streak))
include Zd4 Zbm Ze Zy Zp ZG ZaJ in
theorem Zks (F0:Fun K "__init__" "Reader.__init__" ZhZ ZdP ZhH):type_of% Zck:=by
 refine mbM ["self"] F0 fun Sc0=>F0.ok Sc0 (fun vs H Q E h=>?_) fun cdv A outer s H vs Q E hr h=>?_
 ·obtain⟨a,dx,rfl,_⟩:=h
  rfl
 obtain⟨a,dx,rfl,ha,q⟩:=h
 have nd:=Sc0.nd
 refine⟨_,(aF (bO Ze Zy (dv 0) (lR Zbm ZaJ.1 (hr.mono (by decide)) rfl Zd4 ZaJ.2 .nil aN)) (aF (bO Ze Zp (dv 0) (eE aD)) (aG (bO Ze ZG (dv 0) bA)))),?_⟩
 refine fun st ds hst hds hne=>⟨st,ds,rfl,aB,fun H2 eH=>⟨rfl,?_⟩⟩
 have g1:Same H H2:=by rw[eH];exact bK hst hds
 have s2:jA CA.streak H2 st (sk []):=⟨ds,by rw[eH];exact aB⟩
 clear eH
 refine⟨dx, [],g1 _ _ ha,by decide,?_⟩
 have nas:a≠st:=fun z=>by rw[z,hst]at ha;cases ha
 refine⟨aL rfl,fun ks hks=>?_⟩
 have nak:a≠ks:=fun z=>by rw[z]at hks;rw[aB]at hks;cases hks
 have hks2:H2 ks=none:=by rw[aK (Ne.symm nak)]at hks;exact hks
 have nsk:st≠ks:=fun z=>by
  obtain⟨d,e⟩:=s2
  rw[z,hks2]at e;cases e
 refine⟨dx, [("streak",.ref st)],(by rw[aK nak,aB];rfl),(show 1<1000 by decide),?_⟩
 refine⟨dx,_,aB,(show 2<1000 by decide),?_⟩
 refine q _ st ks ⟨⟨dx,aB⟩,?_,?_⟩ hst (g1.none hks2) ?_
 ·refine s2.at_ ?_
  rw[aK (Ne.symm nas),aK (Ne.symm nas),aK nsk,aK (Ne.symm nas)]
 ·rw[aK (Ne.symm nak),aK (Ne.symm nak),aB]
  rfl
 ·intro x o hx e
  have hxk:x≠ks:=fun z=>by rw[z,g1.none hks2]at e;cases e
  rw[aK hx,aK hx,aK hxk,aK hx]
  exact g1 _ _ e
variable (ZbF:MB P w K mg base (CX0) 4 Zdc Zgj ["self"] (wR CA.reader CA.streak))
include ZI Zh Ze ZC ZaQ Zy Zp ZK ZaN Zac Z9 in
theorem ZjQ (F0:Fun K "judged" "Reader.judged" Zgq Zdc Zgj):type_of% ZbF:=by
 refine mbM ["self"] F0 fun Sc0=>F0.ok Sc0 (fun vs H Q E h=>?_) fun cdv A outer s H vs Q E hr h=>?_
 ·obtain⟨r,st,ks,w,t,rfl,_⟩:=h
  rfl
 obtain⟨r,st,ks,w,t,rfl,hR,hb,hl,q⟩:=h
 have nd:=Sc0.nd
 refine⟨_,(aF (bH (cN (bR Zh ZaQ ZaN.1 (hr.mono (by decide)) ZaN.2 .nil aN (aP Ze Zy (dv 0)))) (aG (aM bA)) aW) (aF (bH (PW.pt (oA (cN (bR Zh ZC ZK.1 (hr.mono (by decide)) ZK.2 .nil aN (aP Ze Zy (dv 0)))) (lM (fK (cN (aU Z9.1 (hr.mono (by decide)) rfl Z9.2.2.2 Z9.2.2.1 Z9.2.1 .nil aN (aA (aP Ze Zp (dv 0)) aD))))))) (aG (aM bA)) aW) (aG (aM (cG (dO (aY dW (aU Zac.1 (hr.mono (by decide)) rfl Zac.2.2.2 Zac.2.2.1 Zac.2.1 .nil aN (aA (aP Ze Zp (dv 0)) aD)) aH (aV _)) bA bA)))))),?_⟩
 obtain⟨dx,er⟩:=hR.rd
 have hs:=hR.sk
 obtain⟨ds,es⟩:=id hs
 refine⟨dx,_,.ref st,er,rfl,⟨ds,_,es,rfl⟩,st,sk w,rfl,hs,?_⟩
 conv=>whnf
 refine bN (fun c=>?_) (fun c=>?_)
 ·have c1:5<run w:=dec_true c
  have:=q H (Same.refl _)
  rw[pI c1]at this
  exact this
 have c1:¬ 5<run w:=dec_false c
 refine⟨dx,_,.ref st,er,rfl,⟨ds,_,es,rfl⟩,st,sk w,rfl,hs,?_⟩
 conv=>whnf
 refine bN (fun z=>?_) (fun z=>?_)
 ·have z1:run w=5:=dec_true z
  have:=q H (Same.refl _)
  rw[kI c1 (.inl z1)]at this
  exact this
 have z1:¬ run w=5:=dec_false z
 have kb:=pB hb
 have kl:=xO w
 refine⟨dx,_,.ref ks,er,rfl,ks,kp w,rfl,SqL.of hR.kp,kb,by omega,fun hc H1 g1=>?_,fun hc H1 g1=>?_⟩
 ·have hc2:¬ (run w=5\/¬ jC (kp w)):=fun y=>y.elim z1 fun x=>x hc
  refine⟨fun x H'=>x= .str (ans w)/\Same H H',?_,?_⟩
  ·refine⟨dx,_,.ref ks,g1 _ _ er,rfl,ks,kp w,rfl,SqL.of (g1 _ _ hR.kp),kb,by omega,fun H2 g2=>?_⟩
   conv=>whnf
   refine bN (fun y=>?_) (fun y=>?_)
   ·have y1:((rst (kp w):Nat):Int)=0:=dec_true y
    rw[sY c1 hc2 (by omega)]
    exact⟨rfl,g1.trans g2⟩
   ·have y1:¬ ((rst (kp w):Nat):Int)=0:=dec_false y
    rw[uG c1 hc2 (by omega)]
    exact⟨rfl,g1.trans g2⟩
  ·rintro x H2 ⟨rfl,g2⟩
   exact q _ g2
 ·have:=q H1 g1
  rw[kI c1 (.inr hc)]at this
  exact this
variable (Z8:MB P w K mg base (CX0) 5 ZdO ZhG ["self","bit"] (a3T CA.reader CA.streak))
include ZI Zh Ze ZT ZC Zbf Zy Zp ZG ZV ZK ZbF in
theorem Zkr (F0:Fun K "hear" "Reader.hear" ZhY ZdO ZhG):type_of% Z8:=by
 refine mbM ["self","bit","is_put_in"] F0 fun Sc0=>F0.ok Sc0 (fun vs H Q E h=>?_) fun cdv A outer s H vs Q E hr h=>?_
 ·obtain⟨r,st,ks,w,t,b,rfl,_⟩:=h
  rfl
 obtain⟨r,st,ks,w,t,b,rfl,hR,hb,hl,q⟩:=h
 have nd:=Sc0.nd
 refine⟨_,(aF (bB (i:=2) nd rfl (Or.inl rfl) (bR Zh ZC ZK.1 (hr.mono (by decide)) ZK.2 .nil aN (aP Ze Zy (dv 0)))) (aF (bC (bQ Zh ZT ZV.1 (hr.mono (by decide)) ZV.2 .nil aN (aP Ze Zy (dv 0)) (aA (dv 1) aD))) (aF (lN (bH (fK (cN (dv 2))) (aG (bC (cO (aP Ze Zp (dv 0)) (aA (dv 1) aD)))) aW)) (aF (bO Ze ZG (dv 0) (bR Ze Zbf ZbF.1 (hr.mono (by decide)) ZbF.2 .nil aN (dv 0))) (aG (aM (aP Ze ZG (dv 0)))))))),?_⟩
 obtain⟨dx,er⟩:=hR.rd
 have hs:=hR.sk
 obtain⟨ds,es⟩:=id hs
 refine⟨dx,_,.ref st,er,rfl,⟨ds,_,es,rfl⟩,st,sk w,rfl,hs,?_⟩
 refine⟨dx,_,.ref st,er,rfl,⟨ds,_,es,rfl⟩,st,sk w,b,rfl,hs,fun H2 s2 k2=>?_⟩
 rw[<-kZ]at s2
 have er2:=(k2 r hR.ne1).trans er
 have ek2:=(k2 ks hR.ne3).trans hR.kp
 have kl:=xO w
 refine⟨fun σ' H'=>σ'= [some (.ref r),some (.int b),some (.bl (decide (run w=5)))]/\iC CA.reader CA.streak H' r st ks (w++[b]) t/\a9X H H' r st ks,?_,?_⟩
 ·conv =>whnf
  refine bN (fun c=>?_) (fun c=>?_)
  ·have c1:¬ run w=5:=fun y=>by
    have:(!decide (run w=5))=true:=c
    rw[Yl y]at this;cases this
   refine⟨dx,_,.ref ks,er2,rfl,⟨_,SqL.of ek2⟩,_,ek2,bW (by rw[Ya];omega),rfl,⟨⟨dx,(by rw[aK hR.ne2];exact er2)⟩,s2.set ek2,?_⟩,?_⟩
   ·rw[aB,fV,if_neg c1,Yn];rfl
   ·intro x o h1 h2 h3 e
    rw[aK h3,k2 x h2]
    exact e
  ·have c1:run w=5:=YG fun y=>c (by
    show (!decide (run w=5))=true
    rw[Yu y];rfl)
   refine⟨rfl,⟨⟨dx,er2⟩,s2,?_⟩,?_⟩
   ·rw[fV,if_pos c1];exact ek2
   ·intro x o h1 h2 h3 e
    rw[k2 x h2]
    exact e
 rintro σ' H3 ⟨rfl,hR3,b3⟩
 have h450:(w++[b]).length<=450:=by rw[Yc,Yy];omega
 obtain⟨dy,er3⟩:=hR3.rd
 refine⟨⟨dy,_,er3,rfl⟩,r,st,ks,w++[b],t,rfl,hR3,hb,h450,fun H4 g4=>?_⟩
 have hR4:=hR3.same g4
 obtain⟨dz,er4⟩:=hR4.rd
 refine⟨dz,_,er4,(show 3<1000 by decide),?_⟩
 have hR5:iC CA.reader CA.streak (upd H4 r (.ins CA.reader dz (rdF st ks (ans (w++[b]))))) r st ks (w++[b]) (ans (w++[b])):=⟨⟨dz,aB⟩,hR4.sk.at_ (aK (Ne.symm hR4.ne1)),by rw[aK (Ne.symm hR4.ne2)];exact hR4.kp⟩
 have b5:a9X H (upd H4 r (.ins CA.reader dz (rdF st ks (ans (w++[b]))))) r st ks:=fun x o h1 h2 h3 e=>by
  rw[aK h1]
  exact g4 _ _ (b3 x o h1 h2 h3 e)
 exact⟨dz,_,.str (ans (w++[b])),aB,rfl,q _ hR5 b5⟩
variable (Zb3:MB P w K mg base (CX0) 1 Zdt Zg2 ["self"] (a0W CA.reader CA.streak))
include Z3 Ze Zp in
theorem Zj6 (F0:Fun K "plain" "Reader.plain" Zhg Zdt Zg2):type_of% Zb3:=by
 refine mbM ["self"] F0 fun Sc0=>F0.ok Sc0 (fun vs H Q E h=>?_) fun cdv A outer s H vs Q E hr h=>?_
 ·obtain⟨r,st,ks,w,t,rfl,_⟩:=h
  rfl
 obtain⟨r,st,ks,w,t,rfl,hR,q⟩:=h
 have nd:=Sc0.nd
 refine⟨_,(aG (aM (cU dU rfl Z3 fQ (aA (aP Ze Zp (dv 0)) aD)))),?_⟩
 obtain⟨dx,er⟩:=hR.rd
 exact⟨dx,_,.ref ks,er,rfl,_,.inl (SqL.of hR.kp),fun p hp=>q p _ hp (aJ hp _) aB⟩
variable (Zb2:MB P w K mg base (CX0) 5 Zds Zg1 ["self"] (a0X CA.reader CA.streak))
include ZI Zq Ze Zp ZG Zbv in
theorem Zj5 (F0:Fun K "frame" "Reader.frame" Zhf Zds Zg1):type_of% Zb2:=by
 refine mbM ["self"] F0 fun Sc0=>F0.ok Sc0 (fun vs H Q E h=>?_) fun cdv A outer s H vs Q E hr h=>?_
 ·obtain⟨r,st,ks,w,rfl,_⟩:=h
  rfl
 obtain⟨r,st,ks,w,rfl,hR,hb,hl,h0,q1,q2⟩:=h
 have nd:=Sc0.nd
 refine⟨_,(aG (aM (cG (dO (aY dW (aP Ze ZG (dv 0)) bA (aV _)) (aU Zbv.1 (hr.mono (by decide)) rfl Zbv.2.2.2 Zbv.2.2.1 Zbv.2.1 .nil gU (aA (aP Ze Zp (dv 0)) aD)) tQ)))),?_⟩
 obtain⟨dx,er⟩:=hR.rd
 have kb:=pB hb
 have kl:=xO w
 refine⟨fun x H'=>Q x H',?_,fun x H' z=>z⟩
 refine⟨dx,_,.str (ans w),er,rfl,?_⟩
 conv=>whnf
 refine bN (fun c=>?_) (fun c=>?_)
 ·have c1:ans w="whole":=YQ c
  have c2:=uF c1
  have ok:yG (kp w):=⟨c2.1,h0 c1,c2.2⟩
  refine⟨dx,_,.ref ks,er,rfl,ks,kp w,rfl,SqL.of hR.kp,kb,by omega,fun _ t p H' hp g e1 e2=>q1 c1 ok t p H' hp g e1 e2,fun no=>absurd ok no⟩
 ·exact q2 fun z=>c (Yl z)
variable (Za5:MB P w K mg base (CX0) 1 Ze0 Zjc ["self","votes","spoke"] (a3G K CA.rtail CA.stail))
include Zg Zf in
theorem Zls (F0:Fun K "__init__" "Tail.__init__" Zjx Ze0 Zjc):type_of% Za5:=by
 refine mbM ["self","votes","spoke"] F0 fun Sc0=>F0.ok Sc0 (fun vs H Q E h=>?_) fun cdv A outer s H vs Q E hr h=>?_
 ·obtain⟨t,C,dx,v,s,rfl,_⟩:=h
  rfl
 obtain⟨t,C,dx,v,s,rfl,hC,e,q⟩:=h
 have nd:=Sc0.nd
 refine⟨_,(aF (lA (dv 0) (dv 1)) (aF (lA (dv 0) (dv 2)) (aF (lA (dv 0) aH) (aG (lA (dv 0) aH))))),?_⟩
 have hc:=jP Zg Zf hC
 refine⟨C,dx,_,e,hc.cls,hc.n1,by decide,?_⟩
 refine⟨C,dx,_,aB,hc.cls,hc.n2,(show 1<1000 by decide),?_⟩
 refine⟨C,dx,_,aB,hc.cls,hc.n3,(show 2<1000 by decide),?_⟩
 refine⟨C,dx,_,aB,hc.cls,hc.n4,(show 3<1000 by decide),?_⟩
 have eu:∀(H:Hp)(a:Addr)(x y:HO),upd (upd H a x) a y=upd H a y:=fun H a x y=>by
  funext z
  by_cases h:z=a
  ·rw[h,aB,aB]
  ·rw[aK h,aK h,aK h]
 rw[eu,eu,eu]
 exact q
variable (Zc3:MB P w K mg base (CX0) 1 ZdF Zjd ["self"] (a3F CA.rtail CA.stail))
include Zct Zg Zf in
theorem Zlt (F0:Fun K "says" "Tail.says" Zjy ZdF Zjd):type_of% Zc3:=by
 refine mbM ["self"] F0 fun Sc0=>F0.ok Sc0 (fun vs H Q E h=>?_) fun cdv A outer s H vs Q E hr h=>?_
 ·obtain⟨t,v,s,o,n,rfl,_⟩:=h
  rfl
 obtain⟨t,v,s,o,n,rfl,⟨C,dx,hC,e⟩,q⟩:=h
 have nd:=Sc0.nd
 refine⟨_,(aG (aM (cG (dO (PW.pt (jG (aY dW (fD (dv 0)) (bD (v:= .int 1) rfl Zct ⟨_,rfl⟩) (aV _)) (iV (fK (cN (fD (dv 0))))))) aH aH)))),?_⟩
 have hc:=jP Zg Zf hC
 refine⟨fun x H'=>x= .int (iH s o)/\H'=H,?_,?_⟩
 ·refine⟨C,dx,_,_,e,hc.cls,hc.n3,rfl,?_⟩
  conv=>whnf
  refine bN (fun c=>?_) (fun c=>xQ ?_)
  ·have c1:((o:Nat):Int)=1:=dec_true c
   refine⟨C,dx,_,_,e,hc.cls,hc.n2,rfl,?_⟩
   cases s
   ·refine⟨?_,rfl⟩
    unfold iH
    rw[if_pos ⟨by omega,rfl⟩]
   ·refine⟨?_,rfl⟩
    unfold iH
    rw[if_neg fun z=>nomatch z.2]
  ·have c1:¬ ((o:Nat):Int)=1:=dec_false c
   refine⟨?_,rfl⟩
   unfold iH
   rw[if_neg fun z=>c1 (by omega)]
 rintro x H' ⟨rfl,rfl⟩
 exact q
variable (Zig:MB P w K mg base (CX0) 1 ZfY Ziw ["self"] (a0S CA.rtail CA.stail))
include Zg Zf in
theorem ZkY (F0:Fun K "place" "Tail.place" ZiN ZfY Ziw):type_of% Zig:=by
 refine mbM ["self"] F0 fun Sc0=>F0.ok Sc0 (fun vs H Q E h=>?_) fun cdv A outer s H vs Q E hr h=>?_
 ·obtain⟨t,v,s,o,n,rfl,_⟩:=h
  rfl
 obtain⟨t,v,s,o,n,rfl,⟨C,dx,hC,e⟩,q⟩:=h
 have nd:=Sc0.nd
 refine⟨_,(aG (aM (fD (dv 0)))),?_⟩
 have hc:=jP Zg Zf hC
 exact⟨C,dx,_,_,e,hc.cls,hc.n3,rfl,q⟩
variable (ZbG:MB P w K mg base (CX0) 1 Zcp Zgk ["self","at","bit"] (a0U CA.rtail CA.stail))
include Zct Zg Zf in
theorem ZjR (F0:Fun K "is_fault" "Tail.is_fault" Zgr Zcp Zgk):type_of% ZbG:=by
 refine mbM ["self","at","bit"] F0 fun Sc0=>F0.ok Sc0 (fun vs H Q E h=>?_) fun cdv A outer s H vs Q E hr h=>?_
 ·obtain⟨t,v,s,o,n,a,b,rfl,_⟩:=h
  rfl
 obtain⟨t,v,s,o,n,a,b,rfl,⟨C,dx,hC,e⟩,q⟩:=h
 have nd:=Sc0.nd
 refine⟨_,(aF (bH (aY dW (dv 1) (bD (v:= .int 1) rfl Zct ⟨_,rfl⟩) (aV _)) (aG (aM (a5J (fD (dv 0)) (a4Q (eO dW (dv 2) aH (aV _)))))) aW) (aG (aM (eO dW (dv 2) aH (aV _))))),?_⟩
 have hc:=jP Zg Zf hC
 conv=>whnf
 refine bN (fun c=>?_) (fun c=>?_)
 ·have c1:((a:Nat):Int)=1:=dec_true c
  have ef:gZ s a b=(s && decide (b=1)):=if_pos (by omega)
  rw[ef]at q
  refine⟨C,dx,_,_,e,hc.cls,hc.n2,rfl,?_⟩
  cases s
  ·exact q
  ·exact q
 ·have c1:¬ ((a:Nat):Int)=1:=dec_false c
  have ef:gZ s a b=decide (b=0):=if_neg (by omega)
  rw[ef]at q
  exact q
variable (ZaZ:MB P w K mg base (CX0) 1 Zbx Ze7 ["self","bit"] (a0T CA.rtail CA.stail))
include ZcR Zg Zf in
theorem Zh9 (F0:Fun K "judged_vote" "Tail.judged_vote" Ze9 Zbx Ze7):type_of% ZaZ:=by
 refine mbM ["self","bit"] F0 fun Sc0=>F0.ok Sc0 (fun vs H Q E h=>?_) fun cdv A outer s H vs Q E hr h=>?_
 ·obtain⟨t,v,s,o,n,b,rfl,_⟩:=h
  rfl
 obtain⟨t,v,s,o,n,b,rfl,⟨C,dx,hC,e⟩,q⟩:=h
 have nd:=Sc0.nd
 refine⟨_,(aF (lN (bH (aY dW (dv 1) aH (aV _)) (aG (lA (dv 0) (aR bV (fD (dv 0)) aH))) aW)) (aF (bH (aY wI (fD (dv 0)) (aR bV (bD (v:= .int 9) rfl ZcR ⟨_,rfl⟩) (fD (dv 0))) (aV _)) (aG (aM bA)) aW) (aG (aM (cG (dO (aY uK (fD (dv 0)) (aR wJ (fD (dv 0)) aH) (aV _)) bA bA)))))),?_⟩
 have hc:=jP Zg Zf hC
 refine⟨fun σ' H'=>σ'= [some (.ref t),some (.int b)]/\H' t=some (.ins C dx (tlF v s o (if b=0 then n+1 else n)))/\a6Z H H' t,?_,?_⟩
 ·conv=>whnf
  refine bN (fun c=>?_) (fun c=>?_)
  ·have c1:b=0:=dec_true c
   refine⟨C,dx,_,_,e,hc.cls,hc.n4,rfl,C,dx,_,e,hc.cls,hc.n4,(show 4<1000 by decide),rfl,?_,fun x u hx ex=>by rw[aK hx];exact ex⟩
   rw[aB,if_pos c1]
   rfl
  ·have c1:¬ b=0:=dec_false c
   refine⟨rfl,?_,fun x u hx ex=>ex⟩
   rw[if_neg c1]
   exact e
 rintro σ' H' ⟨rfl,e',b'⟩
 have q':=q H' ⟨C,dx,hC,e'⟩ b'
 generalize (if b=0 then n+1 else n)=m at e' q'
 refine⟨C,dx,_,_,e',hc.cls,hc.n3,rfl,C,dx,_,_,e',hc.cls,hc.n1,rfl,?_⟩
 conv=>whnf
 refine bN (fun c=>?_) (fun c=>?_)
 ·have c1:((o:Nat):Int)<9+((v:Nat):Int):=dec_true c
  have ev:lL v o m="more":=if_pos (by omega)
  rw[ev]at q'
  exact q'
 have c1:¬ ((o:Nat):Int)<9+((v:Nat):Int):=dec_false c
 have ev:lL v o m=(if v / 2<m then ("refused":Str) else ("taken":Str)):=if_neg (by omega)
 rw[ev]at q'
 refine⟨fun x H2=>x= .str (if v / 2<m then ("refused":Str) else ("taken":Str))/\H2=H',?_,?_⟩
 ·refine⟨C,dx,_,_,e',hc.cls,hc.n4,rfl,C,dx,_,_,e',hc.cls,hc.n1,rfl,?_⟩
  refine⟨⟨by decide,by decide⟩,?_⟩
  conv=>whnf
  refine bN (fun z=>?_) (fun z=>?_)
  ·have z1:((v:Nat):Int) / 2<((m:Nat):Int):=dec_true z
   rw[if_pos (by omega)]
   exact⟨rfl,rfl⟩
  ·have z1:¬ ((v:Nat):Int) / 2<((m:Nat):Int):=dec_false z
   rw[if_neg (by omega)]
   exact⟨rfl,rfl⟩
 rintro x H2 ⟨rfl,rfl⟩
 exact q'
variable (Zc2:MB P w K mg base (CX0) 2 ZdE Zjb ["self","bit"] (a3H CA.rtail CA.stail))
include ZcR Zg Zf Za3 ZaX ZaR ZaC ZbG ZaZ in
theorem Zlr (F0:Fun K "hear" "Tail.hear" Zjw ZdE Zjb):type_of% Zc2:=by
 refine mbM ["self","bit","at"] F0 fun Sc0=>F0.ok Sc0 (fun vs H Q E h=>?_) fun cdv A outer s H vs Q E hr h=>?_
 ·obtain⟨t,v,s,o,n,b,rfl,_⟩:=h
  rfl
 obtain⟨t,v,s,o,n,b,rfl,⟨C,dx,hC,e⟩,q⟩:=h
 have nd:=Sc0.nd
 refine⟨_,(aF (bB (i:=2) nd rfl (Or.inl rfl) (fD (dv 0))) (aF (lA (dv 0) (aR bV (dv 2) aH)) (aF (bH (aY a2Q (dv 2) (bD (v:= .int 9) rfl ZcR ⟨_,rfl⟩) (aV _)) (aG (aM (qH ZaZ.1 (hr.mono (by decide)) ZaZ.2 .nil aN (dv 0) (aA (dv 1) aD)))) aW) (aG (aM (cG (dO (cN (qH ZbG.1 (hr.mono (by decide)) ZbG.2 .nil aN (dv 0) (aA (dv 2) (aA (dv 1) aD)))) bA bA))))))),?_⟩
 have hc:=jP Zg Zf hC
 have hmj:=rM ZaR ZaC hC
 have hmf:=rM Za3 ZaX hC
 refine⟨C,dx,_,_,e,hc.cls,hc.n3,rfl,C,dx,_,e,hc.cls,hc.n3,(show 4<1000 by decide),?_⟩
 have e1:upd H t (.ins C dx (fJ "over" (.int (((o:Nat):Int)+1)) (tlF v s o n))) t=some (.ins C dx (tlF v s (o+1) n)):=aB
 have b1:a6Z H (upd H t (.ins C dx (fJ "over" (.int (((o:Nat):Int)+1)) (tlF v s o n)))) t:=fun x u hx ex=>by rw[aK hx];exact ex
 generalize upd H t (.ins C dx (fJ "over" (.int (((o:Nat):Int)+1)) (tlF v s o n)))=H1 at e1 b1
 conv=>whnf
 refine bN (fun c=>?_) (fun c=>?_)
 ·have c1:(9:Int)<=((o:Nat):Int):=dec_true c
  have c2:9<=o:=by omega
  refine⟨⟨C,dx,_,e1,hc.cls,hmj,rfl⟩,t,v,s,o+1,n,b,rfl,⟨C,dx,hC,e1⟩,fun H2 h2 b2=>?_⟩
  have en:tlN o b n=(if b=0 then n+1 else n):=by
   unfold tlN
   by_cases z:b=0
   ·rw[if_pos ⟨c2,z⟩,if_pos z]
   ·rw[if_neg fun y=>z y.2,if_neg z]
  have ew:cZ v s o n b=lL v (o+1) (tlN o b n):=if_pos c2
  rw[<-en]at h2 ⊢
  have:=q H2 h2 fun x u hx ex=>b2 x u hx (b1 x u hx ex)
  rw[ew]at this
  exact this
 have c1:¬ (9:Int)<=((o:Nat):Int):=dec_false c
 have c2:¬ 9<=o:=by omega
 have en:tlN o b n=n:=if_neg fun z=>c2 z.1
 have ew:cZ v s o n b=(if gZ s o b=true then ("fault":Str) else ("more":Str)):=if_neg c2
 rw[ew,en]at q
 have q':=q H1 ⟨C,dx,hC,e1⟩ b1
 refine⟨fun x H2=>x= .str (if gZ s o b=true then ("fault":Str) else ("more":Str))/\H2=H1,?_,?_⟩
 ·refine⟨⟨C,dx,_,e1,hc.cls,hmf,rfl⟩,t,v,s,o+1,n,o,b,rfl,⟨C,dx,hC,e1⟩,?_⟩
  generalize gZ s o b=f
  cases f
  ·exact⟨rfl,rfl⟩
  ·exact⟨rfl,rfl⟩
 rintro x H2 ⟨rfl,rfl⟩
 exact q'
variable (ZbE:MB P w K mg base (CX0) 2 Zdb Zgi ["self","votes"] (uR CA.rtail false))
include Zdl Zg Zf Zal Za5 in
theorem ZjP (F0:Fun K "__init__" "ReadTail.__init__" Zgp Zdb Zgi):type_of% ZbE:=by
 refine mbM ["self","votes"] F0 fun Sc0=>F0.ok Sc0 (fun vs H Q E h=>?_) fun cdv A outer s H vs Q E hr h=>?_
 ·obtain⟨t,dx,v,rfl,_⟩:=h
  rfl
 obtain⟨t,dx,v,rfl,e,q⟩:=h
 have nd:=Sc0.nd
 refine⟨_,(aG (bC (vL Zal Za5.1 (hr.mono (by decide)) Za5.2 .nil aN (bD (v:= .ref ZdD) rfl Zdl rfl) (aA (dv 0) (aA (dv 1) (aA eQ aD)))))),?_⟩
 exact⟨rfl,t,CA.rtail,dx,v,false,rfl,.inl rfl,e,q _ rfl⟩
variable (Zbj:MB P w K mg base (CX0) 2 ZcN Zf7 ["self","votes"] (uR CA.stail true))
include Zdl Zg Zf Zal Za5 in
theorem ZiY (F0:Fun K "__init__" "SpeakTail.__init__" Zgc ZcN Zf7):type_of% Zbj:=by
 refine mbM ["self","votes"] F0 fun Sc0=>F0.ok Sc0 (fun vs H Q E h=>?_) fun cdv A outer s H vs Q E hr h=>?_
 ·obtain⟨t,dx,v,rfl,_⟩:=h
  rfl
 obtain⟨t,dx,v,rfl,e,q⟩:=h
 have nd:=Sc0.nd
 refine⟨_,(aG (bC (vL Zal Za5.1 (hr.mono (by decide)) Za5.2 .nil aN (bD (v:= .ref ZdD) rfl Zdl rfl) (aA (dv 0) (aA (dv 1) (aA eQ aD)))))),?_⟩
 exact⟨rfl,t,CA.stail,dx,v,true,rfl,.inr rfl,e,q _ rfl⟩
variable (Zcx:MB P w K mg base (CX0) 1 Zed Zin ["self"] (a3Y CA.count))
include Zd Zo in
theorem ZkP (F0:Fun K "__init__" "Count.__init__" ZiE Zed Zin):type_of% Zcx:=by
 refine mbM ["self"] F0 fun Sc0=>F0.ok Sc0 (fun vs H Q E h=>?_) fun cdv A outer s H vs Q E hr h=>?_
 ·obtain⟨a,dx,rfl,_⟩:=h
  rfl
 obtain⟨a,dx,rfl,ha,q⟩:=h
 have nd:=Sc0.nd
 refine⟨_,(aG (bO Zd Zo (dv 0) aH)),?_⟩
 exact⟨dx, [],ha,by decide,q⟩
variable (Zbg:MB P w K mg base (CX0) 1 ZcK Zf4 ["self"] (b0J CA.count 12))
include Zeu Zd Zo in
theorem ZiV (F0:Fun K "is_quiet" "Count.is_quiet" Zf9 ZcK Zf4):type_of% Zbg:=by
 refine mbM ["self"] F0 fun Sc0=>F0.ok Sc0 (fun vs H Q E h=>?_) fun cdv A outer s H vs Q E hr h=>?_
 ·obtain⟨a,n,rfl,_⟩:=h
  rfl
 obtain⟨a,n,rfl,⟨dx,ha⟩,q⟩:=h
 have nd:=Sc0.nd
 refine⟨_,(aG (aM (eO a2Q (aP Zd Zo (dv 0)) (bD (v:= .int 12) rfl Zeu ⟨_,rfl⟩) (aV _)))),?_⟩
 exact⟨dx,_,.int n,ha,rfl,q⟩
variable (Zay:MB P w K mg base (CX0) 1 Zdp ZgX ["self"] (b0J CA.count 18))
include ZfE Zd Zo in
theorem Zj1 (F0:Fun K "is_off" "Count.is_off" Zhb Zdp ZgX):type_of% Zay:=by
 refine mbM ["self"] F0 fun Sc0=>F0.ok Sc0 (fun vs H Q E h=>?_) fun cdv A outer s H vs Q E hr h=>?_
 ·obtain⟨a,n,rfl,_⟩:=h
  rfl
 obtain⟨a,n,rfl,⟨dx,ha⟩,q⟩:=h
 have nd:=Sc0.nd
 refine⟨_,(aG (aM (eO a2Q (aP Zd Zo (dv 0)) (bD (v:= .int 18) rfl ZfE ⟨_,rfl⟩) (aV _)))),?_⟩
 exact⟨dx,_,.int n,ha,rfl,q⟩
variable (ZgW:MB P w K mg base (CX0) 1 ZeK ZgY ["self"] (b5E CA.count))
include Zd Zo in
theorem Zj2 (F0:Fun K "number" "Count.number" Zhc ZeK ZgY):type_of% ZgW:=by
 refine mbM ["self"] F0 fun Sc0=>F0.ok Sc0 (fun vs H Q E h=>?_) fun cdv A outer s H vs Q E hr h=>?_
 ·obtain⟨a,n,rfl,_⟩:=h
  rfl
 obtain⟨a,n,rfl,⟨dx,ha⟩,q⟩:=h
 have nd:=Sc0.nd
 refine⟨_,(aG (aM (aP Zd Zo (dv 0)))),?_⟩
 exact⟨dx,_,.int n,ha,rfl,q⟩
variable (Zag:MB P w K mg base (CX0) 2 Zee Zio ["self","step"] (a3X CA.count))
include Zlb Zd Zai Zo Zay in
theorem ZkQ (F0:Fun K "move" "Count.move" ZiF Zee Zio):type_of% Zag:=by
 refine mbM ["self","step"] F0 fun Sc0=>F0.ok Sc0 (fun vs H Q E h=>?_) fun cdv A outer s H vs Q E hr h=>?_
 ·obtain⟨a,n,st,rfl,_⟩:=h
  rfl
 obtain⟨a,n,st,rfl,⟨dx,ha⟩,q⟩:=h
 have nd:=Sc0.nd
 refine⟨_,(aG (bH (fK (cN (bR Zd Zai Zay.1 (hr.mono (by decide)) Zay.2 .nil aN (dv 0)))) (aG (bO Zd Zo (dv 0) (aZ (b0Z rfl) rfl Zlb b4E (aA aH (aA (aR bV (aP Zd Zo (dv 0)) (dv 1)) aD))))) aW)),?_⟩
 refine⟨⟨dx,_,ha,rfl⟩,a,n,rfl,⟨dx,ha⟩,?_⟩
 conv=>whnf
 refine bN (fun c=>?_) (fun c=>?_)
 ·have c1:¬ (18:Int)<=n:=fun z=>by
   have:(!decide ((18:Int)<=n))=true:=c
   rw[Yl z]at this
   cases this
  refine⟨dx,_,.int n,ha,rfl,dx,_,ha,(show 1<1000 by decide),q _ ?_ fun b hb=>aK hb⟩
  refine⟨dx,?_⟩
  unfold mvd
  rw[if_neg c1]
  exact aB
 ·have c1:(18:Int)<=n:=YG fun z=>c (by
   show (!decide ((18:Int)<=n))=true
   rw[Yu z];rfl)
  refine q _ ?_ fun b hb=>rfl
  unfold mvd
  rw[if_pos c1]
  exact⟨dx,ha⟩
variable (ZaF:MB P w K mg base (CX0) 3 ZdI ZhA ["self","spoke"] (a0Z CA.count))
include ZbO ZdW Zd ZW Zag in
theorem Zkl (F0:Fun K "fault" "Count.fault" ZhS ZdI ZhA):type_of% ZaF:=by
 refine mbM ["self","spoke"] F0 fun Sc0=>F0.ok Sc0 (fun vs H Q E h=>?_) fun cdv A outer s H vs Q E hr h=>?_
 ·obtain⟨a,n,b,rfl,_⟩:=h
  rfl
 obtain⟨a,n,b,rfl,⟨dx,ha⟩,q⟩:=h
 have nd:=Sc0.nd
 refine⟨_,(aG (bC (bQ Zd ZW Zag.1 (hr.mono (by decide)) Zag.2 .nil aN (dv 0) (aA (cG (dO (cN (dv 1)) (bD (v:= .int 8) rfl ZbO ⟨_,rfl⟩) (bD (v:= .int 1) rfl ZdW ⟨_,rfl⟩))) aD)))),?_⟩
 refine⟨⟨dx,_,ha,rfl⟩,fun x H'=>x= .int (if b=true then 8 else 1)/\H'=H,?_,?_⟩
 ·cases b with
  |true=>exact⟨rfl,rfl⟩
  |false=>exact⟨rfl,rfl⟩
 rintro x H' ⟨rfl,rfl⟩
 exact⟨a,n,_,rfl,⟨dx,ha⟩,q⟩
variable (Zcg:MB P w K mg base (CX0) 3 ZdH Zhz ["self"] (uT CA.count 8))
include ZbO Zd ZW Zag in
theorem Zkk (F0:Fun K "blame" "Count.blame" ZhR ZdH Zhz):type_of% Zcg:=by
 refine mbM ["self"] F0 fun Sc0=>F0.ok Sc0 (fun vs H Q E h=>?_) fun cdv A outer s H vs Q E hr h=>?_
 ·obtain⟨a,n,rfl,_⟩:=h
  rfl
 obtain⟨a,n,rfl,⟨dx,ha⟩,q⟩:=h
 have nd:=Sc0.nd
 refine⟨_,(aG (bC (bQ Zd ZW Zag.1 (hr.mono (by decide)) Zag.2 .nil aN (dv 0) (aA (bD (v:= .int 8) rfl ZbO ⟨_,rfl⟩) aD)))),?_⟩
 exact⟨⟨dx,_,ha,rfl⟩,a,n,8,rfl,⟨dx,ha⟩,q⟩
variable (Zcw:MB P w K mg base (CX0) 3 Zec Zim ["self"] (uT CA.count (-1)))
include Zd ZW Zag in
theorem ZkO (F0:Fun K "good" "Count.good" ZiD Zec Zim):type_of% Zcw:=by
 refine mbM ["self"] F0 fun Sc0=>F0.ok Sc0 (fun vs H Q E h=>?_) fun cdv A outer s H vs Q E hr h=>?_
 ·obtain⟨a,n,rfl,_⟩:=h
  rfl
 obtain⟨a,n,rfl,⟨dx,ha⟩,q⟩:=h
 have nd:=Sc0.nd
 refine⟨_,(aG (bC (bQ Zd ZW Zag.1 (hr.mono (by decide)) Zag.2 .nil aN (dv 0) (aA (yX yK aH) aD)))),?_⟩
 exact⟨⟨dx,_,ha,rfl⟩,a,n, -1,rfl,⟨dx,ha⟩,q⟩
variable (Zaf:FB P w K mg base (CX0) 7 "begun_reader" ZeL Zg6 [] (a7T CA))
include ZI Zq Zhw Ze Zdy ZO Zck Z8 in
theorem Zka (F0:GFm K mg "begun_reader" Zhk ZeL Zg6):type_of% Zaf:=by
 refine fbM ["reader"] F0 fun Sc0=>F0.F.ok Sc0 (fun vs H Q E h=>?_) fun cdv A outer s H vs Q E hr h=>?_
 ·obtain⟨rfl,_⟩:=h
  rfl
 obtain⟨rfl,q⟩:=h
 have nd:=Sc0.nd
 refine⟨_,(aF (bB (i:=0) nd rfl (Or.inl rfl) (lR Zdy Zck.1 (hr.mono (by decide)) rfl Zhw Zck.2 .nil aN)) (aF (bC (bQ Ze ZO Z8.1 (hr.mono (by decide)) Z8.2 .nil aN (dv 0) (aA aH aD))) (aG (aM (dv 0))))),?_⟩
 refine fun r dr hr0 hdr hne=>⟨r,dr,rfl,aB,fun H2 st ks hR hst hks k2=>⟨rfl,?_⟩⟩
 have s12:Same H H2:=fun x o e=>k2 x o (aQ e hr0) (by rw[aK (aQ e hr0),aK (aQ e hdr)];exact e)
 have nst:H st=none:=Same.none (fun x o e=>(by rw[aK (aQ e hr0),aK (aQ e hdr)];exact e):Same H _) hst
 have nks:H ks=none:=Same.none (fun x o e=>(by rw[aK (aQ e hr0),aK (aQ e hdr)];exact e):Same H _) hks
 obtain⟨dx,exr⟩:=hR.rd
 refine⟨⟨dx,_,exr,rfl⟩,r,st,ks, [],_,0,rfl,hR,(fun z hz=> .inl (Yj.mp hz)),by decide,fun H3 hR3 b3=>?_⟩
 exact q r st ks H3 _ hR3 (fun x o e=>b3 x o (aQ e hr0) (aQ e nst) (aQ e nks) (s12 x o e)) hr0 nst nks
variable (Zap:MB P w K mg base (CX0) 1 ZeO Zi0 ["self","since"] (wX CA.free "since"))
include ZL Z6 in
theorem Zlf (F0:Fun K "__init__" "Free.__init__" Zjl ZeO Zi0):type_of% Zap:=by
 refine mbM ["self","since"] F0 fun Sc0=>F0.ok Sc0 (fun vs H Q E h=>?_) fun cdv A outer s H vs Q E hr h=>?_
 ·obtain⟨a,dx,v,rfl,_⟩:=h
  rfl
 obtain⟨a,dx,v,rfl,e,q⟩:=h
 have nd:=Sc0.nd
 refine⟨_,(aG (bO ZL Z6 (dv 0) (dv 1))),?_⟩
 exact⟨dx, [],e,by decide,q _ rfl⟩
variable (ZaI:MB P w K mg base (CX0) 1 ZdQ ZhI ["self","wire","reader","many"] (b1R CA.speaks "wire" "reader" "many"))
include Zi ZH ZR ZB in
theorem Zkt (F0:Fun K "__init__" "Speaks.__init__" Zh0 ZdQ ZhI):type_of% ZaI:=by
 refine mbM ["self","wire","reader","many"] F0 fun Sc0=>F0.ok Sc0 (fun vs H Q E h=>?_) fun cdv A outer s H vs Q E hr h=>?_
 ·obtain⟨a,dx,v,w,z,rfl,_⟩:=h
  rfl
 obtain⟨a,dx,v,w,z,rfl,e,q⟩:=h
 have nd:=Sc0.nd
 refine⟨_,(aF (bO Zi ZH (dv 0) (dv 1)) (aF (bO Zi ZR (dv 0) (dv 2)) (aG (bO Zi ZB (dv 0) (dv 3))))),?_⟩
 refine⟨dx, [],e,by decide,dx,_,aB,(show 1<1000 by decide),dx,_,aB,(show 2<1000 by decide),?_⟩
 refine q _ ?_
 rw[jE,jE]
 rfl
variable (Zah:MB P w K mg base (CX0) 1 Zeg Ziq ["self","reader","many"] (wW CA.reads "reader" "many"))
include ZE Z4 ZaE in
theorem ZkS (F0:Fun K "__init__" "Reads.__init__" ZiH Zeg Ziq):type_of% Zah:=by
 refine mbM ["self","reader","many"] F0 fun Sc0=>F0.ok Sc0 (fun vs H Q E h=>?_) fun cdv A outer s H vs Q E hr h=>?_
 ·obtain⟨a,dx,v,w,rfl,_⟩:=h
  rfl
 obtain⟨a,dx,v,w,rfl,e,q⟩:=h
 have nd:=Sc0.nd
 refine⟨_,(aF (bO ZE Z4 (dv 0) (dv 1)) (aG (bO ZE ZaE (dv 0) (dv 2)))),?_⟩
 refine⟨dx, [],e,by decide,dx,_,aB,(show 1<1000 by decide),?_⟩
 refine q _ ?_
 rw[jE]
 rfl
variable (ZaG:MB P w K mg base (CX0) 1 ZdJ ZhB ["self","tail","found"] (wW CA.intail "tail" "found"))
include Zr ZA Zaw in
theorem Zkm (F0:Fun K "__init__" "InTail.__init__" ZhT ZdJ ZhB):type_of% ZaG:=by
 refine mbM ["self","tail","found"] F0 fun Sc0=>F0.ok Sc0 (fun vs H Q E h=>?_) fun cdv A outer s H vs Q E hr h=>?_
 ·obtain⟨a,dx,v,w,rfl,_⟩:=h
  rfl
 obtain⟨a,dx,v,w,rfl,e,q⟩:=h
 have nd:=Sc0.nd
 refine⟨_,(aF (bO Zr ZA (dv 0) (dv 1)) (aG (bO Zr Zaw (dv 0) (dv 2)))),?_⟩
 refine⟨dx, [],e,by decide,dx,_,aB,(show 1<1000 by decide),?_⟩
 refine q _ ?_
 rw[jE]
 rfl
variable (Zao:MB P w K mg base (CX0) 1 Zc7 Zge ["self","left","may_blame"] (wW CA.flag "left" "may_blame"))
include Zt Zad ZM in
theorem ZjL (F0:Fun K "__init__" "Flagging.__init__" Zgl Zc7 Zge):type_of% Zao:=by
 refine mbM ["self","left","may_blame"] F0 fun Sc0=>F0.ok Sc0 (fun vs H Q E h=>?_) fun cdv A outer s H vs Q E hr h=>?_
 ·obtain⟨a,dx,v,w,rfl,_⟩:=h
  rfl
 obtain⟨a,dx,v,w,rfl,e,q⟩:=h
 have nd:=Sc0.nd
 refine⟨_,(aF (bO Zt Zad (dv 0) (dv 1)) (aG (bO Zt ZM (dv 0) (dv 2)))),?_⟩
 refine⟨dx, [],e,by decide,dx,_,aB,(show 1<1000 by decide),?_⟩
 refine q _ ?_
 rw[jE]
 rfl
variable (ZY:MB P w K mg base (CX0) 1 Zdu Zg3 ["self","may_blame"] (wX CA.settles "may_blame"))
include ZU Z5 in
theorem Zj7 (F0:Fun K "__init__" "Settles.__init__" Zhh Zdu Zg3):type_of% ZY:=by
 refine mbM ["self","may_blame"] F0 fun Sc0=>F0.ok Sc0 (fun vs H Q E h=>?_) fun cdv A outer s H vs Q E hr h=>?_
 ·obtain⟨a,dx,v,rfl,_⟩:=h
  rfl
 obtain⟨a,dx,v,rfl,e,q⟩:=h
 have nd:=Sc0.nd
 refine⟨_,(aG (bO ZU Z5 (dv 0) (dv 1))),?_⟩
 exact⟨dx, [],e,by decide,q _ rfl⟩
variable (Z2:MB P w K mg base (CX0) 1 Zej Zit ["self","left"] (wX CA.rests "left"))
include ZZ Zau in
theorem ZkV (F0:Fun K "__init__" "Rests.__init__" ZiK Zej Zit):type_of% Z2:=by
 refine mbM ["self","left"] F0 fun Sc0=>F0.ok Sc0 (fun vs H Q E h=>?_) fun cdv A outer s H vs Q E hr h=>?_
 ·obtain⟨a,dx,v,rfl,_⟩:=h
  rfl
 obtain⟨a,dx,v,rfl,e,q⟩:=h
 have nd:=Sc0.nd
 refine⟨_,(aG (bO ZZ Zau (dv 0) (dv 1))),?_⟩
 exact⟨dx, [],e,by decide,q _ rfl⟩
variable (ZbD:MB P w K mg base (CX0) 2 Zda Zgh ["self"] (b0K CA 12))
include Zd Za Za6 Zj Zbg in
theorem ZjO (F0:Fun K "is_quiet" "Post.is_quiet" Zgo Zda Zgh):type_of% ZbD:=by
 refine mbM ["self"] F0 fun Sc0=>F0.ok Sc0 (fun vs H Q E h=>?_) fun cdv A outer s H vs Q E hr h=>?_
 ·obtain⟨p,nwf,S,o,rfl,_⟩:=h
  rfl
 obtain⟨p,nwf,S,o,rfl,⟨dx,ch,wl,ul,ct,ws,us,b⟩,q⟩:=h
 have nd:=Sc0.nd
 refine⟨_,(aG (aM (bR Zd Za6 Zbg.1 (hr.mono (by decide)) Zbg.2 .nil aN (aP Za Zj (dv 0))))),?_⟩
 obtain⟨dc,ec⟩:=b.et
 exact⟨dx,_,.ref ct,b.e,rfl,⟨dc,_,ec,rfl⟩,ct,S.tot,rfl,⟨dc,ec⟩,q⟩
variable (Zcj:MB P w K mg base (CX0) 2 ZdM ZhE ["self"] (b0K CA 18))
include Zd Za Zai Zj Zay in
theorem Zkp (F0:Fun K "is_off" "Post.is_off" ZhW ZdM ZhE):type_of% Zcj:=by
 refine mbM ["self"] F0 fun Sc0=>F0.ok Sc0 (fun vs H Q E h=>?_) fun cdv A outer s H vs Q E hr h=>?_
 ·obtain⟨p,nwf,S,o,rfl,_⟩:=h
  rfl
 obtain⟨p,nwf,S,o,rfl,⟨dx,ch,wl,ul,ct,ws,us,b⟩,q⟩:=h
 have nd:=Sc0.nd
 refine⟨_,(aG (aM (bR Zd Zai Zay.1 (hr.mono (by decide)) Zay.2 .nil aN (aP Za Zj (dv 0))))),?_⟩
 obtain⟨dc,ec⟩:=b.et
 exact⟨dx,_,.ref ct,b.e,rfl,⟨dc,_,ec,rfl⟩,ct,S.tot,rfl,⟨dc,ec⟩,q⟩
variable (Zbh:MB P w K mg base (CX0) 1 ZcL Zf5 ["self"] (b5C CA))
include Zu Za Zn in
theorem ZiW (F0:Fun K "has_frame" "Post.has_frame" Zga ZcL Zf5):type_of% Zbh:=by
 refine mbM ["self"] F0 fun Sc0=>F0.ok Sc0 (fun vs H Q E h=>?_) fun cdv A outer s H vs Q E hr h=>?_
 ·obtain⟨p,nwf,S,o,rfl,_⟩:=h
  rfl
 obtain⟨p,nwf,S,o,rfl,⟨dx,ch,wl,ul,ct,ws,us,b⟩,q⟩:=h
 have nd:=Sc0.nd
 refine⟨_,(aG (aM (eO uK (aZ cP rfl Zu bT (aA (aP Za Zn (dv 0)) aD)) aH (aV _)))),?_⟩
 refine⟨dx,_,.ref wl,b.e,rfl,_,.inl (SqL.of b.ew),?_⟩
 rw[b.fw.len]
 exact q
variable (ZaM:MB P w K mg base (CX0) 7 ZbQ Zen ["self"] (wY CA))
include ZaB ZI Zq Za Zn ZcF in
theorem Zg9 (F0:Fun K "foremost_wire" "Post.foremost_wire" Zex ZbQ Zen):type_of% ZaM:=by
 refine mbM ["self"] F0 fun Sc0=>F0.ok Sc0 (fun vs H Q E h=>?_) fun cdv A outer s H vs Q E hr h=>?_
 ·obtain⟨p,nwf,S,o,f,r,rfl,_⟩:=h
  rfl
 obtain⟨p,nwf,S,o,f,r,rfl,⟨dx,ch,wl,ul,ct,ws,us,b⟩,ewt,hf,q⟩:=h
 have nd:=Sc0.nd
 refine⟨_,(aG (aM (aU ZcF.1 (hr.mono (by decide)) rfl ZcF.2.2.2 ZcF.2.2.1 ZcF.2.1 .nil gU (aA (bI fH (bI cR (aP Za Zn (dv 0)) aH (fun _ _=>rfl)) aH (fun _ _=>rfl)) (aA (bI fH (bI cR (aP Za Zn (dv 0)) aH (fun _ _=>rfl)) aH (fun _ _=>rfl)) aD))))),?_⟩
 have fw:=b.fw
 rw[ewt]at fw
 generalize hws:ws=ws' at fw
 cases fw with
 | cons a rr=>
  rename_i t ts
  obtain⟨d,e1,e2,e3⟩:=a
  have ew:=b.ew
  rw[hws]at ew
  refine⟨dx,_,.ref wl,b.e,rfl,_,.ref t,SqL.of ew,at0,_,_,SqT.of e1,rfl,dx,_,.ref wl,b.e,rfl,_,.ref t,SqL.of ew,at0,_,_,SqT.of e1,rfl,?_⟩
  have h7:=hf.2.1
  refine⟨(f.1:Int),d,f.2,rfl,SqL.of e2,by omega,fun _ pw H' hpw g e=>q pw H' hpw g e,fun no=>absurd hf.ok no⟩
variable (ZaL:MB P w K mg base (CX0) 1 ZbP Zem ["self"] (b1U CA))
include Za Zn in
theorem Zg8 (F0:Fun K "drop_foremost" "Post.drop_foremost" Zew ZbP Zem):type_of% ZaL:=by
 refine mbM ["self"] F0 fun Sc0=>F0.ok Sc0 (fun vs H Q E h=>?_) fun cdv A outer s H vs Q E hr h=>?_
 ·obtain⟨p,nwf,S,o,rfl,_⟩:=h
  rfl
 obtain⟨p,nwf,S,o,rfl,⟨dx,ch,wl,ul,ct,ws,us,b⟩,hn,q⟩:=h
 have nd:=Sc0.nd
 refine⟨_,(aG (bC (a5I (aP Za Zn (dv 0)) (aA aH aD)))),?_⟩
 have fw:=b.fw
 generalize hws:ws=ws' at fw
 generalize hwt:S.wt=wt at fw
 cases fw with
 |nil=>exact absurd hwt hn
 | cons a rr=>
  rename_i t f ts fs
  have ew:=b.ew
  rw[hws]at ew
  refine⟨dx,_,.ref wl,b.e,rfl,⟨_,ew⟩,_,0,.ref t,ew,⟨by decide,by decide⟩,sq0,rfl,?_⟩
  have kk:cI o H (upd H wl (.lst ts)):=fun x v e z=>by
   rw[aK]
   ·exact e
   ·rintro rfl
    rcases z with z | ⟨vs,rfl⟩
    ·exact z b.ow
    ·rw[ew]at e;cases e
  have nl:∀{x:Addr}{v:HO},H x=some v->(∀l,v≠ .lst l)->upd H wl (.lst ts) x=some v:=fun {x v} e h=>by
   rw[aK]
   ·exact e
   ·rintro rfl
    rw[ew]at e
    exact h _ (Yq e).symm
  have fk:∀{ts':List V}{fs':List Fr},dJ H (Dl o wl ul) ts' fs'->dJ (upd H wl (.lst ts)) (Dl o wl ul) ts' fs':=fun {ts' fs'} h=>by
   induction h with
   |nil=>exact .nil
   | cons a _ ih=>
    obtain⟨d,e1,e2,e3⟩:=a
    exact .cons ⟨d,kk.tup e1,by rw[aK e3.2.1];exact e2,e3⟩ ih
  refine q _ ⟨dx,ch,wl,ul,ct,ts,us,nl b.e (fun l z=>nomatch z),kk.tup b.ec,aB,?_,by rw[aK (Ne.symm b.ne)];exact b.eu,fk b.fu,(let ⟨d,e⟩:=b.et;⟨d,nl e fun l z=>nomatch z⟩),b.op,b.ow,b.ou,b.ot,b.ne,fun x hx=>?_⟩ kk
  ·show dJ _ _ ts S.wt.tail
   rw[hwt]
   exact fk rr
  ·by_cases h:x=wl
   ·rw[h,aB];simp
   ·rw[aK h];exact b.al x hx
variable (ZbZ:FB P w K mg base (CX0) 1 "is_wanted" ZgS Zji ["choice","name"] (a3D K))
theorem Zly (F0:GFm K mg "is_wanted" ZjD ZgS Zji):type_of% ZbZ:=by
 refine fbM ["choice","name"] F0 fun Sc0=>F0.F.ok Sc0 (fun vs H Q E h=>?_) fun cdv A outer s H vs Q E hr h=>?_
 ·obtain⟨c,m,t,n,rfl,_⟩:=h
  rfl
 obtain⟨c,m,t,n,rfl,e,q⟩:=h
 have nd:=Sc0.nd
 refine⟨_,(aG (aM (eO dW (aR rH (dv 1) (bI fH (dv 0) aH (fun _ _=>rfl))) (bI fH (dv 0) aH (fun _ _=>rfl)) (aV _)))),?_⟩
 exact⟨_,_,SqT.of e,rfl,_,_,SqT.of e,rfl,q⟩
variable (Zb1:MB P w K mg base (CX0) 2 Zdq ZgZ ["self","frame"] (a3W CA))
include Za ZaA ZJ ZbZ in
theorem Zj3 (F0:Fun K "hand_up" "Post.hand_up" Zhd Zdq ZgZ):type_of% Zb1:=by
 refine mbM ["self","frame"] F0 fun Sc0=>F0.ok Sc0 (fun vs H Q E h=>?_) fun cdv A outer s H vs Q E hr h=>?_
 ·obtain⟨p,nwf,S,o,t,d,n,ds,rfl,_⟩:=h
  rfl
 obtain⟨p,nwf,S,o,t,d,n,ds,rfl,⟨dx,ch,wl,ul,ct,ws,us,b⟩,et,ed,nd_,hl,q⟩:=h
 have nd:=Sc0.nd
 refine⟨_,(aG (bH (cN (aU ZbZ.1 (hr.mono (by decide)) rfl ZbZ.2.2.2 ZbZ.2.2.1 ZbZ.2.1 .nil aN (aA (aP Za ZaA (dv 0)) (aA (bI fH (dv 1) aH (fun _ _=>rfl)) aD)))) (aG (bC (cO (aP Za ZJ (dv 0)) (aA (dv 1) aD)))) aW)),?_⟩
 refine⟨dx,_,.ref ch,b.e,rfl,_,_,SqT.of et,rfl,ch,_,_,_,rfl,b.ec,?_⟩
 conv=>whnf
 refine bN (fun c=>?_) (fun c=>?_)
 ·have c1:gY S n=true:=c
  have hul:=b.fu.len
  refine⟨dx,_,.ref ul,b.e,rfl,⟨_,SqL.of b.eu⟩,_,b.eu,bW (by omega),?_⟩
  obtain⟨k1,k2,k3,k4,k5,k6⟩:=vP (ys:=us++[.ref t]) b (.inr rfl)
  refine q _ ⟨dx,ch,wl,ul,ct,ws,us++[.ref t],k2.trans b.e,k3.trans b.ec,by rw[aK b.ne];exact b.ew,(k5 b.fw).imp (fun x v e _=>e) (fun x z=>⟨.inl z.1,z.2⟩),aB,?_,(let ⟨d,e⟩:=b.et;⟨d,k4.trans e⟩),.inl b.op,.inl b.ow,.inl b.ou,.inl b.ot,b.ne,fun x hx=>?_⟩ k1
  ·show dJ _ _ _ (if gY S n=true then S.up++[(n,ds)] else S.up)
   rw[if_pos c1]
   have nwl:d≠wl:=fun z=>nd_ (z▸b.ow)
   have nul:d≠ul:=fun z=>nd_ (z▸b.ou)
   exact((k5 b.fu).imp (fun x v e _=>e) (fun x z=>⟨.inl z.1,z.2⟩)).snoc ⟨d,k1.tup et,by rw[aK nul];exact ed,.inr rfl,nwl,nul⟩
  ·rcases hx with hx | hx
   ·exact k6 x hx
   ·have hx':x=d:=hx
    have nul:d≠ul:=fun z=>nd_ (z▸b.ou)
    rw[hx',aK nul,ed];simp
 ·have c1:¬ gY S n=true:=c
  refine q _ ?_ cI.refl
  rw[if_neg c1]
  exact Bd.grow ⟨dx,ch,wl,ul,ct,ws,us,b⟩ ed
variable (ZcT:MB P w K mg base (CXR P w) 3 ZeR Zi3 ["self","name","data"] (b1S K CA ZcG))
include Zq Z3 Za Zn Zx in
theorem Zli (F0:Fun K "hand" "Post.hand" Zjo ZeR Zi3):type_of% ZcT:=by
 refine mbM ["self","name","data"] F0 fun Sc0=>F0.okR Sc0 (fun vs H Q E h=>?_) fun cdv A outer s H vs Q E hr h=>?_
 ·obtain⟨p,nwf,S,o,n,a,ds,rfl,_⟩:=h
  rfl
 obtain⟨p,nwf,S,o,n,a,ds,rfl,bd,hS,hl,hw,q1,q2⟩:=h
 have nd:=Sc0.nd
 refine⟨_,(aF (bC (aU Zx.1 (hr.mono (by decide)) rfl Zx.2.2.2 Zx.2.2.1 Zx.2.1 .nil (iJ fun _ _ _ z=>z) (aA (dv 1) (aA (dv 2) aD)))) (aG (bC (cO (aP Za Zn (dv 0)) (aA (cF (aA (dv 1) (aA (cU dU rfl Z3 fQ (aA (dv 2) aD)) aD))) aD))))),?_⟩
 refine⟨n,a,ds,rfl,hS,hl,fun ok H1 g1=>?_,fun no H1 g1=>q2 no H1 g1⟩
 obtain⟨dx,ch,wl,ul,ct,ws,us,b⟩:=bd.move (H':=H1) fun x v e _=>g1 x v e
 refine⟨dx,_,.ref wl,b.e,rfl,⟨_,SqL.of b.ew⟩,_,.inl (g1.seq hS),fun d hd=>?_⟩
 have g2:=aJ hd (.lst (ds.map V.int))
 have e2:=aB (H:=H1) (a:=d) (o:= .lst (ds.map V.int))
 generalize upd H1 d (.lst (ds.map V.int))=H2 at g2 e2
 refine⟨aL rfl,fun t ht=>?_⟩
 have g3:=aJ ht (.tup [.int n,.ref d])
 have e3:=aB (H:=H2) (a:=t) (o:= .tup [.int n,.ref d])
 generalize upd H2 t (.tup [.int n,.ref d])=H3 at g3 e3
 have g13:=g2.trans g3
 have nd_:¬ o d:=fun z=>b.al d z hd
 have b3:=b.move (H':=H3) fun x v e _=>g13 x v e
 have hwl:=b.fw.len
 refine⟨_,b3.ew,bW (by omega),?_⟩
 obtain⟨k1,k2,k3,k4,k5,k6⟩:=vP (ys:=ws++[.ref t]) b3 (.inl rfl)
 have nwl:d≠wl:=fun z=>nd_ (z▸b.ow)
 have nul:d≠ul:=fun z=>nd_ (z▸b.ou)
 have en:((n.toNat:Nat):Int)=n:=by
  have:=fG.mp ok.1
  omega
 refine q1 ok _ d (g1.none hd) ⟨dx,ch,wl,ul,ct,ws++[.ref t],us,k2.trans b3.e,k3.trans b3.ec,aB,?_,by rw[aK (Ne.symm b.ne)];exact b3.eu,(k5 b3.fu).imp (fun x v e _=>e) (fun x z=>⟨.inl z.1,z.2⟩),(let ⟨d,e⟩:=b3.et;⟨d,k4.trans e⟩),.inl b.op,.inl b.ow,.inl b.ou,.inl b.ot,b.ne,fun x hx=>?_⟩ (fun x v e z=>k1 x v (g13 x v (g1 x v e)) z)
 ·refine((k5 b3.fw).imp (fun x v e _=>e) (fun x z=>⟨.inl z.1,z.2⟩)).snoc ⟨d,?_,by rw[aK nwl];exact g3 _ _ e2,.inr rfl,nwl,nul⟩
  show _=some (HO.tup [.int ((n.toNat:Nat):Int),.ref d])
  rw[en]
  exact k1.tup e3
 ·rcases hx with hx | hx
  ·exact k6 x hx
  ·have hx':x=d:=hx
   rw[hx',aK nwl,g3 _ _ e2];simp
variable (Zdh:FB P w K mg base (CX0) 1 "copies" ZjJ Zld ["frames"] (a3Z K))
include Z3 in
theorem Zl5 (F0:GFm K mg "copies" ZlB ZjJ Zld):type_of% Zdh:=by
 refine fbM ["frames"] F0 fun Sc0=>F0.F.ok Sc0 (fun vs H Q E h=>?_) fun cdv A outer s H vs Q E hr h=>?_
 ·obtain⟨a,ts,fs,o,rfl,_⟩:=h
  rfl
 obtain⟨a,ts,fs,o,rfl,e,hF,hl,q⟩:=h
 have nd:=Sc0.nd
 refine⟨_,(aG (aM (gH rfl (ix:=[]) (dC (dv 0)) (fun C fp s0 H0 at0=>fB) (fun C fp s0 H0 at0=>(cF (aA (bI (lK (K:=K)) (dv 0) aH (fun _ _=>rfl)) (aA (cU (a0M (K:=K)) rfl Z3 fQ (aA (bI (lK (K:=K)) (dv 0) aH (fun _ _=>rfl)) aD)) aD)))) rfl rfl (by rfl) (show ([".0","frame"]:List Str).Nodup by decide +kernel)))),?_⟩
 have tl:=hF.len
 refine⟨⟨_,SqL.of e⟩,dX (xs:=ts) (fun i ys H'=>Same H H'/\eN H H' ys (fs.take i)) ?_ ⟨Same.refl _,.nil⟩ (fun i ys H' _ z=>SqL.of (z.1 _ _ e)) ?_ ?_⟩
 ·rintro i ys H' hi ⟨_,n⟩
  refine bW ?_
  rw[n.len,Yo]
  omega
 ·rintro i x ys H' hx ⟨g,n⟩
  obtain⟨t,f,rfl,hf,d,e1,e2,e3⟩:=hF.get hx
  refine⟨_,_,SqT.of (g _ _ e1),rfl,_,_,SqT.of (g _ _ e1),rfl,_,.inl (SqL.of (g _ _ e2)),fun d' hd'=>?_⟩
  have g2:=aJ hd' (.lst (f.2.map V.int))
  have e5:=aB (H:=H') (a:=d') (o:= .lst (f.2.map V.int))
  generalize upd H' d' (.lst (f.2.map V.int))=H2 at g2 e5
  refine⟨aL rfl,fun t' ht'=>?_⟩
  have g3:=aJ ht' (.tup [.int ((f.1:Nat):Int),.ref d'])
  refine⟨g.trans (g2.trans g3),?_⟩
  have hi:i<fs.length:=(Ye.mp hf).1
  have ef:fs[i]=f:=(Ye.mp hf).2
  rw[Yh hi,ef]
  exact eN.snoc ((g.trans g2).none ht') (g.none hd') aB (g3 _ _ e5) (n.same (g2.trans g3))
 rintro ys H' ⟨g,n⟩ l hl'
 have g2:=aJ hl' (.lst ys)
 rw[tl,Ym (Yd _)]at n
 exact q l ys _ (g.none hl') (g.trans g2) aB (n.same g2)
variable (Zdo:MB P w K mg base (CX0) 2 ZfC ZjV ["self"] (b5D CA))
include Za ZJ Zdh in
theorem ZlL (F0:Fun K "got" "Post.got" Zke ZfC ZjV):type_of% Zdo:=by
 refine mbM ["self"] F0 fun Sc0=>F0.ok Sc0 (fun vs H Q E h=>?_) fun cdv A outer s H vs Q E hr h=>?_
 ·obtain⟨p,nwf,S,o,rfl,_⟩:=h
  rfl
 obtain⟨p,nwf,S,o,rfl,⟨dx,ch,wl,ul,ct,ws,us,b⟩,hl,q⟩:=h
 have nd:=Sc0.nd
 refine⟨_,(aG (aM (aU Zdh.1 (hr.mono (by decide)) rfl Zdh.2.2.2 Zdh.2.2.1 Zdh.2.1 .nil aN (aA (aP Za ZJ (dv 0)) aD)))),?_⟩
 exact⟨dx,_,.ref ul,b.e,rfl,ul,us,S.up,_,rfl,b.eu,b.fu,hl,q⟩
variable (ZD:FB P w K mg base (CX0) 3 "unless_off" Zf3 ZiB ["post","word","stance"] (a3E CA))
include Zk8 Za ZbK Zer Zcj in
theorem Zk3 (F0:GFm K mg "unless_off" ZiS Zf3 ZiB):type_of% ZD:=by
 refine fbM ["post","word","stance"] F0 fun Sc0=>F0.F.ok Sc0 (fun vs H Q E h=>?_) fun cdv A outer s H vs Q E hr h=>?_
 ·obtain⟨p,nwf,S,o,w,nx,rfl,_⟩:=h
  rfl
 obtain⟨p,nwf,S,o,w,nx,rfl,bd,q1,q2⟩:=h
 have nd:=Sc0.nd
 refine⟨_,(aG (aM (cG (dO (cN (bR Za ZbK Zcj.1 (hr.mono (by decide)) Zcj.2 .nil aN (dv 0))) (cF (aA bA (aA (a4S Zer rfl Zk8) aD))) (cF (aA (dv 1) (aA (dv 2) aD))))))),?_⟩
 refine⟨fun x H'=>Q x H',?_,fun x H' z=>z⟩
 obtain⟨dx,ch,wl,ul,ct,ws,us,b⟩:=id bd
 refine⟨⟨dx,_,b.e,rfl⟩,p,nwf,S,o,rfl,bd,?_⟩
 conv=>whnf
 refine bN (fun c=>?_) (fun c=>?_)
 ·have c1:18<=S.tot:=dec_true c
  refine fun x dx' hx hdx hne=>⟨aL rfl,fun t ht=>?_⟩
  have g1:Same H (upd (upd H dx' (.own x)) x (.ins CA.off dx' [])):=fun b u q=>by rw[aK (aQ q hx),aK (aQ q hdx)];exact q
  have g2:=aJ ht (.tup [.str "off",.ref x])
  exact q2 c1 t x dx' _ (g1.trans g2) hx (g2 _ _ aB) aB
 ·have c1:¬ 18<=S.tot:=dec_false c
  refine⟨aL rfl,fun t ht=>?_⟩
  exact q1 c1 t _ (aJ ht _) aB
variable (Zm:FB P w K mg base (CX0) 4 "fault_of" Zhv ZjZ ["post","spoke"] (a7O CA))
include ZcQ Ze2 Zd Za ZaY Zam Zj ZaF Zao ZD in
theorem ZlP (F0:GFm K mg "fault_of" Zki Zhv ZjZ):type_of% Zm:=by
 refine fbM ["post","spoke"] F0 fun Sc0=>F0.F.ok Sc0 (fun vs H Q E h=>?_) fun cdv A outer s H vs Q E hr h=>?_
 ·obtain⟨p,nwf,S,o,sp,rfl,_⟩:=h
  rfl
 obtain⟨p,nwf,S,o,sp,rfl,bd,q⟩:=h
 have nd:=Sc0.nd
 refine⟨_,(aF (bC (bQ Zd Zam ZaF.1 (hr.mono (by decide)) ZaF.2 .nil aN (aP Za Zj (dv 0)) (aA (dv 1) aD))) (aG (aM (aU ZD.1 (hr.mono (by decide)) rfl ZD.2.2.2 ZD.2.2.1 ZD.2.1 .nil aN (aA (dv 0) (aA bA (aA (cD ZaY Zao.1 (hr.mono (by decide)) rfl ZcQ Zao.2 .nil aN (aA (bD (v:= .int 6) rfl Ze2 ⟨_,rfl⟩) (aA (b3C (dv 1)) aD))) aD))))))),?_⟩
 obtain⟨dx,ch,wl,ul,ct,ws,us,b⟩:=id bd
 obtain⟨dc,ec⟩:=id b.et
 refine⟨dx,_,.ref ct,b.e,rfl,⟨dc,_,ec,rfl⟩,ct,S.tot,sp,rfl,b.et,fun H1 c1 k1=>?_⟩
 obtain⟨b1,kk1⟩:=Bd.count b c1 k1
 generalize ht:mvd S.tot (if sp=true then 8 else 1)=n at b1 c1
 refine fun x dx' hx hdx hne=>⟨x,dx',_,_,rfl,aB,fun H2 eH=>⟨rfl,?_⟩⟩
 have g12:Same H1 H2:=by rw[eH];exact bK hx hdx
 have e2:H2 x=some (.ins CA.flag dx' [("left",.int ((6:Nat):Int)),("may_blame",.bl (!sp))]):=by rw[eH];exact aB
 clear eH
 refine⟨p,nwf,{ S with tot:=n },o,"fault",x,rfl,b1.move fun y v e _=>g12 y v e,fun c t H3 g3 e3=>?_,fun c t nw dy H3 g3 hn e4 e3=>?_⟩
 ·have c1:¬ 18<=n:=c
  refine q t H3 ⟨x,fun y=>y=x,?_,?_,?_,?_,?_⟩
  ·unfold cA cT;rw[ht,if_neg c1];exact e3
  ·unfold cA cT;rw[ht,if_neg c1];exact(b1.move fun y v e _=>g3 y v (g12 y v e)).now rfl rfl rfl rfl rfl rfl
  ·unfold cA cT;rw[ht,if_neg c1];exact gG (g3 _ _ e2) ⟨dx',g3 _ _ e2⟩
  ·intro y hy
   have hy':y=x:=hy
   rw[hy']
   exact nJ b1 kk1 hx
  ·exact fun y v e z=>g3 y v (g12 y v (kk1 y v e z))
 ·have c1:18<=n:=c
  refine q t H3 ⟨nw,fun y=>y=nw,?_,?_,?_,?_,?_⟩
  ·unfold cA cT;rw[ht,if_pos c1];exact e3
  ·unfold cA cT;rw[ht,if_pos c1];exact(b1.move fun y v e _=>g3 y v (g12 y v e)).now rfl rfl rfl rfl rfl rfl
  ·unfold cA cT;rw[ht,if_pos c1];exact gG e4 ⟨dy,e4⟩
  ·intro y hy
   have hy':y=nw:=hy
   rw[hy']
   exact nJ b1 kk1 (g12.none hn)
  ·exact fun y v e z=>g3 y v (g12 y v (kk1 y v e z))
variable (Zbw:FB P w K mg base (CX0) 4 "refusal_of" Zf2 ZiA ["post","spoke"] (a0V CA))
include Zb0 Zd Za Zas Zam Zj ZaF ZY ZD in
theorem Zk2 (F0:GFm K mg "refusal_of" ZiR Zf2 ZiA):type_of% Zbw:=by
 refine fbM ["post","spoke"] F0 fun Sc0=>F0.F.ok Sc0 (fun vs H Q E h=>?_) fun cdv A outer s H vs Q E hr h=>?_
 ·obtain⟨p,nwf,S,o,sp,rfl,_⟩:=h
  rfl
 obtain⟨p,nwf,S,o,sp,rfl,bd,q⟩:=h
 have nd:=Sc0.nd
 refine⟨_,(aF (bC (bQ Zd Zam ZaF.1 (hr.mono (by decide)) ZaF.2 .nil aN (aP Za Zj (dv 0)) (aA (dv 1) aD))) (aG (aM (aU ZD.1 (hr.mono (by decide)) rfl ZD.2.2.2 ZD.2.2.1 ZD.2.1 .nil aN (aA (dv 0) (aA bA (aA (cD Zas ZY.1 (hr.mono (by decide)) rfl Zb0 ZY.2 .nil aN (aA eQ aD)) aD))))))),?_⟩
 obtain⟨dx,ch,wl,ul,ct,ws,us,b⟩:=id bd
 obtain⟨dc,ec⟩:=id b.et
 refine⟨dx,_,.ref ct,b.e,rfl,⟨dc,_,ec,rfl⟩,ct,S.tot,sp,rfl,b.et,fun H1 c1 k1=>?_⟩
 obtain⟨b1,kk1⟩:=Bd.count b c1 k1
 generalize ht:mvd S.tot (if sp=true then 8 else 1)=n at b1 c1
 refine fun x dx' hx hdx hne=>⟨x,dx',_,rfl,aB,fun H2 eH=>⟨rfl,?_⟩⟩
 have g12:Same H1 H2:=by rw[eH];exact bK hx hdx
 have e2:H2 x=some (.ins CA.settles dx' [("may_blame",.bl false)]):=by rw[eH];exact aB
 clear eH
 refine⟨p,nwf,{ S with tot:=n },o,"refuses",x,rfl,b1.move fun y v e _=>g12 y v e,fun c t H3 g3 e3=>?_,fun c t nw dy H3 g3 hn e4 e3=>?_⟩
 ·have c1:¬ 18<=n:=c
  refine q t H3 ⟨x,fun y=>y=x,?_,?_,?_,?_,?_⟩
  ·unfold cJ cT;rw[ht,if_neg c1];exact e3
  ·unfold cJ cT;rw[ht,if_neg c1];exact(b1.move fun y v e _=>g3 y v (g12 y v e)).now rfl rfl rfl rfl rfl rfl
  ·unfold cJ cT;rw[ht,if_neg c1];exact gG (g3 _ _ e2) ⟨dx',g3 _ _ e2⟩
  ·intro y hy
   have hy':y=x:=hy
   rw[hy']
   exact nJ b1 kk1 hx
  ·exact fun y v e z=>g3 y v (g12 y v (kk1 y v e z))
 ·have c1:18<=n:=c
  refine q t H3 ⟨nw,fun y=>y=nw,?_,?_,?_,?_,?_⟩
  ·unfold cJ cT;rw[ht,if_pos c1];exact e3
  ·unfold cJ cT;rw[ht,if_pos c1];exact(b1.move fun y v e _=>g3 y v (g12 y v e)).now rfl rfl rfl rfl rfl rfl
  ·unfold cJ cT;rw[ht,if_pos c1];exact gG e4 ⟨dy,e4⟩
  ·intro y hy
   have hy':y=nw:=hy
   rw[hy']
   exact nJ b1 kk1 (g12.none hn)
  ·exact fun y v e z=>g3 y v (g12 y v (kk1 y v e z))
variable (Zcn:FB P w K mg base (CX0) 4 "blame_of" Zht ZjX ["post"] (a7S CA))
include Zb0 Zd Za Zas ZbH Zj Zcg ZY ZD in
theorem ZlN (F0:GFm K mg "blame_of" Zkg Zht ZjX):type_of% Zcn:=by
 refine fbM ["post"] F0 fun Sc0=>F0.F.ok Sc0 (fun vs H Q E h=>?_) fun cdv A outer s H vs Q E hr h=>?_
 ·obtain⟨p,nwf,S,o,rfl,_⟩:=h
  rfl
 obtain⟨p,nwf,S,o,rfl,bd,q⟩:=h
 have nd:=Sc0.nd
 refine⟨_,(aF (bC (bR Zd ZbH Zcg.1 (hr.mono (by decide)) Zcg.2 .nil aN (aP Za Zj (dv 0)))) (aG (aM (aU ZD.1 (hr.mono (by decide)) rfl ZD.2.2.2 ZD.2.2.1 ZD.2.1 .nil aN (aA (dv 0) (aA bA (aA (cD Zas ZY.1 (hr.mono (by decide)) rfl Zb0 ZY.2 .nil aN (aA eQ aD)) aD))))))),?_⟩
 obtain⟨dx,ch,wl,ul,ct,ws,us,b⟩:=id bd
 obtain⟨dc,ec⟩:=id b.et
 refine⟨dx,_,.ref ct,b.e,rfl,⟨dc,_,ec,rfl⟩,ct,S.tot,rfl,b.et,fun H1 c1 k1=>?_⟩
 obtain⟨b1,kk1⟩:=Bd.count b c1 k1
 generalize ht:mvd S.tot 8=n at b1 c1
 refine fun x dx' hx hdx hne=>⟨x,dx',_,rfl,aB,fun H2 eH=>⟨rfl,?_⟩⟩
 have g12:Same H1 H2:=by rw[eH];exact bK hx hdx
 have e2:H2 x=some (.ins CA.settles dx' [("may_blame",.bl false)]):=by rw[eH];exact aB
 clear eH
 refine⟨p,nwf,{ S with tot:=n },o,"",x,rfl,b1.move fun y v e _=>g12 y v e,fun c t H3 g3 e3=>?_,fun c t nw dy H3 g3 hn e4 e3=>?_⟩
 ·have c1:¬ 18<=n:=c
  refine q t H3 ⟨x,fun y=>y=x,?_,?_,?_,?_,?_⟩
  ·unfold eZ cT;rw[ht,if_neg c1];exact e3
  ·unfold eZ cT;rw[ht,if_neg c1];exact(b1.move fun y v e _=>g3 y v (g12 y v e)).now rfl rfl rfl rfl rfl rfl
  ·unfold eZ cT;rw[ht,if_neg c1];exact gG (g3 _ _ e2) ⟨dx',g3 _ _ e2⟩
  ·intro y hy
   have hy':y=x:=hy
   rw[hy']
   exact nJ b1 kk1 hx
  ·exact fun y v e z=>g3 y v (g12 y v (kk1 y v e z))
 ·have c1:18<=n:=c
  refine q t H3 ⟨nw,fun y=>y=nw,?_,?_,?_,?_,?_⟩
  ·unfold eZ cT;rw[ht,if_pos c1];exact e3
  ·unfold eZ cT;rw[ht,if_pos c1];exact(b1.move fun y v e _=>g3 y v (g12 y v e)).now rfl rfl rfl rfl rfl rfl
  ·unfold eZ cT;rw[ht,if_pos c1];exact gG e4 ⟨dy,e4⟩
  ·intro y hy
   have hy':y=nw:=hy
   rw[hy']
   exact nJ b1 kk1 (g12.none hn)
  ·exact fun y v e z=>g3 y v (g12 y v (kk1 y v e z))
variable (Zbb:FB P w K mg base (CXR P w) 1 "check_votes" Zfw ZhP ["votes"] (a7J ZbN))
include Zc5 Zz Zdz Z0 in
theorem ZkA (F0:GFm K mg "check_votes" Zh7 Zfw ZhP):type_of% Zbb:=by
 refine fbM ["votes"] F0 fun Sc0=>F0.F.okR Sc0 (fun vs H Q E h=>?_) fun cdv A outer s H vs Q E hr h=>?_
 ·obtain⟨v,rfl,_⟩:=h
  rfl
 obtain⟨v,rfl,q1,q2⟩:=h
 have nd:=Sc0.nd
 refine⟨_,(aG (bH (aY a2N (dv 0) (bD (v:= .ref Zkj) rfl Zc5 rfl) rfl) (aG (dN YR Zz Z0 (aA bA aD))) aW)),?_⟩
 refine⟨[1,3,5],.inr (Zdz.sq H),?_⟩
 conv=>whnf
 refine bN (fun c=>?_) (fun c=>?_)
 ·refine⟨aL rfl,q2 fun z=>?_⟩
  have c1:(!decide (v∈ [(1:Int),3,5]))=true:=c
  rw[(rT v).mpr z]at c1
  cases c1
 ·refine q1 ((rT v).mp ?_)
  cases e:decide (v∈ [(1:Int),3,5]) with
  |true=>rfl
  |false=>exact absurd (show (!decide (v∈ [(1:Int),3,5]))=true by rw[e];rfl) c
variable (Za0:FB P w K mg base (CXR P w) 2 "check_choice" ZeM Zg7 ["choice"] (a4A K ZbN))
include Zz Z0 Zaq in
theorem Zkb (F0:GFm K mg "check_choice" Zhl ZeM Zg7):type_of% Za0:=by
 refine fbM ["choice"] F0 fun Sc0=>F0.F.okR Sc0 (fun vs H Q E h=>?_) fun cdv A outer s H vs Q E hr h=>?_
 ·obtain⟨a,ns,rfl,_⟩:=h
  rfl
 obtain⟨a,ns,rfl,hS,hl,q1,q2⟩:=h
 have nd:=Sc0.nd
 refine⟨_,(aG (bH (fK (cN (aU Zaq.1 (hr.mono (by decide)) rfl Zaq.2.2.2 Zaq.2.2.1 Zaq.2.1 .nil aN (aA (dv 0) aD)))) (aG (dN YR Zz Z0 (aA bA aD))) aW)),?_⟩
 refine⟨a,ns,rfl,.inr hS,hl,fun H1 g1=>?_⟩
 conv=>whnf
 refine bN (fun c=>?_) (fun c=>?_)
 ·have c1:¬ ns.all byt=true:=fun z=>by
   have:(!ns.all byt)=true:=c
   rw[z]at this;cases this
  exact⟨aL rfl,q2 c1 _ g1⟩
 ·have c1:ns.all byt=true:=by
   cases e:ns.all byt with
   |true=>rfl
   |false=>exact absurd (show (!ns.all byt)=true by rw[e];rfl) c
  exact q1 c1 _ g1
variable (ZcV:MB P w K mg base (CXR P w) 4 ZeT Zi5 ["self","choice","votes"] (wU K CA ZbN))
include Zc5 Zz ZiT ZdG Za ZdU ZaT Zj Zn ZaA ZJ Z7 Zab Zcx Zap Zbb Za0 in
theorem Zlk (F0:Fun K "__init__" "Post.__init__" Zjq ZeT Zi5):type_of% ZcV:=by
 refine mbM ["self","choice","votes"] F0 fun Sc0=>F0.okR Sc0 (fun vs H Q E h=>?_) fun cdv A outer s H vs Q E hr h=>?_
 ·obtain⟨a,dx,ch,m1,m2,v,rfl,_⟩:=h
  rfl
 obtain⟨a,dx,ch,m1,m2,v,rfl,e,ec,q1,q2⟩:=h
 have nd:=Sc0.nd
 refine⟨_,(aF (bC (aU Za0.1 (hr.mono (by decide)) rfl Za0.2.2.2 Za0.2.2.1 Za0.2.1 .nil (iJ fun _ _ _ z=>z) (aA (dv 1) aD))) (aF (bC (aU Zbb.1 (hr.mono (by decide)) rfl Zbb.2.2.2 Zbb.2.2.1 Zbb.2.1 .nil (iJ fun _ _ _ z=>z) (aA (dv 2) aD))) (aF (bO Za ZaA (dv 0) (dv 1)) (aF (bO Za Z7 (dv 0) (dv 2)) (aF (bO Za Zn (dv 0) (eE aD)) (aF (bO Za ZJ (dv 0) (eE aD)) (aF (bO Za Zj (dv 0) (lR ZdU Zcx.1 (hr.mono (by decide)) rfl ZiT Zcx.2 .nil aN)) (aG (bO Za Zab (dv 0) (cD ZaT Zap.1 (hr.mono (by decide)) rfl ZdG Zap.2 .nil aN (aA aH aD))))))))))),?_⟩
 refine⟨ch, [m1,m2],rfl,SqT.of ec,(show 2<=500 by decide),fun hm H1 g1=>?_,fun no H1 g1=>?_⟩
 rotate_left
 ·refine q2 (fun ok=>no ?_) H1 fun x u _ h=>g1 x u h
  rw[XS,XS,List.all_nil,ok.1,ok.2.1];rfl
 rw[XS,XS,List.all_nil,Bool.and_true,XJ]at hm
 refine⟨v,rfl,fun hv=>?_,fun no=>q2 (fun ok=>no ok.2.2) H1 fun x u _ h=>g1 x u h⟩
 have ea:=g1 _ _ e
 refine⟨dx, [],ea,by decide,?_⟩
 refine⟨dx,_,aB,(show 1<1000 by decide),?_⟩
 rw[jE]
 have m1_:Mid H a (.ins CA.post dx [("choice",.ref ch),("votes",.int v)]) [] (upd H1 a (.ins CA.post dx (fJ "votes" (.int v) (fJ "choice" (.ref ch) [])))):=⟨aB,fun x u hx h=>by rw[aK hx];exact g1 x u h,(fun _ z=>nomatch z),Jk⟩
 generalize upd H1 a _=Ha at m1_
 refine⟨aL rfl,fun wl hwl=>?_⟩
 have m2_:=m1_.add hwl (aJ hwl (.lst [])) aB
 generalize upd Ha wl (.lst [])=Hb at m2_
 refine⟨dx,_,m2_.ea,(show 2<1000 by decide),?_⟩
 have m3_:Mid H a (.ins CA.post dx [("choice",.ref ch),("votes",.int v),("waiting",.ref wl)]) _ (upd Hb a (.ins CA.post dx (fJ "waiting" (.ref wl) [("choice",.ref ch),("votes",.int v)]))):=m2_.set _
 generalize upd Hb a _=Hb2 at m3_
 refine⟨aL rfl,fun ul hul=>?_⟩
 have m4_:=m3_.add hul (aJ hul (.lst [])) aB
 generalize upd Hb2 ul (.lst [])=Hc at m4_
 refine⟨dx,_,m4_.ea,(show 3<1000 by decide),?_⟩
 have m5_:Mid H a (.ins CA.post dx [("choice",.ref ch),("votes",.int v),("waiting",.ref wl),("handed_up",.ref ul)]) _ (upd Hc a (.ins CA.post dx (fJ "handed_up" (.ref ul) [("choice",.ref ch),("votes",.int v),("waiting",.ref wl)]))):=m4_.set _
 generalize upd Hc a _=Hc2 at m5_
 refine fun ct dc hct hdc hne=>⟨ct,dc,rfl,aB,rfl,?_⟩
 have m6_:=m5_.add hct (bK (C:=CA.count) (fs:=ctF 0) hct hdc) aB
 generalize upd (upd (upd Hc2 dc (.own ct)) ct (.ins CA.count dc [])) ct (.ins CA.count dc (ctF 0))=Hd at m6_
 refine⟨dx,_,m6_.ea,(show 4<1000 by decide),?_⟩
 have m7_:Mid H a (.ins CA.post dx [("choice",.ref ch),("votes",.int v),("waiting",.ref wl),("handed_up",.ref ul),("tally",.ref ct)]) _ (upd Hd a (.ins CA.post dx (fJ "tally" (.ref ct) [("choice",.ref ch),("votes",.int v),("waiting",.ref wl),("handed_up",.ref ul)]))):=m6_.set _
 generalize upd Hd a _=Hd2 at m7_
 refine fun nw dn hnw hdn hne2=>⟨nw,dn,_,rfl,aB,fun H2 eH=>⟨rfl,?_⟩⟩
 have m8_:=m7_.add (Hy:=H2) hnw (by rw[eH];exact bK hnw hdn) (by rw[eH];exact aB)
 clear eH
 refine⟨dx,_,m8_.ea,(show 5<1000 by decide),?_⟩
 have m9_:=m8_.set (.ins CA.post dx (pF ch v.toNat wl ul ct nw))
 have ev:v=((v.toNat:Nat):Int):=by omega
 have eF:(HO.ins CA.post dx (fJ "now" (.ref nw) [("choice",.ref ch),("votes",.int v),("waiting",.ref wl),("handed_up",.ref ul),("tally",.ref ct)]))= .ins CA.post dx (pF ch v.toNat wl ul ct nw):=by
  show HO.ins CA.post dx [("choice",.ref ch),("votes",.int v),("waiting",.ref wl),("handed_up",.ref ul),("tally",.ref ct),("now",.ref nw)]=_
  rw[ev,YI]
 rw[eF]
 generalize upd H2 a _=Hz at m9_
 have hnw':=m9_.nw (nw,_) (.head _)
 have hct':=m9_.nw (ct,_) (.tail _ (.head _))
 have hul':=m9_.nw (ul,_) (.tail _ (.tail _ (.head _)))
 have hwl':=m9_.nw (wl,_) (.tail _ (.tail _ (.tail _ (.head _))))
 have nd9:=m9_.nd
 have nwu:wl≠ul:=fun z=>by
  rw[z]at nd9
  exact absurd nd9 (by simp)
 have nch:ch≠a:=fun z=>by rw[z,e]at ec;cases ec
 have hb1:=fG.mp hm.1
 have hb2:=fG.mp hm.2
 have ec1:((m1.toNat:Nat):Int)=m1:=by omega
 have ec2:((m2.toNat:Nat):Int)=m2:=by omega
 refine q1 ⟨hm.1,hm.2,hv⟩ Hz (fun x=>(x=a\/x=wl\/x=ul\/x=ct)\/x=nw) ⟨nw,fun x=>x=a\/x=wl\/x=ul\/x=ct,fun x=>x=nw,⟨dx,ch,wl,ul,ct, [], [],m9_.ea,?_,hwl'.2.2,.nil,hul'.2.2,.nil,⟨dc,hct'.2.2⟩,.inl rfl,.inr (.inl rfl),.inr (.inr (.inl rfl)),.inr (.inr (.inr rfl)),nwu,?_⟩,gG hnw'.2.2 ⟨dn,hnw'.2.2⟩,?_,⟨?_,(fun _ z=>nomatch z),trivial⟩,fun x hx=>hx,?_⟩ ?_ ?_
 ·show Hz ch=some (.tup [.int ((m1.toNat:Nat):Int),.int ((m2.toNat:Nat):Int)])
  rw[ec1,ec2]
  exact m9_.kp ch _ nch ec
 ·rintro x (rfl | rfl | rfl | rfl)
  ·rw[m9_.ea];simp
  ·rw[hwl'.2.2];simp
  ·rw[hul'.2.2];simp
  ·rw[hct'.2.2];simp
 ·rintro x hx hy
  have hy':x=nw:=hy
  rcases hx with rfl | rfl | rfl | rfl
  ·exact hnw'.2.1 hy'.symm
  ·rw[hy']at nd9;exact absurd nd9 (by simp)
  ·rw[hy']at nd9;exact absurd nd9 (by simp)
  ·rw[hy']at nd9;exact absurd nd9 (by simp)
 ·show v.toNat<=5
  omega
 ·rintro x ((rfl | rfl | rfl | rfl) | rfl)
  ·rw[m9_.ea];simp
  ·rw[hwl'.2.2];simp
  ·rw[hul'.2.2];simp
  ·rw[hct'.2.2];simp
  ·rw[hnw'.2.2];simp
 ·rintro x ((rfl | rfl | rfl | rfl) | rfl)
  ·exact .inl rfl
  ·exact .inr hwl'.1
  ·exact .inr hul'.1
  ·exact .inr hct'.1
  ·exact .inr hnw'.1
 ·exact m9_.kp
variable (Za4:MB P w K mg base (CX0) 3 ZeP Zi1 ["self","post"] (cM CA 0))
include ZdV ZL Za Za7 Zbe Z6 ZbD Zbh in
theorem Zlg (F0:Fun K "says" "Free.says" Zjm ZeP Zi1):type_of% Za4:=by
 refine mbM ["self","post"] F0 fun Sc0=>F0.ok Sc0 (fun vs H Q E h=>?_) fun cdv A outer s H vs Q E hr h=>?_
 ·obtain⟨nw,p,nwf,S,ob,os,rfl,_⟩:=h
  rfl
 obtain⟨nw,p,nwf,S,ob,os,rfl,tg,bd,st,wf,q⟩:=h
 have nd:=Sc0.nd
 refine⟨_,(aF (bH (fK (cN (bR Za Za7 Zbh.1 (hr.mono (by decide)) Zbh.2 .nil aN (dv 1)))) (aG (aM aH)) aW) (aG (aM (cG (dO (PW.pt (jG (cN (bR Za Zbe ZbD.1 (hr.mono (by decide)) ZbD.2 .nil aN (dv 1))) (iV (aY wI (aP ZL Z6 (dv 0)) (bD (v:= .int 8) rfl ZdV ⟨_,rfl⟩) (aV _))))) aH aH))))),?_⟩
 obtain⟨sa,on,al⟩:=id st
 cases en:S.now with
 | free k =>
  rw[en]at sa
  obtain⟨dx,e⟩:=sa
  obtain⟨dp,ch,wl,ul,ct,ws,us,b⟩:=id bd
  have hs:=uU en
  refine⟨⟨dp,_,b.e,rfl⟩,p,nwf,S,ob,rfl,bd,?_⟩
  conv=>whnf
  refine bN (fun c=>?_) (fun c=>?_)
  ·have c1:S.wt= []:=by
    have:(!decide (0<(S.wt.length:Int)))=true:=c
    cases ew:S.wt with
    |nil=>rfl
    | cons f r=>
     rw[ew,Yl (by rw[YN];omega)]at this
     cases this
   rw[if_pos c1]at hs
   rw[hs]at q
   exact q
  have c1:¬ S.wt= []:=fun z=>c (by
   show (!decide (0<(S.wt.length:Int)))=true
   rw[z];rfl)
  rw[if_neg c1]at hs
  refine⟨fun x H'=>x= .int (bL S)/\H'=H,?_,fun x H' z=>by rw[z.1,z.2];exact q⟩
  refine⟨⟨dp,_,b.e,rfl⟩,p,nwf,S,ob,rfl,bd,?_⟩
  conv=>whnf
  refine bN (fun y=>?_) (fun y=>?_)
  ·have y1:12<=S.tot:=dec_true y
   refine⟨dx,_,_,e,rfl,?_⟩
   conv=>whnf
   refine bN (fun z=>?_) (fun z=>?_)
   ·have z1:((k:Nat):Int)<8:=dec_true z
    rw[hs,if_pos ⟨y1,by omega⟩]
    exact⟨rfl,rfl⟩
   ·have z1:¬ ((k:Nat):Int)<8:=dec_false z
    rw[hs,if_neg fun w=>z1 (by omega)]
    exact⟨rfl,rfl⟩
  ·have y1:¬ 12<=S.tot:=dec_false y
   refine xQ ⟨?_,rfl⟩
   rw[hs,if_neg fun w=>y1 w.1]
 |speaks n ds k=>rw[en]at tg;cases tg
 |reads h=>rw[en]at tg;cases tg
 |tlS v c=>rw[en]at tg;cases tg
 |tlR n ds v c=>rw[en]at tg;cases tg
 |flag l m=>rw[en]at tg;cases tg
 |settles m=>rw[en]at tg;cases tg
 |rests l=>rw[en]at tg;cases tg
 |off  =>rw[en]at tg;cases tg
variable (Zcl:MB P w K mg base (CX0) 1 ZdR ZhJ ["self","post"] (cM CA 1))
include Zi ZH ZB in
theorem Zku (F0:Fun K "says" "Speaks.says" Zh1 ZdR ZhJ):type_of% Zcl:=by
 refine mbM ["self","post"] F0 fun Sc0=>F0.ok Sc0 (fun vs H Q E h=>?_) fun cdv A outer s H vs Q E hr h=>?_
 ·obtain⟨nw,p,nwf,S,ob,os,rfl,_⟩:=h
  rfl
 obtain⟨nw,p,nwf,S,ob,os,rfl,tg,bd,st,wf,q⟩:=h
 have nd:=Sc0.nd
 refine⟨_,(aG (aM (bI cR (aP Zi ZH (dv 0)) (aP Zi ZB (dv 0)) (fun _ _=>rfl)))),?_⟩
 obtain⟨sa,on,al⟩:=id st
 cases en:S.now with
 |free k=>rw[en]at tg;cases tg
 | speaks n ds k=>
  rw[en]at sa
  obtain⟨dx,wa,r,st,ks,t0,e,ew,_⟩:=sa
  have hn:=wf.now
  rw[en]at hn
  obtain⟨_,_,hk,_⟩:=hn
  refine⟨dx,_,_,e,rfl,dx,_,_,e,rfl,_,_,SqL.of ew,uE hk,?_⟩
  have:bL S=(wr n ds)[k]:=by
   unfold bL
   rw[en]
   show (wr n ds).getD k 0=_
   rw[Yg,Yb hk]
   rfl
  rw[this]at q
  exact q
 |reads h=>rw[en]at tg;cases tg
 |tlS v c=>rw[en]at tg;cases tg
 |tlR n ds v c=>rw[en]at tg;cases tg
 |flag l m=>rw[en]at tg;cases tg
 |settles m=>rw[en]at tg;cases tg
 |rests l=>rw[en]at tg;cases tg
 |off  =>rw[en]at tg;cases tg
variable (Zcy:MB P w K mg base (CX0) 1 Zeh Zir ["self","post"] (cM CA 2))
theorem ZkT (F0:Fun K "says" "Reads.says" ZiI Zeh Zir):type_of% Zcy:=by
 refine mbM ["self","post"] F0 fun Sc0=>F0.ok Sc0 (fun vs H Q E h=>?_) fun cdv A outer s H vs Q E hr h=>?_
 ·obtain⟨nw,p,nwf,S,ob,os,rfl,_⟩:=h
  rfl
 obtain⟨nw,p,nwf,S,ob,os,rfl,tg,bd,st,wf,q⟩:=h
 have nd:=Sc0.nd
 refine⟨_,(aG (aM aH)),?_⟩
 obtain⟨sa,on,al⟩:=id st
 cases en:S.now with
 |free k=>rw[en]at tg;cases tg
 |speaks n ds k=>rw[en]at tg;cases tg
 | reads h=>
  rw[en]at sa
  have:bL S=1:=by unfold bL;rw[en]
  rw[this]at q
  exact q
 |tlS v c=>rw[en]at tg;cases tg
 |tlR n ds v c=>rw[en]at tg;cases tg
 |flag l m=>rw[en]at tg;cases tg
 |settles m=>rw[en]at tg;cases tg
 |rests l=>rw[en]at tg;cases tg
 |off  =>rw[en]at tg;cases tg
variable (Zch:MB P w K mg base (CX0) 2 ZdK ZhC ["self","post"] (cM CA 3))
include Zg Zf Zr Za2 ZaV ZA Zc3 in
theorem Zkn (F0:Fun K "says" "InTail.says" ZhU ZdK ZhC):type_of% Zch:=by
 refine mbM ["self","post"] F0 fun Sc0=>F0.ok Sc0 (fun vs H Q E h=>?_) fun cdv A outer s H vs Q E hr h=>?_
 ·obtain⟨nw,p,nwf,S,ob,os,rfl,_⟩:=h
  rfl
 obtain⟨nw,p,nwf,S,ob,os,rfl,tg,bd,st,wf,q⟩:=h
 have nd:=Sc0.nd
 refine⟨_,(aG (aM (a1N Zc3.1 (hr.mono (by decide)) Zc3.2 .nil aN (aP Zr ZA (dv 0))))),?_⟩
 obtain⟨sa,on,al⟩:=id st
 cases en:S.now with
 |free k=>rw[en]at tg;cases tg
 |speaks n ds k=>rw[en]at tg;cases tg
 |reads h=>rw[en]at tg;cases tg
 | tlS v c=>
  rw[en]at sa
  obtain⟨dx,tl,e,ht,_⟩:=sa
  obtain⟨C,d,hC,e1⟩:=id ht
  have hc:=jP Zg Zf hC
  have hm:=rM Za2 ZaV hC
  refine⟨dx,_,.ref tl,e,rfl,⟨C,d,_,e1,hc.cls,hm,rfl⟩,tl,S.vt,true,v,c,rfl,ht,?_⟩
  have:bL S=iH true v:=by unfold bL;rw[en]
  rw[this]at q
  exact q
 | tlR n ds v c=>
  rw[en]at sa
  obtain⟨dx,tl,t0,d0,e,ht,_⟩:=sa
  obtain⟨C,d,hC,e1⟩:=id ht
  have hc:=jP Zg Zf hC
  have hm:=rM Za2 ZaV hC
  refine⟨dx,_,.ref tl,e,rfl,⟨C,d,_,e1,hc.cls,hm,rfl⟩,tl,S.vt,false,v,c,rfl,ht,?_⟩
  have:bL S=iH false v:=by unfold bL;rw[en]
  rw[this]at q
  exact q
 |flag l m=>rw[en]at tg;cases tg
 |settles m=>rw[en]at tg;cases tg
 |rests l=>rw[en]at tg;cases tg
 |off  =>rw[en]at tg;cases tg
variable (ZbB:MB P w K mg base (CX0) 1 Zc8 Zgf ["self","post"] (cM CA 4))
theorem ZjM (F0:Fun K "says" "Flagging.says" Zgm Zc8 Zgf):type_of% ZbB:=by
 refine mbM ["self","post"] F0 fun Sc0=>F0.ok Sc0 (fun vs H Q E h=>?_) fun cdv A outer s H vs Q E hr h=>?_
 ·obtain⟨nw,p,nwf,S,ob,os,rfl,_⟩:=h
  rfl
 obtain⟨nw,p,nwf,S,ob,os,rfl,tg,bd,st,wf,q⟩:=h
 have nd:=Sc0.nd
 refine⟨_,(aG (aM aH)),?_⟩
 obtain⟨sa,on,al⟩:=id st
 cases en:S.now with
 |free k=>rw[en]at tg;cases tg
 |speaks n ds k=>rw[en]at tg;cases tg
 |reads h=>rw[en]at tg;cases tg
 |tlS v c=>rw[en]at tg;cases tg
 |tlR n ds v c=>rw[en]at tg;cases tg
 | flag l m=>
  rw[en]at sa
  have:bL S=0:=by unfold bL;rw[en]
  rw[this]at q
  exact q
 |settles m=>rw[en]at tg;cases tg
 |rests l=>rw[en]at tg;cases tg
 |off  =>rw[en]at tg;cases tg
variable (Zb4:MB P w K mg base (CX0) 1 Zdv Zg4 ["self","post"] (cM CA 5))
theorem Zj8 (F0:Fun K "says" "Settles.says" Zhi Zdv Zg4):type_of% Zb4:=by
 refine mbM ["self","post"] F0 fun Sc0=>F0.ok Sc0 (fun vs H Q E h=>?_) fun cdv A outer s H vs Q E hr h=>?_
 ·obtain⟨nw,p,nwf,S,ob,os,rfl,_⟩:=h
  rfl
 obtain⟨nw,p,nwf,S,ob,os,rfl,tg,bd,st,wf,q⟩:=h
 have nd:=Sc0.nd
 refine⟨_,(aG (aM aH)),?_⟩
 obtain⟨sa,on,al⟩:=id st
 cases en:S.now with
 |free k=>rw[en]at tg;cases tg
 |speaks n ds k=>rw[en]at tg;cases tg
 |reads h=>rw[en]at tg;cases tg
 |tlS v c=>rw[en]at tg;cases tg
 |tlR n ds v c=>rw[en]at tg;cases tg
 |flag l m=>rw[en]at tg;cases tg
 | settles m=>
  rw[en]at sa
  have:bL S=1:=by unfold bL;rw[en]
  rw[this]at q
  exact q
 |rests l=>rw[en]at tg;cases tg
 |off  =>rw[en]at tg;cases tg
variable (ZcA:MB P w K mg base (CX0) 1 Zek Ziu ["self","post"] (cM CA 6))
theorem ZkW (F0:Fun K "says" "Rests.says" ZiL Zek Ziu):type_of% ZcA:=by
 refine mbM ["self","post"] F0 fun Sc0=>F0.ok Sc0 (fun vs H Q E h=>?_) fun cdv A outer s H vs Q E hr h=>?_
 ·obtain⟨nw,p,nwf,S,ob,os,rfl,_⟩:=h
  rfl
 obtain⟨nw,p,nwf,S,ob,os,rfl,tg,bd,st,wf,q⟩:=h
 have nd:=Sc0.nd
 refine⟨_,(aG (aM aH)),?_⟩
 obtain⟨sa,on,al⟩:=id st
 cases en:S.now with
 |free k=>rw[en]at tg;cases tg
 |speaks n ds k=>rw[en]at tg;cases tg
 |reads h=>rw[en]at tg;cases tg
 |tlS v c=>rw[en]at tg;cases tg
 |tlR n ds v c=>rw[en]at tg;cases tg
 |flag l m=>rw[en]at tg;cases tg
 |settles m=>rw[en]at tg;cases tg
 | rests l=>
  rw[en]at sa
  have:bL S=1:=by unfold bL;rw[en]
  rw[this]at q
  exact q
 |off  =>rw[en]at tg;cases tg
variable (Zdm:MB P w K mg base (CX0) 1 ZfA ZjT ["self","post"] (cM CA 7))
theorem ZlJ (F0:Fun K "says" "Off.says" Zkc ZfA ZjT):type_of% Zdm:=by
 refine mbM ["self","post"] F0 fun Sc0=>F0.ok Sc0 (fun vs H Q E h=>?_) fun cdv A outer s H vs Q E hr h=>?_
 ·obtain⟨nw,p,nwf,S,ob,os,rfl,_⟩:=h
  rfl
 obtain⟨nw,p,nwf,S,ob,os,rfl,tg,bd,st,wf,q⟩:=h
 have nd:=Sc0.nd
 refine⟨_,(aG (aM aH)),?_⟩
 obtain⟨sa,on,al⟩:=id st
 cases en:S.now with
 |free k=>rw[en]at tg;cases tg
 |speaks n ds k=>rw[en]at tg;cases tg
 |reads h=>rw[en]at tg;cases tg
 |tlS v c=>rw[en]at tg;cases tg
 |tlR n ds v c=>rw[en]at tg;cases tg
 |flag l m=>rw[en]at tg;cases tg
 |settles m=>rw[en]at tg;cases tg
 |rests l=>rw[en]at tg;cases tg
 | off  =>
  rw[en]at sa
  have:bL S=1:=by unfold bL;rw[en]
  rw[this]at q
  exact q
variable (Zdn:MB P w K mg base (CX0) 1 ZfB ZjU ["self","bit","post"] (cL CA 7))
theorem ZlK (F0:Fun K "step" "Off.step" Zkd ZfB ZjU):type_of% Zdn:=by
 refine mbM ["self","bit","post"] F0 fun Sc0=>F0.ok Sc0 (fun vs H Q E h=>?_) fun cdv A outer s H vs Q E hr h=>?_
 ·obtain⟨nw,p,nwf,S,ob,os,bt,rfl,_⟩:=h
  rfl
 obtain⟨nw,p,nwf,S,ob,os,bt,rfl,tg,bd,st,dj,wf,hb,hu,q⟩:=h
 have nd:=Sc0.nd
 refine⟨_,(aG (aM (cF (aA bA (aA (dv 0) aD))))),?_⟩
 obtain⟨sa,on,al⟩:=id st
 cases en:S.now with
 |free k=>rw[en]at tg;cases tg
 |speaks n ds k=>rw[en]at tg;cases tg
 |reads h=>rw[en]at tg;cases tg
 |tlS v c=>rw[en]at tg;cases tg
 |tlR n ds v c=>rw[en]at tg;cases tg
 |flag l m=>rw[en]at tg;cases tg
 |settles m=>rw[en]at tg;cases tg
 |rests l=>rw[en]at tg;cases tg
 | off  =>
  rw[en]at sa
  rw[mH en]at q
  refine⟨aL rfl,fun t ht=>?_⟩
  have g1:=aJ ht (.tup [.str "",.ref nw])
  exact q t _ (Stp.go bd dj cI.refl g1 aB ⟨rfl,rfl,rfl,rfl,rfl,rfl⟩ (st.move fun x v e _=>g1 x v e) fun x hx=> .inl hx)
variable (ZbC:MB P w K mg base (CX0) 3 Zc9 Zgg ["self","bit","post"] (cL CA 4))
include ZcQ Zb0 Zt ZaY Zas Zad ZM Zao ZY in
theorem ZjN (F0:Fun K "step" "Flagging.step" Zgn Zc9 Zgg):type_of% ZbC:=by
 refine mbM ["self","bit","post"] F0 fun Sc0=>F0.ok Sc0 (fun vs H Q E h=>?_) fun cdv A outer s H vs Q E hr h=>?_
 ·obtain⟨nw,p,nwf,S,ob,os,bt,rfl,_⟩:=h
  rfl
 obtain⟨nw,p,nwf,S,ob,os,bt,rfl,tg,bd,st,dj,wf,hb,hu,q⟩:=h
 have nd:=Sc0.nd
 refine⟨_,(aF (bH (aY dW (aP Zt Zad (dv 0)) aH (aV _)) (aG (aM (cF (aA bA (aA (cD Zas ZY.1 (hr.mono (by decide)) rfl Zb0 ZY.2 .nil aN (aA (aP Zt ZM (dv 0)) aD)) aD))))) aW) (aG (aM (cF (aA bA (aA (cD ZaY Zao.1 (hr.mono (by decide)) rfl ZcQ Zao.2 .nil aN (aA (aR gW (aP Zt Zad (dv 0)) aH) (aA (aP Zt ZM (dv 0)) aD))) aD)))))),?_⟩
 obtain⟨sa,on,al⟩:=id st
 cases en:S.now with
 |free k=>rw[en]at tg;cases tg
 |speaks n ds k=>rw[en]at tg;cases tg
 |reads h=>rw[en]at tg;cases tg
 |tlS v c=>rw[en]at tg;cases tg
 |tlR n ds v c=>rw[en]at tg;cases tg
 | flag l m=>
  rw[en]at sa
  obtain⟨dx,e⟩:=sa
  have hl:=wf.now
  rw[en]at hl
  have hl1:1<=l:=hl
  rw[lC en]at q
  refine⟨dx,_,_,e,rfl,?_⟩
  conv=>whnf
  refine bN (fun c=>?_) (fun c=>?_)
  ·have c1:((l:Nat):Int)=1:=dec_true c
   rw[if_pos (by omega)]at q
   refine⟨dx,_,_,e,rfl,?_⟩
   refine fun x dx' hx hdx hne=>⟨x,dx',_,rfl,aB,fun H2 eH=>⟨rfl,aL rfl,fun t ht=>?_⟩⟩
   have g2:Same H H2:=by rw[eH];exact bK hx hdx
   have e2:H2 x=some (.ins CA.settles dx' [("may_blame",.bl m)]):=by rw[eH];exact aB
   have g3:=aJ ht (.tup [.str "",.ref x])
   exact q t _ (kY bd dj cI.refl (g2.trans g3) aB ⟨rfl,rfl,rfl,rfl,rfl,rfl⟩ hx (g3 _ _ e2) ⟨dx',g3 _ _ e2⟩)
  ·have c1:¬ ((l:Nat):Int)=1:=dec_false c
   rw[if_neg (by omega)]at q
   refine⟨dx,_,_,e,rfl,dx,_,_,e,rfl,?_⟩
   refine fun x dx' hx hdx hne=>⟨x,dx',_,_,rfl,aB,fun H2 eH=>⟨rfl,aL rfl,fun t ht=>?_⟩⟩
   have g2:Same H H2:=by rw[eH];exact bK hx hdx
   have el:((l:Nat):Int)-1=((l-1:Nat):Int):=by omega
   have e2:H2 x=some (.ins CA.flag dx' [("left",.int ((l-1:Nat):Int)),("may_blame",.bl m)]):=by rw[eH,<-el];exact aB
   have g3:=aJ ht (.tup [.str "",.ref x])
   exact q t _ (kY bd dj cI.refl (g2.trans g3) aB ⟨rfl,rfl,rfl,rfl,rfl,rfl⟩ hx (g3 _ _ e2) ⟨dx',g3 _ _ e2⟩)
 |settles m=>rw[en]at tg;cases tg
 |rests l=>rw[en]at tg;cases tg
 |off  =>rw[en]at tg;cases tg
variable (Zb5:MB P w K mg base (CX0) 5 Zdw Zg5 ["self","bit","post"] (cL CA 5))
include ZcC ZbA ZU Zax Z5 Z2 Zcn in
theorem Zj9 (F0:Fun K "step" "Settles.step" Zhj Zdw Zg5):type_of% Zb5:=by
 refine mbM ["self","bit","post"] F0 fun Sc0=>F0.ok Sc0 (fun vs H Q E h=>?_) fun cdv A outer s H vs Q E hr h=>?_
 ·obtain⟨nw,p,nwf,S,ob,os,bt,rfl,_⟩:=h
  rfl
 obtain⟨nw,p,nwf,S,ob,os,bt,rfl,tg,bd,st,dj,wf,hb,hu,q⟩:=h
 have nd:=Sc0.nd
 refine⟨_,(aF (bH (aY dW (dv 1) aH (aV _)) (aG (aM (cF (aA bA (aA (cD Zax Z2.1 (hr.mono (by decide)) rfl ZcC Z2.2 .nil aN (aA (bD (v:= .int 3) rfl ZbA ⟨_,rfl⟩) aD)) aD))))) aW) (aF (bH (cN (aP ZU Z5 (dv 0))) (aG (aM (aU Zcn.1 (hr.mono (by decide)) rfl Zcn.2.2.2 Zcn.2.2.1 Zcn.2.1 .nil aN (aA (dv 2) aD)))) aW) (aG (aM (cF (aA bA (aA (dv 0) aD))))))),?_⟩
 obtain⟨sa,on,al⟩:=id st
 cases en:S.now with
 |free k=>rw[en]at tg;cases tg
 |speaks n ds k=>rw[en]at tg;cases tg
 |reads h=>rw[en]at tg;cases tg
 |tlS v c=>rw[en]at tg;cases tg
 |tlR n ds v c=>rw[en]at tg;cases tg
 |flag l m=>rw[en]at tg;cases tg
 | settles m=>
  rw[en]at sa
  obtain⟨dx,e⟩:=sa
  rw[iB en]at q
  conv=>whnf
  refine bN (fun c=>?_) (fun c=>?_)
  ·have c1:bt=1:=dec_true c
   rw[if_pos c1]at q
   refine fun x dx' hx hdx hne=>⟨x,dx',_,rfl,aB,fun H2 eH=>⟨rfl,aL rfl,fun t ht=>?_⟩⟩
   have g2:Same H H2:=by rw[eH];exact bK hx hdx
   have e2:H2 x=some (.ins CA.rests dx' [("left",.int ((3:Nat):Int))]):=by rw[eH];exact aB
   have g3:=aJ ht (.tup [.str "",.ref x])
   exact q t _ (kY bd dj cI.refl (g2.trans g3) aB ⟨rfl,rfl,rfl,rfl,rfl,rfl⟩ hx (g3 _ _ e2) ⟨dx',g3 _ _ e2⟩)
  have c1:¬ bt=1:=dec_false c
  rw[if_neg c1]at q
  refine⟨dx,_,_,e,rfl,?_⟩
  cases m with
  | true=>
   rw[if_pos rfl]at q
   exact⟨p,nwf,S,ob,rfl,bd,fun t H' h=>q t H' (h.stp cI.refl bd)⟩
  | false=>
   rw[if_neg (by decide)]at q
   refine⟨aL rfl,fun t ht=>?_⟩
   have g1:=aJ ht (.tup [.str "",.ref nw])
   exact q t _ (Stp.go bd dj cI.refl g1 aB ⟨rfl,rfl,rfl,rfl,rfl,rfl⟩ (st.move fun x v e _=>g1 x v e) fun x hx=> .inl hx)
 |rests l=>rw[en]at tg;cases tg
 |off  =>rw[en]at tg;cases tg
variable (ZcB:MB P w K mg base (CX0) 5 Zel Ziv ["self","bit","post"] (cL CA 6))
include ZdG ZcC ZZ ZaT Zax Zau Zap Z2 Zm in
theorem ZkX (F0:Fun K "step" "Rests.step" ZiM Zel Ziv):type_of% ZcB:=by
 refine mbM ["self","bit","post"] F0 fun Sc0=>F0.ok Sc0 (fun vs H Q E h=>?_) fun cdv A outer s H vs Q E hr h=>?_
 ·obtain⟨nw,p,nwf,S,ob,os,bt,rfl,_⟩:=h
  rfl
 obtain⟨nw,p,nwf,S,ob,os,bt,rfl,tg,bd,st,dj,wf,hb,hu,q⟩:=h
 have nd:=Sc0.nd
 refine⟨_,(aF (bH (aY dW (dv 1) aH (aV _)) (aG (aM (aU Zm.1 (hr.mono (by decide)) rfl Zm.2.2.2 Zm.2.2.1 Zm.2.1 .nil aN (aA (dv 2) (aA eQ aD))))) aW) (aG (aM (cF (aA bA (aA (cG (dO (aY dW (aP ZZ Zau (dv 0)) aH (aV _)) (cD ZaT Zap.1 (hr.mono (by decide)) rfl ZdG Zap.2 .nil aN (aA aH aD)) (cD Zax Z2.1 (hr.mono (by decide)) rfl ZcC Z2.2 .nil aN (aA (aR gW (aP ZZ Zau (dv 0)) aH) aD)))) aD)))))),?_⟩
 obtain⟨sa,on,al⟩:=id st
 cases en:S.now with
 |free k=>rw[en]at tg;cases tg
 |speaks n ds k=>rw[en]at tg;cases tg
 |reads h=>rw[en]at tg;cases tg
 |tlS v c=>rw[en]at tg;cases tg
 |tlR n ds v c=>rw[en]at tg;cases tg
 |flag l m=>rw[en]at tg;cases tg
 |settles m=>rw[en]at tg;cases tg
 | rests l=>
  rw[en]at sa
  obtain⟨dx,e⟩:=sa
  have hl:=wf.now
  rw[en]at hl
  have hl1:1<=l:=hl
  rw[jL en]at q
  conv=>whnf
  refine bN (fun c=>?_) (fun c=>?_)
  ·have c1:bt=0:=dec_true c
   rw[if_pos c1]at q
   exact⟨p,nwf,S,ob,false,rfl,bd,fun t H' h=>q t H' (h.stp cI.refl bd)⟩
  have c1:¬ bt=0:=dec_false c
  rw[if_neg c1]at q
  refine⟨fun v H2=>∃x dx',v= .ref x/\H x=none/\Same H H2/\(if l=1 then H2 x=some (.ins CA.free dx' [("since",.int ((0:Nat):Int))]) else H2 x=some (.ins CA.rests dx' [("left",.int ((l-1:Nat):Int))])),?_,?_⟩
  ·refine⟨dx,_,_,e,rfl,?_⟩
   conv=>whnf
   refine bN (fun z=>?_) (fun z=>?_)
   ·have z1:((l:Nat):Int)=1:=dec_true z
    refine fun x dx' hx hdx hne=>⟨x,dx',_,rfl,aB,fun H2 eH=>⟨rfl,x,dx',rfl,hx,by rw[eH];exact bK hx hdx,?_⟩⟩
    rw[if_pos (by omega),eH]
    exact aB
   ·have z1:¬ ((l:Nat):Int)=1:=dec_false z
    have el:((l:Nat):Int)-1=((l-1:Nat):Int):=by omega
    refine⟨dx,_,_,e,rfl,?_⟩
    refine fun x dx' hx hdx hne=>⟨x,dx',_,rfl,aB,fun H2 eH=>⟨rfl,x,dx',rfl,hx,by rw[eH];exact bK hx hdx,?_⟩⟩
    rw[if_neg (by omega),eH,<-el]
    exact aB
  rintro v H2 ⟨x,dx',rfl,hx,g2,e2⟩
  refine⟨aL rfl,fun t ht=>?_⟩
  have g3:=aJ ht (.tup [.str "",.ref x])
  by_cases z:l=1
  ·rw[if_pos z]at e2 q
   exact q t _ (kY bd dj cI.refl (g2.trans g3) aB ⟨rfl,rfl,rfl,rfl,rfl,rfl⟩ hx (g3 _ _ e2) ⟨dx',g3 _ _ e2⟩)
  ·rw[if_neg z]at e2 q
   exact q t _ (kY bd dj cI.refl (g2.trans g3) aB ⟨rfl,rfl,rfl,rfl,rfl,rfl⟩ hx (g3 _ _ e2) ⟨dx',g3 _ _ e2⟩)
 |off  =>rw[en]at tg;cases tg
variable (ZcS:MB P w K mg base (CX0) 8 ZeQ Zi2 ["self","bit","post"] (cL CA 0))
include ZaB ZI Zq ZdG Zd3 Zc4 ZL Za ZaT Zbl ZaK Zaz ZaP Z6 Zaf Zap ZaI Zah ZaM Zm Za4 in
theorem Zlh (F0:Fun K "step" "Free.step" Zjn ZeQ Zi2):type_of% ZcS:=by
 refine mbM ["self","bit","post","begins"] F0 fun Sc0=>F0.ok Sc0 (fun vs H Q E h=>?_) fun cdv A outer s H vs Q E hr h=>?_
 ·obtain⟨nw,p,nwf,S,ob,os,bt,rfl,_⟩:=h
  rfl
 obtain⟨nw,p,nwf,S,ob,os,bt,rfl,tg,bd,st,dj,wf,hb,hu,q⟩:=h
 have nd:=Sc0.nd
 refine⟨_,(aF (bB (i:=3) nd rfl (Or.inl rfl) (eO dW (bQ ZL Zaz Za4.1 (hr.mono (by decide)) Za4.2 .nil aN (dv 0) (aA (dv 2) aD)) aH (aV _))) (aF (bH (PW.pt (jG (cN (dv 3)) (iV (aY dW (dv 1) aH (aV _))))) (aG (aM (cF (aA bA (aA (cD Zbl ZaI.1 (hr.mono (by decide)) rfl Zd3 ZaI.2 .nil aN (aA (bR Za ZaP ZaM.1 (hr.mono (by decide)) ZaM.2 .nil aN (dv 2)) (aA (vA Zaf.1 (hr.mono (by decide)) rfl Zaf.2.2.2 Zaf.2.2.1 Zaf.2.1 .nil aN) (aA aH aD)))) aD))))) aW) (aF (bH (cN (dv 3)) (aG (aM (aU Zm.1 (hr.mono (by decide)) rfl Zm.2.2.2 Zm.2.2.1 Zm.2.1 .nil aN (aA (dv 2) (aA eQ aD))))) aW) (aF (bH (aY dW (dv 1) aH (aV _)) (aG (aM (cF (aA bA (aA (cD ZaK Zah.1 (hr.mono (by decide)) rfl Zc4 Zah.2 .nil aN (aA (vA Zaf.1 (hr.mono (by decide)) rfl Zaf.2.2.2 Zaf.2.2.1 Zaf.2.1 .nil aN) (aA aH aD))) aD))))) aW) (aG (aM (cF (aA bA (aA (cD ZaT Zap.1 (hr.mono (by decide)) rfl ZdG Zap.2 .nil aN (aA (aR bV (aP ZL Z6 (dv 0)) aH) aD)) aD))))))))),?_⟩
 obtain⟨sa,on,al⟩:=id st
 cases en:S.now with
 | free k =>
  rw[en]at sa
  obtain⟨dx,e⟩:=sa
  obtain⟨dp,ch,wl,ul,ct,ws,us,b⟩:=id bd
  rw[lB en]at q
  refine⟨⟨dx,_,e,rfl⟩,nw,p,nwf,S,ob,os,rfl,tg,bd,st,wf,?_⟩
  conv=>whnf
  refine bN (fun c=>?_) (fun c=>?_)
  ·have c1:bL S=0:=dec_true c
   rw[if_pos c1]at q
   conv=>whnf
   refine bN (fun z=>?_) (fun z=>?_)
   ·have z1:bt=0:=dec_true z
    rw[if_pos z1]at q
    cases ewt:S.wt with
    | nil=>
     rw[uU en,if_pos ewt]at c1
     cases c1
    | cons f rr=>
     rw[ewt]at q
     have hf:=wf.wt f (by rw[ewt];exact YD)
     refine⟨⟨dp,_,b.e,rfl⟩,p,nwf,S,ob,f,rr,rfl,bd,ewt,hf,fun pw H1 hpw g1 e1=>?_⟩
     refine⟨rfl,fun r st' ks H2 t0 hR g2 n1 n2 n3=>?_⟩
     refine fun x dx' hx hdx hne=>⟨x,dx',_,_,_,rfl,aB,fun H3 eH=>⟨rfl,aL rfl,fun t ht=>?_⟩⟩
     have g3:Same H2 H3:=by rw[eH];exact bK hx hdx
     have e3:H3 x=some (.ins CA.speaks dx' [("wire",.ref pw),("reader",.ref r),("many",.int ((1:Nat):Int))]):=by rw[eH];exact aB
     have g4:=aJ ht (.tup [.str "begins",.ref x])
     have npk:pw≠ks:=fun y=>by rw[y,n3]at e1;cases e1
     have g24:=g3.trans g4
     have gs:=g1.trans (g2.trans g24)
     refine q t _ (Stp.go (os':=fun y=>y=x\/y=pw\/y=r\/y=st'\/y=ks) bd dj cI.refl gs aB ⟨rfl,rfl,rfl,ewt.symm,rfl,rfl⟩ ⟨⟨dx',pw,r,st',ks,t0,g4 _ _ e3,g24 _ _ (g2 _ _ e1),?_,npk,.inr (.inl rfl),.inr (.inr (.inl rfl)),.inr (.inr (.inr (.inl rfl))),.inr (.inr (.inr (.inr rfl)))⟩,.inl rfl,?_⟩ ?_)
     ·show iC _ _ _ r st' ks ((wr f.1 f.2).take 1) t0
      rw[a2S]
      exact hR.same g24
     ·rintro y (rfl | rfl | rfl | rfl | rfl)
      ·rw[g4 _ _ e3];simp
      ·rw[g24 _ _ (g2 _ _ e1)];simp
      ·obtain⟨d,w⟩:=hR.rd;rw[g24 _ _ w];simp
      ·obtain⟨d,w⟩:=hR.sk;rw[g24 _ _ w];simp
      ·rw[g24 _ _ hR.kp];simp
     ·rintro y (rfl | rfl | rfl | rfl | rfl)
      ·exact .inr (g1.none (g2.none hx))
      ·exact .inr hpw
      ·exact .inr (g1.none n1)
      ·exact .inr (g1.none n2)
      ·exact .inr (g1.none n3)
   ·have z1:¬ bt=0:=dec_false z
    rw[if_neg z1]at q
    conv=>whnf
    refine bN (fun _=>?_) (fun c'=>absurd c c')
    exact⟨p,nwf,S,ob,true,rfl,bd,fun t H' h=>q t H' (h.stp cI.refl bd)⟩
  have c1:¬ bL S=0:=dec_false c
  rw[if_neg c1]at q
  refine xQ ?_
  conv=>whnf
  refine bN (fun c'=>absurd c' c) (fun _=>?_)
  conv=>whnf
  refine bN (fun z=>?_) (fun z=>?_)
  ·have z1:bt=0:=dec_true z
   rw[if_pos z1]at q
   refine⟨rfl,fun r st' ks H2 t0 hR g2 n1 n2 n3=>?_⟩
   refine fun x dx' hx hdx hne=>⟨x,dx',_,_,rfl,aB,fun H3 eH=>⟨rfl,aL rfl,fun t ht=>?_⟩⟩
   have g3:Same H2 H3:=by rw[eH];exact bK hx hdx
   have e3:H3 x=some (.ins CA.reads dx' [("reader",.ref r),("many",.int ((1:Nat):Int))]):=by rw[eH];exact aB
   have g4:=aJ ht (.tup [.str "",.ref x])
   have g24:=g3.trans g4
   refine q t _ (Stp.go (os':=fun y=>y=x\/y=r\/y=st'\/y=ks) bd dj cI.refl (g2.trans g24) aB ⟨rfl,rfl,rfl,rfl,rfl,rfl⟩ ⟨⟨dx',r,st',ks,t0,g4 _ _ e3,hR.same g24,.inr (.inl rfl),.inr (.inr (.inl rfl)),.inr (.inr (.inr rfl))⟩,.inl rfl,?_⟩ ?_)
   ·rintro y (rfl | rfl | rfl | rfl)
    ·rw[g4 _ _ e3];simp
    ·obtain⟨d,w⟩:=hR.rd;rw[g24 _ _ w];simp
    ·obtain⟨d,w⟩:=hR.sk;rw[g24 _ _ w];simp
    ·rw[g24 _ _ hR.kp];simp
   ·rintro y (rfl | rfl | rfl | rfl)
    ·exact .inr (g2.none hx)
    ·exact .inr n1
    ·exact .inr n2
    ·exact .inr n3
  ·have z1:¬ bt=0:=dec_false z
   rw[if_neg z1]at q
   refine⟨dx,_,_,e,rfl,?_⟩
   refine fun x dx' hx hdx hne=>⟨x,dx',_,rfl,aB,fun H2 eH=>⟨rfl,aL rfl,fun t ht=>?_⟩⟩
   have g2:Same H H2:=by rw[eH];exact bK hx hdx
   have e2:H2 x=some (.ins CA.free dx' [("since",.int ((k+1:Nat):Int))]):=by rw[eH];exact aB
   have g3:=aJ ht (.tup [.str "",.ref x])
   exact q t _ (kY bd dj cI.refl (g2.trans g3) aB ⟨rfl,rfl,rfl,rfl,rfl,rfl⟩ hx (g3 _ _ e2) ⟨dx',g3 _ _ e2⟩)
 |speaks n ds k=>rw[en]at tg;cases tg
 |reads h=>rw[en]at tg;cases tg
 |tlS v c=>rw[en]at tg;cases tg
 |tlR n ds v c=>rw[en]at tg;cases tg
 |flag l m=>rw[en]at tg;cases tg
 |settles m=>rw[en]at tg;cases tg
 |rests l=>rw[en]at tg;cases tg
 |off  =>rw[en]at tg;cases tg
variable (Zcz:MB P w K mg base (CX0) 7 Zei Zis ["self","bit","post"] (cL CA 2))
include ZI Zq Zdl Zc4 Zd2 ZfF Ze ZE Za ZaK Zbk ZcP ZO Zbp Z4 ZaE Z7 Z8 Zb2 ZbE Zah ZaG Zm in
theorem ZkU (F0:Fun K "step" "Reads.step" ZiJ Zei Zis):type_of% Zcz:=by
 refine mbM ["self","bit","post","answer"] F0 fun Sc0=>F0.ok Sc0 (fun vs H Q E h=>?_) fun cdv A outer s H vs Q E hr h=>?_
 ·obtain⟨nw,p,nwf,S,ob,os,bt,rfl,_⟩:=h
  rfl
 obtain⟨nw,p,nwf,S,ob,os,bt,rfl,tg,bd,st,dj,wf,hb,hu,q⟩:=h
 have nd:=Sc0.nd
 refine⟨_,(aF (bB (i:=3) nd rfl (Or.inl rfl) (bQ Ze ZO Z8.1 (hr.mono (by decide)) Z8.2 .nil aN (aP ZE Z4 (dv 0)) (aA (dv 1) aD))) (aF (bH (aY dW (dv 3) bA (aV _)) (aG (aM (cF (aA bA (aA (cD ZaK Zah.1 (hr.mono (by decide)) rfl Zc4 Zah.2 .nil aN (aA (aP ZE Z4 (dv 0)) (aA (aR bV (aP ZE ZaE (dv 0)) aH) aD))) aD))))) aW) (aF (bH (aY dW (dv 3) bA (aV _)) (aG (aM (cF (aA bA (aA (cD Zbk ZaG.1 (hr.mono (by decide)) rfl Zd2 ZaG.2 .nil aN (aA (cD ZcP ZbE.1 (hr.mono (by decide)) rfl ZfF ZbE.2 .nil aN (aA (aP Za Z7 (dv 2)) aD)) (aA (bR Ze Zbp Zb2.1 (hr.mono (by decide)) Zb2.2 .nil aN (aP ZE Z4 (dv 0))) aD))) aD))))) aW) (aG (aM (aU Zm.1 (hr.mono (by decide)) rfl Zm.2.2.2 Zm.2.2.1 Zm.2.1 .nil aN (aA (dv 2) (aA eQ aD)))))))),?_⟩
 obtain⟨sa,on,al⟩:=id st
 cases en:S.now with
 |free k=>rw[en]at tg;cases tg
 |speaks n ds k=>rw[en]at tg;cases tg
 | reads h=>
  rw[en]at sa
  obtain⟨dx,r,st',ks,t0,e,hR,o1,o2,o3⟩:=sa
  have hn:=wf.now
  rw[en]at hn
  obtain⟨f1,f2,f3⟩:=hn
  have hlen:=b2V f1 f2
  rw[jM en]at q
  obtain⟨dr,er⟩:=hR.rd
  obtain⟨dk,ek⟩:=hR.sk
  have hbits:bG (h++[bt]):=mX f1 (fun z hz=>by rw[Yj.mp hz];exact hb)
  refine⟨dx,_,.ref r,e,rfl,⟨dr,_,er,rfl⟩,r,st',ks,h,t0,bt,rfl,hR,hbits,by omega,fun H1 hR1 b1=>?_⟩
  have n1:nw≠r:=qF "many" e er rfl rfl
  have n2:nw≠st':=qF "many" e ek rfl rfl
  have n3:nw≠ks:=zJ e hR.kp
  have e1:=b1 _ _ n1 n2 n3 e
  have k1:=zR hR b1 o1 o2 o3
  have bd1:=pC bd dj k1
  have k1':cI (Or2 ob os) H H1:=k1.le fun x hx=> .inr hx
  obtain⟨dr1,er1⟩:=hR1.rd
  generalize hans:ans (h++[bt])=an at hR1 q er1 ⊢
  conv=>whnf
  refine bN (fun c=>?_) (fun c=>?_)
  ·have c1:an="more":=YQ c
   rw[if_pos c1]at q
   refine⟨dx,_,.ref r,e1,rfl,dx,_,_,e1,rfl,?_⟩
   refine fun x dx' hx hdx hne=>⟨x,dx',_,_,rfl,aB,fun H2 eH=>⟨rfl,aL rfl,fun t ht=>?_⟩⟩
   have g2:Same H1 H2:=by rw[eH];exact bK hx hdx
   have el:((h.length:Nat):Int)+1=(((h++[bt]).length:Nat):Int):=by rw[Yc,Yy];rfl
   have e2:H2 x=some (.ins CA.reads dx' [("reader",.ref r),("many",.int (((h++[bt]).length:Nat):Int))]):=by rw[eH,<-el];exact aB
   have g3:=aJ ht (.tup [.str "",.ref x])
   have g13:=g2.trans g3
   refine q t _ (Stp.go (os':=fun y=>y=x\/y=r\/y=st'\/y=ks) bd dj k1 g13 aB ⟨rfl,rfl,rfl,rfl,rfl,rfl⟩ ⟨⟨dx',r,st',ks,an,g3 _ _ e2,hR1.same g13,.inr (.inl rfl),.inr (.inr (.inl rfl)),.inr (.inr (.inr rfl))⟩,.inl rfl,?_⟩ ?_)
   ·rintro y (rfl | rfl | rfl | rfl)
    ·rw[g3 _ _ e2];simp
    ·rw[g13 _ _ er1];simp
    ·obtain⟨d,w⟩:=hR1.sk;rw[g13 _ _ w];simp
    ·rw[g13 _ _ hR1.kp];simp
   ·rintro y (rfl | rfl | rfl | rfl)
    ·exact .inr hx
    ·exact .inl o1
    ·exact .inl o2
    ·exact .inl o3
  have c1:¬ an="more":=fun z=>c (Yl z)
  rw[if_neg c1]at q
  conv=>whnf
  refine bN (fun z=>?_) (fun z=>?_)
  ·have z1:an="whole":=YQ z
   rw[if_pos z1]at q
   obtain⟨dp,ch,wl,ul,ct,ws,us,b⟩:=id bd1
   refine⟨dp,_,_,b.e,rfl,?_⟩
   refine fun tl dt htl hdt hne=>⟨tl,dt,S.vt,rfl,aB,fun H2 eH=>⟨rfl,?_⟩⟩
   have g2:Same H1 H2:=by rw[eH];exact bK htl hdt
   have e2:H2 tl=some (.ins CA.rtail dt (tlF S.vt false 0 0)):=by rw[eH];exact aB
   clear eH
   have hR2:=hR1.same g2
   obtain⟨dr2,er2⟩:=hR2.rd
   refine⟨dx,_,.ref r,g2 _ _ e1,rfl,⟨dr2,_,er2,rfl⟩,r,st',ks,h++[bt],rfl,(by rw[hans];exact hR2),hbits,(by rw[Yc,Yy];omega),(fun _=>a2A (by rw[kp_head,Y7,f3];rfl)),fun _ ok t d H3 hd g3 ed et=>?_,fun no=>absurd (hans.trans z1) no⟩
   refine fun x dx' hx hdx hne=>⟨x,dx',_,_,rfl,aB,fun H4 eH=>⟨rfl,aL rfl,fun t' ht'=>?_⟩⟩
   have g4:Same H3 H4:=by rw[eH];exact bK hx hdx
   have e4:H4 x=some (.ins CA.intail dx' [("tail",.ref tl),("found",.ref t)]):=by rw[eH];exact aB
   clear eH
   have g5:=aJ ht' (.tup [.str "",.ref x])
   have g35:=g4.trans g5
   refine q t' _ (Stp.go (os':=fun y=>y=x\/y=tl\/y=d) bd dj k1 (g2.trans (g3.trans g35)) aB ⟨rfl,rfl,rfl,rfl,rfl,rfl⟩ ⟨⟨dx',tl,t,d,g5 _ _ e4,⟨CA.rtail,dt,.inl rfl,g35 _ _ (g3 _ _ e2)⟩,g35 _ _ et,g35 _ _ ed,.inr (.inl rfl),.inr (.inr rfl)⟩,.inl rfl,?_⟩ ?_)
   ·rintro y (rfl | rfl | rfl)
    ·rw[g5 _ _ e4];simp
    ·rw[g35 _ _ (g3 _ _ e2)];simp
    ·rw[g35 _ _ ed];simp
   ·rintro y (rfl | rfl | rfl)
    ·exact .inr (g2.none (g3.none hx))
    ·exact .inr htl
    ·exact .inr (g2.none hd)
  ·have z1:¬ an="whole":=fun y=>z (Yl y)
   rw[if_neg z1]at q
   exact⟨p,nwf,S,ob,false,rfl,bd1,fun t H' h=>q t H' (h.stp k1' bd1)⟩
 |tlS v c=>rw[en]at tg;cases tg
 |tlR n ds v c=>rw[en]at tg;cases tg
 |flag l m=>rw[en]at tg;cases tg
 |settles m=>rw[en]at tg;cases tg
 |rests l=>rw[en]at tg;cases tg
 |off  =>rw[en]at tg;cases tg
variable (Zcm:MB P w K mg base (CX0) 7 ZdS ZhK ["self","bit","post"] (cL CA 1))
include ZI Zq Zdl Zd3 Zc4 Zd2 Ze1 Ze5 Zu Ze Zi Za Zbl ZaK Zbk Zcv ZO Zbq ZH ZR ZB Z7 Z8 Zb3 Zbj ZaI Zah ZaG Zm in
theorem Zkv (F0:Fun K "step" "Speaks.step" Zh2 ZdS ZhK):type_of% Zcm:=by
 refine mbM ["self","bit","post","own","is_duel"] F0 fun Sc0=>F0.ok Sc0 (fun vs H Q E h=>?_) fun cdv A outer s H vs Q E hr h=>?_
 ·obtain⟨nw,p,nwf,S,ob,os,bt,rfl,_⟩:=h
  rfl
 obtain⟨nw,p,nwf,S,ob,os,bt,rfl,tg,bd,st,dj,wf,hb,hu,q⟩:=h
 have nd:=Sc0.nd
 refine⟨_,(aF (bB (i:=3) nd rfl (Or.inl rfl) (bI cR (aP Zi ZH (dv 0)) (aP Zi ZB (dv 0)) (fun _ _=>rfl))) (aF (bB (i:=4) nd rfl (Or.inl rfl) (eO wI (aZ cP rfl Zu bT (aA (bR Ze Zbq Zb3.1 (hr.mono (by decide)) Zb3.2 .nil aN (aP Zi ZR (dv 0))) aD)) (bD (v:= .int 9) rfl Ze1 ⟨_,rfl⟩) (aV _))) (aF (bH (aY dW (bQ Ze ZO Z8.1 (hr.mono (by decide)) Z8.2 .nil aN (aP Zi ZR (dv 0)) (aA (dv 1) aD)) bA (aV _)) (aG (aM (aU Zm.1 (hr.mono (by decide)) rfl Zm.2.2.2 Zm.2.2.1 Zm.2.1 .nil aN (aA (dv 2) (aA eQ aD))))) aW) (aF (lN (bH (PW.pt (jG (aY dW (dv 3) aH (aV _)) (jG (aY dW (dv 1) aH (aV _)) (iV (cN (dv 4)))))) (aG (aM (cF (aA bA (aA (cD ZaK Zah.1 (hr.mono (by decide)) rfl Zc4 Zah.2 .nil aN (aA (aP Zi ZR (dv 0)) (aA (aR bV (aP Zi ZB (dv 0)) aH) aD))) aD))))) aW)) (aF (bH (aY nD (dv 1) (dv 3) (aV _)) (aG (aM (aU Zm.1 (hr.mono (by decide)) rfl Zm.2.2.2 Zm.2.2.1 Zm.2.1 .nil aN (aA (dv 2) (aA eQ aD))))) aW) (aF (bH (aY dW (aR bV (aP Zi ZB (dv 0)) aH) (aZ cP rfl Zu bT (aA (aP Zi ZH (dv 0)) aD)) (aV _)) (aG (aM (cF (aA bA (aA (cD Zbk ZaG.1 (hr.mono (by decide)) rfl Zd2 ZaG.2 .nil aN (aA (cD Zcv Zbj.1 (hr.mono (by decide)) rfl Ze5 Zbj.2 .nil aN (aA (aP Za Z7 (dv 2)) aD)) (aA tQ aD))) aD))))) aW) (aG (aM (cF (aA bA (aA (cD Zbl ZaI.1 (hr.mono (by decide)) rfl Zd3 ZaI.2 .nil aN (aA (aP Zi ZH (dv 0)) (aA (aP Zi ZR (dv 0)) (aA (aR bV (aP Zi ZB (dv 0)) aH) aD)))) aD))))))))))),?_⟩
 obtain⟨sa,on,al⟩:=id st
 cases en:S.now with
 |free k=>rw[en]at tg;cases tg
 | speaks n ds k=>
  rw[en]at sa
  obtain⟨dx,wa,r,st',ks,t0,e,ew,hR,nwk,o0,o1,o2,o3⟩:=sa
  have hn:=wf.now
  rw[en]at hn
  obtain⟨f1,f2,hk,f4⟩:=hn
  have wl_:=a2T f1
  have wbits:=(yN f1).wbits
  rw[iW en]at q
  have eg:=getD_get hk
  rw[eg]at q
  obtain⟨dr,er⟩:=hR.rd
  obtain⟨dk,ek⟩:=hR.sk
  have hbits:bG ((wr n ds).take k++[bt]):=mX (tD wbits) (fun z hz=>by rw[Yj.mp hz];exact hb)
  refine⟨dx,_,.ref wa,e,rfl,dx,_,_,e,rfl,_,_,SqL.of ew,uE hk,?_⟩
  refine⟨dx,_,.ref r,e,rfl,⟨dr,_,er,rfl⟩,r,st',ks,_,t0,rfl,hR,fun pp H0 hpp g0 e0=>?_⟩
  refine⟨_,.inl (SqL.of e0),?_⟩
  rw[Ya]
  have hR0:=hR.same g0
  obtain⟨dr0,er0⟩:=hR0.rd
  have ee0:=g0 _ _ e
  refine⟨dx,_,.ref r,ee0,rfl,⟨dr0,_,er0,rfl⟩,r,st',ks,(wr n ds).take k,t0,bt,rfl,hR0,hbits,(by rw[Yo];omega),fun H1 hR1 b1=>?_⟩
  have n1:nw≠r:=qF "wire" e er rfl rfl
  have n2:nw≠st':=qF "wire" e ek rfl rfl
  have n3:nw≠ks:=zJ e hR.kp
  have e1:=b1 _ _ n1 n2 n3 ee0
  have ew1:=b1 _ _ (Ne.symm (zJ er ew)) (Ne.symm (zJ ek ew)) nwk (g0 _ _ ew)
  have k01:=zR hR0 b1 o1 o2 o3
  have k1:cI os H H1:=fun x v ex z=>k01 x v (g0 x v ex) z
  have bd1:=pC bd dj k1
  have k1':cI (Or2 ob os) H H1:=k1.le fun x hx=> .inr hx
  obtain⟨dr1,er1⟩:=hR1.rd
  conv=>whnf
  refine bN (fun c=>?_) (fun c=>?_)
  ·have c1:ans ((wr n ds).take k++[bt])="six":=YQ c
   rw[if_pos c1]at q
   exact⟨p,nwf,S,ob,true,rfl,bd1,fun t H' h=>q t H' (h.stp k1' bd1)⟩
  have c1:¬ ans ((wr n ds).take k++[bt])="six":=fun z=>c (Yl z)
  rw[if_neg c1]at q
  refine⟨fun σ' H'=>σ'= [some (.ref nw),some (.int bt),some (.ref p),some (.int (wr n ds)[k]),some (.bl (decide (((kp ((wr n ds).take k)).length:Int)<9)))]/\H'=H1/\¬ ((wr n ds)[k]=1/\bt=0/\(kp ((wr n ds).take k)).length<9),?_,?_⟩
  ·conv=>whnf
   refine bN (fun y1=>?_) (fun y1=>xQ ⟨rfl,rfl,fun z=>dec_false y1 z.1⟩)
   conv=>whnf
   refine bN (fun y2=>?_) (fun y2=>xQ ⟨rfl,rfl,fun z=>dec_false y2 z.2.1⟩)
   conv=>whnf
   refine bN (fun y3=>?_) (fun y3=>⟨rfl,rfl,fun z=>dec_false y3 (by have:=z.2.2;omega)⟩)
   have hl:(wr n ds)[k]=1/\bt=0/\(kp ((wr n ds).take k)).length<9:=⟨dec_true y1,dec_true y2,by have:=dec_true y3;omega⟩
   rw[if_pos hl]at q
   refine⟨dx,_,.ref r,e1,rfl,dx,_,_,e1,rfl,?_⟩
   refine fun x dx' hx hdx hne=>⟨x,dx',_,_,rfl,aB,fun H2 eH=>⟨rfl,aL rfl,fun t ht=>?_⟩⟩
   have g2:Same H1 H2:=by rw[eH];exact bK hx hdx
   have el:((k:Nat):Int)+1=((((wr n ds).take k++[bt]).length:Nat):Int):=by rw[Yc,Yy,Yo];omega
   have e2:H2 x=some (.ins CA.reads dx' [("reader",.ref r),("many",.int ((((wr n ds).take k++[bt]).length:Nat):Int))]):=by rw[eH,<-el];exact aB
   have g3:=aJ ht (.tup [.str "loses",.ref x])
   have g13:=g2.trans g3
   refine q t _ (Stp.go (os':=fun y=>y=x\/y=r\/y=st'\/y=ks) bd dj k1 g13 aB ⟨rfl,rfl,rfl,rfl,rfl,rfl⟩ ⟨⟨dx',r,st',ks,_,g3 _ _ e2,hR1.same g13,.inr (.inl rfl),.inr (.inr (.inl rfl)),.inr (.inr (.inr rfl))⟩,.inl rfl,?_⟩ ?_)
   ·rintro y (rfl | rfl | rfl | rfl)
    ·rw[g3 _ _ e2];simp
    ·rw[g13 _ _ er1];simp
    ·obtain⟨d,w⟩:=hR1.sk;rw[g13 _ _ w];simp
    ·rw[g13 _ _ hR1.kp];simp
   ·rintro y (rfl | rfl | rfl | rfl)
    ·exact .inr hx
    ·exact .inl o1
    ·exact .inl o2
    ·exact .inl o3
  rintro σ' H' ⟨rfl,rfl,nl⟩
  rw[if_neg nl]at q
  conv=>whnf
  refine bN (fun y=>?_) (fun y=>?_)
  ·have y1:¬ bt=(wr n ds)[k]:=fun z=>by
    have:(!decide (bt=(wr n ds)[k]))=true:=y
    rw[Yl z]at this;cases this
   rw[if_neg y1]at q
   exact⟨p,nwf,S,ob,true,rfl,bd1,fun t H' h=>q t H' (h.stp k1' bd1)⟩
  have y1:bt=(wr n ds)[k]:=YG fun z=>y (by
   show (!decide (bt=(wr n ds)[k]))=true
   rw[Yu z];rfl)
  rw[if_pos y1]at q
  have et:(wr n ds).take k++[bt]=(wr n ds).take (k+1):=by rw[Yh hk,y1]
  refine⟨dx,_,_,e1,rfl,dx,_,.ref wa,e1,rfl,_,.inl (SqL.of ew1),?_⟩
  rw[Ya]
  conv=>whnf
  refine bN (fun z=>?_) (fun z=>?_)
  ·have z1:((k:Nat):Int)+1=(((wr n ds).length:Nat):Int):=dec_true z
   rw[if_pos (by omega)]at q
   obtain⟨dp,ch,wl,ul,ct,ws,us,b⟩:=id bd1
   refine⟨dp,_,_,b.e,rfl,?_⟩
   refine fun tl dt htl hdt hne=>⟨tl,dt,S.vt,rfl,aB,fun H2 eH=>⟨rfl,?_⟩⟩
   have g2:Same H' H2:=by rw[eH];exact bK htl hdt
   have e2:H2 tl=some (.ins CA.stail dt (tlF S.vt true 0 0)):=by rw[eH];exact aB
   clear eH
   refine fun x dx' hx hdx hne=>⟨x,dx',_,_,rfl,aB,fun H4 eH=>⟨rfl,aL rfl,fun t' ht'=>?_⟩⟩
   have g4:Same H2 H4:=by rw[eH];exact bK hx hdx
   have e4:H4 x=some (.ins CA.intail dx' [("tail",.ref tl),("found",.non)]):=by rw[eH];exact aB
   clear eH
   have g5:=aJ ht' (.tup [.str "",.ref x])
   have g35:=g4.trans g5
   refine q t' _ (Stp.go (os':=fun y=>y=x\/y=tl) bd dj k1 (g2.trans g35) aB ⟨rfl,rfl,rfl,rfl,rfl,rfl⟩ ⟨⟨dx',tl,g5 _ _ e4,⟨CA.stail,dt,.inr rfl,g35 _ _ e2⟩,.inr rfl⟩,.inl rfl,?_⟩ ?_)
   ·rintro y (rfl | rfl)
    ·rw[g5 _ _ e4];simp
    ·rw[g35 _ _ e2];simp
   ·rintro y (rfl | rfl)
    ·exact .inr (g2.none hx)
    ·exact .inr htl
  ·have z1:¬ ((k:Nat):Int)+1=(((wr n ds).length:Nat):Int):=dec_false z
   rw[if_neg (by omega)]at q
   refine⟨dx,_,.ref wa,e1,rfl,dx,_,.ref r,e1,rfl,dx,_,_,e1,rfl,?_⟩
   refine fun x dx' hx hdx hne=>⟨x,dx',_,_,_,rfl,aB,fun H2 eH=>⟨rfl,aL rfl,fun t ht=>?_⟩⟩
   have g2:Same H' H2:=by rw[eH];exact bK hx hdx
   have e2:H2 x=some (.ins CA.speaks dx' [("wire",.ref wa),("reader",.ref r),("many",.int ((k+1:Nat):Int))]):=by rw[eH];exact aB
   clear eH
   have g3:=aJ ht (.tup [.str "",.ref x])
   have g13:=g2.trans g3
   rw[et]at hR1 er1
   refine q t _ (Stp.go (os':=fun y=>y=x\/y=wa\/y=r\/y=st'\/y=ks) bd dj k1 g13 aB ⟨rfl,rfl,rfl,rfl,rfl,rfl⟩ ⟨⟨dx',wa,r,st',ks,_,g3 _ _ e2,g13 _ _ ew1,hR1.same g13,nwk,.inr (.inl rfl),.inr (.inr (.inl rfl)),.inr (.inr (.inr (.inl rfl))),.inr (.inr (.inr (.inr rfl)))⟩,.inl rfl,?_⟩ ?_)
   ·rintro y (rfl | rfl | rfl | rfl | rfl)
    ·rw[g3 _ _ e2];simp
    ·rw[g13 _ _ ew1];simp
    ·rw[g13 _ _ er1];simp
    ·obtain⟨d,w⟩:=hR1.sk;rw[g13 _ _ w];simp
    ·rw[g13 _ _ hR1.kp];simp
   ·rintro y (rfl | rfl | rfl | rfl | rfl)
    ·exact .inr hx
    ·exact .inl o0
    ·exact .inl o1
    ·exact .inl o2
    ·exact .inl o3
 |reads h=>rw[en]at tg;cases tg
 |tlS v c=>rw[en]at tg;cases tg
 |tlR n ds v c=>rw[en]at tg;cases tg
 |flag l m=>rw[en]at tg;cases tg
 |settles m=>rw[en]at tg;cases tg
 |rests l=>rw[en]at tg;cases tg
 |off  =>rw[en]at tg;cases tg
variable (Zci:MB P w K mg base (CX0) 6 ZdL ZhD ["self","bit","post"] (cL CA 3))
include ZcC ZbA Zg Zf Zd Zr Za Zax ZbS ZaO Zbo Za1 ZaU ZA Zaw Zj Zc2 Zcw Z2 ZaL Zb1 Zm Zbw in
theorem Zko (F0:Fun K "step" "InTail.step" ZhV ZdL ZhD):type_of% Zci:=by
 refine mbM ["self","bit","post","answer"] F0 fun Sc0=>F0.ok Sc0 (fun vs H Q E h=>?_) fun cdv A outer s H vs Q E hr h=>?_
 ·obtain⟨nw,p,nwf,S,ob,os,bt,rfl,_⟩:=h
  rfl
 obtain⟨nw,p,nwf,S,ob,os,bt,rfl,tg,bd,st,dj,wf,hb,hu,q⟩:=h
 have nd:=Sc0.nd
 refine⟨_,(aF (bB (i:=3) nd rfl (Or.inl rfl) (qH Zc2.1 (hr.mono (by decide)) Zc2.2 .nil aN (aP Zr ZA (dv 0)) (aA (dv 1) aD))) (aF (bH (aY dW (dv 3) bA (aV _)) (aG (aM (cF (aA bA (aA (dv 0) aD))))) aW) (aF (bH (aY dW (dv 3) bA (aV _)) (aG (aM (aU Zm.1 (hr.mono (by decide)) rfl Zm.2.2.2 Zm.2.2.1 Zm.2.1 .nil aN (aA (dv 2) (aA (fD (aP Zr ZA (dv 0))) aD))))) aW) (aF (bH (aY dW (dv 3) bA (aV _)) (aG (aM (aU Zbw.1 (hr.mono (by decide)) rfl Zbw.2.2.2 Zbw.2.2.1 Zbw.2.1 .nil aN (aA (dv 2) (aA (fD (aP Zr ZA (dv 0))) aD))))) aW) (aF (bC (bR Zd ZbS Zcw.1 (hr.mono (by decide)) Zcw.2 .nil aN (aP Za Zj (dv 2)))) (aF (bH (cN (fD (aP Zr ZA (dv 0)))) (aF (bC (bR Za ZaO ZaL.1 (hr.mono (by decide)) ZaL.2 .nil aN (dv 2))) (aG (aM (cF (aA bA (aA (cD Zax Z2.1 (hr.mono (by decide)) rfl ZcC Z2.2 .nil aN (aA (bD (v:= .int 3) rfl ZbA ⟨_,rfl⟩) aD)) aD)))))) aW) (aF (bC (bQ Za Zbo Zb1.1 (hr.mono (by decide)) Zb1.2 .nil aN (dv 2) (aA (aP Zr Zaw (dv 0)) aD))) (aG (aM (cF (aA bA (aA (cD Zax Z2.1 (hr.mono (by decide)) rfl ZcC Z2.2 .nil aN (aA (bD (v:= .int 3) rfl ZbA ⟨_,rfl⟩) aD)) aD)))))))))))),?_⟩
 obtain⟨sa,on,al⟩:=id st
 cases en:S.now with
 |free k=>rw[en]at tg;cases tg
 |speaks n ds k=>rw[en]at tg;cases tg
 |reads h=>rw[en]at tg;cases tg
 | tlS v c=>
  rw[en]at sa
  obtain⟨dx,tl,  e,ht,o1⟩:=sa
  obtain⟨C,dt,hC,e0⟩:=id ht
  have hc:=jP Zg Zf hC
  have hm:=rM Za1 ZaU hC
  rw[mF en]at q
  refine⟨dx,_,.ref tl,e,rfl,⟨C,dt,_,e0,hc.cls,hm,rfl⟩,tl,S.vt,true,v,c,bt,rfl,ht,fun H1 ht1 b1=>?_⟩
  have ntl:nw≠tl:=qF "found" e e0 rfl rfl
  have e1:=b1 _ _ ntl e
  have k1:=zQ ht b1 o1
  have bd1:=pC bd dj k1
  have k1':cI (Or2 ob os) H H1:=k1.le fun x hx=> .inr hx
  obtain⟨C1,dt1,hC1,et1⟩:=id ht1
  have hc1:=jP Zg Zf hC1
  have al1:∀x,os x->H1 x≠none:=fun x hx=>by
   by_cases z:x=tl
   ·rw[z,et1];simp
   ·cases ex:H x with
    |none=>exact absurd ex (al x hx)
    |some u=>rw[b1 x u z ex];simp
  have hw:=wf.now
  rw[en]at hw
  have hw1:S.wt≠ []:=hw
  generalize cZ S.vt true v c bt=an at q ⊢
  conv=>whnf
  refine bN (fun y=>?_) (fun y=>?_)
  ·have y1:an="more":=YQ y
   rw[if_pos y1]at q
   refine⟨aL rfl,fun t ht'=>?_⟩
   have g2:=aJ ht' (.tup [.str "",.ref nw])
   refine q t _ (Stp.go (os':=os) bd dj k1 g2 aB ⟨rfl,rfl,rfl,rfl,rfl,rfl⟩ ⟨⟨dx,tl,g2 _ _ e1,ht1.same g2,o1⟩,on,fun x hx=>?_⟩ fun x hx=> .inl hx)
   cases ex:H1 x with
   |none=>exact absurd ex (al1 x hx)
   |some u=>rw[g2 x u ex];simp
  have y1:¬ an="more":=fun z=>y (Yl z)
  rw[if_neg y1]at q
  conv=>whnf
  refine bN (fun y=>?_) (fun y=>?_)
  ·have y2:an="fault":=YQ y
   rw[if_pos y2]at q
   exact⟨dx,_,.ref tl,e1,rfl,C1,dt1,_,_,et1,hc1.cls,hc1.n2,rfl,p,nwf,S,ob,true,rfl,bd1,fun t H' h=>q t H' (h.stp k1' bd1)⟩
  have y2:¬ an="fault":=fun z=>y (Yl z)
  rw[if_neg y2]at q
  conv=>whnf
  refine bN (fun y=>?_) (fun y=>?_)
  ·have y3:an="refused":=YQ y
   rw[if_pos y3]at q
   exact⟨dx,_,.ref tl,e1,rfl,C1,dt1,_,_,et1,hc1.cls,hc1.n2,rfl,p,nwf,S,ob,true,rfl,bd1,fun t H' h=>q t H' (h.stp k1' bd1)⟩
  have y3:¬ an="refused":=fun z=>y (Yl z)
  rw[if_neg y3]at q
  obtain⟨dp,ch,wl,ul,ct,ws,us,b⟩:=id bd1
  obtain⟨dc,ec⟩:=id b.et
  refine⟨dp,_,.ref ct,b.e,rfl,⟨dc,_,ec,rfl⟩,ct,S.tot,rfl,b.et,fun H2 c2 k2=>?_⟩
  obtain⟨b2,kk2⟩:=Bd.count b c2 k2
  have nct:∀x,os x->x≠ct:=fun x hx z=>dj ct b.ot (z▸hx)
  have e2:H2 nw=some (.ins CA.intail dx [("tail",.ref tl),("found",.non)]):=(k2 _ (nct _ on)).trans e1
  have et2:=(k2 _ (nct _ o1)).trans et1
  generalize hn2:mvd S.tot (-1)=n2 at b2 q
  refine⟨dx,_,.ref tl,e2,rfl,C1,dt1,_,_,et2,hc1.cls,hc1.n2,rfl,?_⟩
  obtain⟨dp2,ch2,wl2,ul2,ct2,ws2,us2,b22⟩:=id b2
  refine⟨⟨dp2,_,b22.e,rfl⟩,p,nwf,{ S with tot:=n2 },ob,rfl,b2,hw1,fun H3 b3 k3=>?_⟩
  have k13:cI (Or2 ob os) H H3:=fun x u ex z=>k3 x u (kk2 x u (k1' x u ex z) (z.imp_left fun y w=>y (.inl w))) (z.imp_left fun y w=>y (.inl w))
  refine fun x dx' hx hdx hne=>⟨x,dx',_,rfl,aB,fun H4 eH=>⟨rfl,aL rfl,fun t' ht'=>?_⟩⟩
  have g4:Same H3 H4:=by rw[eH];exact bK hx hdx
  have e4:H4 x=some (.ins CA.rests dx' [("left",.int ((3:Nat):Int))]):=by rw[eH];exact aB
  clear eH
  have g5:=aJ ht' (.tup [.str "done",.ref x])
  refine q t' _ (Stp.go2 (b3.now rfl rfl rfl rfl rfl rfl) k13 (g4.trans g5) aB (gG (g5 _ _ e4) ⟨dx',g5 _ _ e4⟩) (fun y hy=>?_) ?_)
  ·have hy':y=x:=hy
   rw[hy'];exact hx
  ·exact fun y hy=> .inl (.inl hy)
 | tlR n ds v c=>
  rw[en]at sa
  obtain⟨dx,tl,tf,df,e,ht,etf,edf,o1,o2⟩:=sa
  obtain⟨C,dt,hC,e0⟩:=id ht
  have hc:=jP Zg Zf hC
  have hm:=rM Za1 ZaU hC
  rw[mG en]at q
  refine⟨dx,_,.ref tl,e,rfl,⟨C,dt,_,e0,hc.cls,hm,rfl⟩,tl,S.vt,false,v,c,bt,rfl,ht,fun H1 ht1 b1=>?_⟩
  have ntl:nw≠tl:=qF "found" e e0 rfl rfl
  have e1:=b1 _ _ ntl e
  have k1:=zQ ht b1 o1
  have bd1:=pC bd dj k1
  have k1':cI (Or2 ob os) H H1:=k1.le fun x hx=> .inr hx
  obtain⟨C1,dt1,hC1,et1⟩:=id ht1
  have hc1:=jP Zg Zf hC1
  have etf1:=k1.tup etf
  have ndf:df≠tl:=fun z=>by rw[z,e0]at edf;cases edf
  have edf1:=b1 _ _ ndf edf
  have al1:∀x,os x->H1 x≠none:=fun x hx=>by
   by_cases z:x=tl
   ·rw[z,et1];simp
   ·cases ex:H x with
    |none=>exact absurd ex (al x hx)
    |some u=>rw[b1 x u z ex];simp
  generalize cZ S.vt false v c bt=an at q ⊢
  conv=>whnf
  refine bN (fun y=>?_) (fun y=>?_)
  ·have y1:an="more":=YQ y
   rw[if_pos y1]at q
   refine⟨aL rfl,fun t ht'=>?_⟩
   have g2:=aJ ht' (.tup [.str "",.ref nw])
   refine q t _ (Stp.go (os':=os) bd dj k1 g2 aB ⟨rfl,rfl,rfl,rfl,rfl,rfl⟩ ⟨⟨dx,tl,tf,df,g2 _ _ e1,ht1.same g2,g2 _ _ etf1,g2 _ _ edf1,o1,o2⟩,on,fun x hx=>?_⟩ fun x hx=> .inl hx)
   cases ex:H1 x with
   |none=>exact absurd ex (al1 x hx)
   |some u=>rw[g2 x u ex];simp
  have y1:¬ an="more":=fun z=>y (Yl z)
  rw[if_neg y1]at q
  conv=>whnf
  refine bN (fun y=>?_) (fun y=>?_)
  ·have y2:an="fault":=YQ y
   rw[if_pos y2]at q
   exact⟨dx,_,.ref tl,e1,rfl,C1,dt1,_,_,et1,hc1.cls,hc1.n2,rfl,p,nwf,S,ob,false,rfl,bd1,fun t H' h=>q t H' (h.stp k1' bd1)⟩
  have y2:¬ an="fault":=fun z=>y (Yl z)
  rw[if_neg y2]at q
  conv=>whnf
  refine bN (fun y=>?_) (fun y=>?_)
  ·have y3:an="refused":=YQ y
   rw[if_pos y3]at q
   exact⟨dx,_,.ref tl,e1,rfl,C1,dt1,_,_,et1,hc1.cls,hc1.n2,rfl,p,nwf,S,ob,false,rfl,bd1,fun t H' h=>q t H' (h.stp k1' bd1)⟩
  have y3:¬ an="refused":=fun z=>y (Yl z)
  rw[if_neg y3]at q
  obtain⟨dp,ch,wl,ul,ct,ws,us,b⟩:=id bd1
  obtain⟨dc,ec⟩:=id b.et
  refine⟨dp,_,.ref ct,b.e,rfl,⟨dc,_,ec,rfl⟩,ct,S.tot,rfl,b.et,fun H2 c2 k2=>?_⟩
  obtain⟨b2,kk2⟩:=Bd.count b c2 k2
  have nct:∀x,os x->x≠ct:=fun x hx z=>dj ct b.ot (z▸hx)
  have e2:H2 nw=some (.ins CA.intail dx [("tail",.ref tl),("found",.ref tf)]):=(k2 _ (nct _ on)).trans e1
  have et2:=(k2 _ (nct _ o1)).trans et1
  generalize hn2:mvd S.tot (-1)=n2 at b2 q
  refine⟨dx,_,.ref tl,e2,rfl,C1,dt1,_,_,et2,hc1.cls,hc1.n2,rfl,?_⟩
  obtain⟨dp2,ch2,wl2,ul2,ct2,ws2,us2,b22⟩:=id b2
  refine⟨⟨dp2,_,b22.e,rfl⟩,dx,_,.ref tf,e2,rfl,p,nwf,{ S with tot:=n2 },ob,tf,df,n,ds,rfl,b2,kk2.tup etf1,(k2 _ (nct _ o2)).trans edf1,fun z=>dj df z o2,hu,fun H3 b3 k3=>?_⟩
  have k13:cI (Or2 ob os) H H3:=fun x u ex z=>k3 x u (kk2 x u (k1' x u ex z) (z.imp_left fun y w=>y (.inl w))) (z.imp_left fun y w=>y (.inl w))
  refine fun x dx' hx hdx hne=>⟨x,dx',_,rfl,aB,fun H4 eH=>⟨rfl,aL rfl,fun t' ht'=>?_⟩⟩
  have g4:Same H3 H4:=by rw[eH];exact bK hx hdx
  have e4:H4 x=some (.ins CA.rests dx' [("left",.int ((3:Nat):Int))]):=by rw[eH];exact aB
  clear eH
  have g5:=aJ ht' (.tup [.str "takes",.ref x])
  refine q t' _ (Stp.go2 (b3.now rfl rfl rfl rfl rfl rfl) k13 (g4.trans g5) aB (gG (g5 _ _ e4) ⟨dx',g5 _ _ e4⟩) (fun y hy=>?_) ?_)
  ·have hy':y=x:=hy
   rw[hy'];exact hx
  ·rintro y (hy | hy)
   ·exact .inl (.inl hy)
   ·have hy':y=df:=hy
    rw[hy'];exact .inl (.inr o2)
 |flag l m=>rw[en]at tg;cases tg
 |settles m=>rw[en]at tg;cases tg
 |rests l=>rw[en]at tg;cases tg
 |off  =>rw[en]at tg;cases tg
variable (ZcW:MB P w K mg base (CX0) 4 ZeU Zi6 ["self"] (a3U CA))
include ZL Zi ZE Zr Zt ZU ZZ Za Zb6 Zaz ZbL ZbT ZbI Zbc Zbr ZbV Zcq Zab Za4 Zcl Zcy Zch ZbB Zb4 ZcA Zdm in
theorem Zll (F0:Fun K "says" "Post.says" Zjr ZeU Zi6):type_of% ZcW:=by
 refine mbM ["self"] F0 fun Sc0=>F0.ok Sc0 (fun vs H Q E h=>?_) fun cdv A outer s H vs Q E hr h=>?_
 ·obtain⟨p,S,o,rfl,_⟩:=h
  rfl
 obtain⟨p,S,o,rfl,⟨nw,ob,os,bd,st,dj,wf,inc,al⟩,q⟩:=h
 have nd:=Sc0.nd
 refine⟨_,(aG (aM (vK (R:=fun C sp=>(C=CA.free/\sp=cM CA 0)\/(C=CA.speaks/\sp=cM CA 1)\/(C=CA.reads/\sp=cM CA 2)\/(C=CA.intail/\sp=cM CA 3)\/(C=CA.flag/\sp=cM CA 4)\/(C=CA.settles/\sp=cM CA 5)\/(C=CA.rests/\sp=cM CA 6)\/(C=CA.off/\sp=cM CA 7)) (k:=3) (by
  rintro C sp (⟨rfl,rfl⟩ | ⟨rfl,rfl⟩ | ⟨rfl,rfl⟩ | ⟨rfl,rfl⟩ | ⟨rfl,rfl⟩ | ⟨rfl,rfl⟩ | ⟨rfl,rfl⟩ | ⟨rfl,rfl⟩)
  ·exact⟨_,_,_,ZL,Zaz,Za4.1.mono (by decide),Za4.2⟩
  ·exact⟨_,_,_,Zi,ZbL,Zcl.1.mono (by decide),Zcl.2⟩
  ·exact⟨_,_,_,ZE,ZbT,Zcy.1.mono (by decide),Zcy.2⟩
  ·exact⟨_,_,_,Zr,ZbI,Zch.1.mono (by decide),Zch.2⟩
  ·exact⟨_,_,_,Zt,Zbc,ZbB.1.mono (by decide),ZbB.2⟩
  ·exact⟨_,_,_,ZU,Zbr,Zb4.1.mono (by decide),Zb4.2⟩
  ·exact⟨_,_,_,ZZ,ZbV,ZcA.1.mono (by decide),ZcA.2⟩
  ·exact⟨_,_,_,Zb6,Zcq,Zdm.1.mono (by decide),Zdm.2⟩) (hr.mono (by decide)) aN (aP Za Zab (dv 0)) (aA (dv 0) aD)))),?_⟩
 obtain⟨dp,ch,wl,ul,ct,ws,us,b⟩:=id bd
 obtain⟨C,dd,fs,hS,⟨l1,l2,l3⟩,hd⟩:=st.disp
 exact⟨dp,_,.ref nw,b.e,rfl,C,dd,_,_,hS,l1,hd (cM CA),nw,p,nw,S,ob,os,rfl,rfl,bd,st,wf,q⟩
variable (ZcU:MB P w K mg base (CX0) 9 ZeS Zi4 ["self","bit"] (a3V CA))
include ZaB ZI Zq ZL Zi ZE Zr Zt ZU ZZ Za Zb6 Zb8 ZbM ZbU ZbJ Zbd Zbs ZbW Zcr Zab Zdn ZbC Zb5 ZcB ZcS Zcz Zcm Zci in
theorem Zlj (F0:Fun K "hear" "Post.hear" Zjp ZeS Zi4):type_of% ZcU:=by
 refine mbM ["self","bit","told"] F0 fun Sc0=>F0.ok Sc0 (fun vs H Q E h=>?_) fun cdv A outer s H vs Q E hr h=>?_
 ·obtain⟨p,S,o,bt,rfl,_⟩:=h
  rfl
 obtain⟨p,S,o,bt,rfl,⟨nw,ob,os,bd,st,dj,wf,inc,al⟩,hb,hu,q⟩:=h
 have nd:=Sc0.nd
 refine⟨_,(aF (bB (i:=2) nd rfl (Or.inl rfl) (vK (R:=fun C sp=>(C=CA.free/\sp=cL CA 0)\/(C=CA.speaks/\sp=cL CA 1)\/(C=CA.reads/\sp=cL CA 2)\/(C=CA.intail/\sp=cL CA 3)\/(C=CA.flag/\sp=cL CA 4)\/(C=CA.settles/\sp=cL CA 5)\/(C=CA.rests/\sp=cL CA 6)\/(C=CA.off/\sp=cL CA 7)) (k:=8) (by
  rintro C sp (⟨rfl,rfl⟩ | ⟨rfl,rfl⟩ | ⟨rfl,rfl⟩ | ⟨rfl,rfl⟩ | ⟨rfl,rfl⟩ | ⟨rfl,rfl⟩ | ⟨rfl,rfl⟩ | ⟨rfl,rfl⟩)
  ·exact⟨_,_,_,ZL,Zb8,ZcS.1.mono (by decide),ZcS.2⟩
  ·exact⟨_,_,_,Zi,ZbM,Zcm.1.mono (by decide),Zcm.2⟩
  ·exact⟨_,_,_,ZE,ZbU,Zcz.1.mono (by decide),Zcz.2⟩
  ·exact⟨_,_,_,Zr,ZbJ,Zci.1.mono (by decide),Zci.2⟩
  ·exact⟨_,_,_,Zt,Zbd,ZbC.1.mono (by decide),ZbC.2⟩
  ·exact⟨_,_,_,ZU,Zbs,Zb5.1.mono (by decide),Zb5.2⟩
  ·exact⟨_,_,_,ZZ,ZbW,ZcB.1.mono (by decide),ZcB.2⟩
  ·exact⟨_,_,_,Zb6,Zcr,Zdn.1.mono (by decide),Zdn.2⟩) (hr.mono (by decide)) aN (aP Za Zab (dv 0)) (aA (dv 1) (aA (dv 0) aD)))) (aF (bO Za Zab (dv 0) (bI fH (dv 2) aH (fun _ _=>rfl))) (aG (aM (bI fH (dv 2) aH (fun _ _=>rfl)))))),?_⟩
 obtain⟨dp,ch,wl,ul,ct,ws,us,b⟩:=id bd
 obtain⟨C,dd,fs,hS,⟨l1,l2,l3⟩,hd⟩:=st.disp
 refine⟨dp,_,.ref nw,b.e,rfl,C,dd,_,_,hS,l2,hd (cL CA),nw,p,nw,S,ob,os,bt,rfl,rfl,bd,st,dj,wf,hb,hu,fun t H' hs=>?_⟩
 obtain⟨nw',ob',os',et,b',s',dj',mv⟩:=hs
 obtain⟨dp',ch',wl',ul',ct',ws',us',bb⟩:=id b'
 refine⟨_,_,SqT.of et,rfl,dp',_,bb.e,(show 6<1000 by decide),?_⟩
 obtain⟨hp1,hp2⟩:=a1Z (A:=CA) wf hb b' s' dj' bb
 have et':upd H' p (.ins CA.post dp' (pF ch' (bF S bt).2.vt wl' ul' ct' nw')) t=some (.tup [.str (bF S bt).1,.ref nw']):=by rw[aK (fun z=>by rw[z,bb.e]at et;cases et)];exact et
 exact⟨_,_,SqT.of et',rfl,q _ (Or2 ob' os') hp1 ⟨fun x v ex z=>hp2 x v (mv.1 x v ex (z.imp_left fun y w=>y (inc x w))) (z.imp_left fun y w=>y (by have w':x=p:=w;rw[w'];exact inc p (.inl bd.op))),fun x hx=>(mv.2 x hx).imp_left (inc x)⟩⟩
variable (Zs:MB P w K mg base (CXR P w) 1 Zdr Zg0 ["self","post"] (a3N Zk CA ZbN))
include Zz Zae Zu Zb ZF Z0 in
theorem Zj4 (F0:Fun K "post_at" "Rail.post_at" Zhe Zdr Zg0):type_of% Zs:=by
 refine mbM ["self","post"] F0 fun Sc0=>F0.okR Sc0 (fun vs H Q E h=>?_) fun cdv A outer s H vs Q E hr h=>?_
 ·obtain⟨r,R,o,w,k,rfl,_⟩:=h
  rfl
 obtain⟨r,R,o,w,k,rfl,hR,q1,q2⟩:=h
 have nd:=Sc0.nd
 refine⟨_,(aF (bH (fK (qG qY wI aH (dv 1) (aZ cP rfl Zu bT (aA (aP Zb ZF (dv 0)) aD)))) (aG (dN YR Zz Z0 (aA bA aD))) aW) (aG (aM (bI cR (aP Zb ZF (dv 0)) (dv 1) (fun _ _=>rfl))))),?_⟩
 conv=>whnf
 refine bN (fun c=>?_) (fun c=>?_)
 ·have c1:0<=k:=dec_true c
  refine⟨w.dx,_,.ref w.PL,hR.er,rfl,_,.inl (SqL.of hR.ePL),?_⟩
  rw[Ya,hR.pl]
  conv=>whnf
  refine bN (fun d=>?_) (fun d=>?_)
  ·have d1:¬ k<((R.ps.length:Nat):Int):=fun z=>by
    have d2:(!decide (k<((R.ps.length:Nat):Int)))=true:=d
    rw[Yl z]at d2
    cases d2
   exact⟨aL rfl,q2 (fun z=>d1 z.2) _ (Same.refl _)⟩
  ·have d1:k<((R.ps.length:Nat):Int):=YG fun z=>d (by
    show (!decide (k<((R.ps.length:Nat):Int)))=true
    rw[Yu z];rfl)
   obtain⟨i,rfl⟩:=YK c1
   have hl:i<w.ps.length:=by rw[hR.pl];omega
   have hp:w.ps[i]? =some w.ps[i]:=Yb hl
   exact⟨w.dx,_,.ref w.PL,hR.er,rfl,_,_,SqL.of hR.ePL,cX (j:=i) (by rw[Yi,hp];rfl),q1 i _ rfl hp⟩
 ·have c1:¬ 0<=k:=dec_false c
  exact⟨aL rfl,q2 (fun z=>c1 z.1) _ (Same.refl _)⟩
variable (ZcZ:MB P w K mg base (CXR P w) 9 ZeX Zi9 ["self","choices","votes"] (a3P Zk CA ZbN))
include Zc5 Zz Zae Zet Zj0 Zu Zb Zep ZF Zaj ZN ZX ZQ ZP Z0 ZcV in
theorem Zlo (F0:Fun K "__init__" "Rail.__init__" Zju ZeX Zi9):type_of% ZcZ:=by
 refine mbM ["self","choices","votes"] F0 fun Sc0=>F0.okR Sc0 (fun vs H Q E h=>?_) fun cdv A outer s H vs Q E hr h=>?_
 ·obtain⟨a,dx,cl,v,ms,rfl,_⟩:=h
  rfl
 obtain⟨a,dx,cl,v,ms,rfl,ea,hC,hl,q1,q2⟩:=h
 have nd:=Sc0.nd
 refine⟨_,(aF (bH (fK (qG qY qY aH (aZ cP rfl Zu bT (aA (dv 1) aD)) (bD (v:= .int 5) rfl Zet ⟨_,rfl⟩))) (aG (dN YR Zz Z0 (aA bA aD))) aW) (aF (bO Zb ZF (dv 0) (gH rfl (ix:=[2]) (dC (dv 1)) (fun C fp s0 H0 at0=>fB) (fun C fp s0 H0 at0=>(cD Zep ZcV.1 (hr.mono (by decide)) rfl Zj0 ZcV.2 .nil (b5K (fun _ _ _ z=>z) at0) (aA (dv 0) (aA (dv 1) aD)))) rfl rfl (by rfl) (show ([".0","choice","votes"]:List Str).Nodup by decide +kernel))) (aF (bO Zb Zaj (dv 0) a4U) (aF (bO Zb ZN (dv 0) (eE aD)) (aF (bO Zb ZX (dv 0) (gH rfl (ix:=[]) (dC (dv 1)) (fun C fp s0 H0 at0=>fB) (fun C fp s0 H0 at0=>(eE aD)) rfl rfl (by rfl) (show ([".0","choice"]:List Str).Nodup by decide +kernel))) (aF (bO Zb ZQ (dv 0) (gH rfl (ix:=[]) (dC (dv 1)) (fun C fp s0 H0 at0=>fB) (fun C fp s0 H0 at0=>(eE aD)) rfl rfl (by rfl) (show ([".0","choice"]:List Str).Nodup by decide +kernel))) (aG (bO Zb ZP (dv 0) (eE aD))))))))),?_⟩
 obtain⟨ts,ecl,tl,tt⟩:=hC
 have hcla:cl≠a:=fun z=>by rw[z,ea]at ecl;cases ecl
 have hta:∀(i:Nat)(t:Addr)(m:Int×Int),ts[i]? =some t->ms[i]? =some m->t≠a:=fun i t m h1 h2 z=>by have:=tt i t m h1 h2;rw[z,ea]at this;cases this
 refine⟨_,.inl (SqL.of ecl),?_⟩
 rw[Ya,tl]
 conv=>whnf
 refine bN (fun c=>?_) (fun c=>?_)
 rotate_left
 ·have c1:¬ (1:Int)<=((ms.length:Nat):Int):=dec_false c
  exact⟨aL rfl,q2 (fun z=>c1 (by have:=z.1.1;omega)) _ fun x u _ h=>h⟩
 have c1:(1:Int)<=((ms.length:Nat):Int):=dec_true c
 conv=>whnf
 refine bN (fun d=>?_) (fun d=>?_)
 ·have d1:¬ ((ms.length:Nat):Int)<=5:=fun z=>by
   have d2:(!decide (((ms.length:Nat):Int)<=5))=true:=d
   rw[Yl z]at d2
   cases d2
  exact⟨aL rfl,q2 (fun z=>d1 (by have:=z.1.2;omega)) _ fun x u _ h=>h⟩
 have d1:((ms.length:Nat):Int)<=5:=YG fun z=>d (by
  show (!decide (((ms.length:Nat):Int)<=5))=true
  rw[Yu z];rfl)
 have l5:ms.length<=5:=by omega
 refine⟨⟨_,SqL.of ecl⟩,dX (xs:=ts.map V.ref) (fun i ys H'=>∃(ps:List Addr)(op:Own),ys=ps.map V.ref/\ps.length=i/\Mk0 CA H a H' [(a,.ins Zk dx [])] ps ((ms.take i).map fun m=>S0 m.1.toNat m.2.toNat v.toNat) op/\∀m∈ms.take i,a2K m.1 m.2 v) ?_ ?_ ?_ ?_ ?_⟩
 ·rintro i ys H' hi ⟨ps,op,rfl,hp,_⟩
  rw[Ya]at hi ⊢
  exact bW (by omega)
 ·exact⟨[],_,rfl,rfl,Mk0.base ea,fun m hm=>by simp at hm⟩
 ·rintro i ys H' hi ⟨ps,op,rfl,hp,mk,_⟩
  exact SqL.of (mk.kp _ _ hcla ecl)
 ·rintro i x ys H' hx ⟨ps,op,rfl,hp_,mk,hok⟩
  rw[Yi]at hx
  obtain⟨t,ht,rfl⟩:=YO.mp hx
  have hil:i<ms.length:=by rw[<-tl];exact(Ye.mp ht).1
  have hm:ms[i]? =some ms[i]:=Yb hil
  have et:=mk.kp _ _ (hta i t _ ht hm) (tt i t _ ht hm)
  have tk:ms.take (i+1)=ms.take i++[ms[i]]:=Yh hil
  conv=>whnf
  refine fun p dp hp hdp hne=>⟨p,dp,t,_,_,v,rfl,aB,(by rw[aK (aQ et hp),aK (aQ et hdp)];exact et),fun ok H5 o hP hin hk=>⟨rfl,ps++[p],Or2 op o,by rw[Yn];rfl,by rw[Yc,hp_];rfl,?_,?_⟩,fun no H5 hk=>?_⟩
  ·rw[tk,Yn]
   exact mk.post hp hdp hP hin hk
  ·rw [tk]
   intro m hm'
   rcases YA.mp hm' with z | z
   ·exact hok m z
   ·rw[Yj]at z
    rw[z];exact ok
  ·refine q2 (fun z=>no (z.2 _ (YL hil))) H5 fun x u hx h=>?_
   have h':=mk.kp x u hx h
   exact hk x u (aQ h' hp) (by rw[aK (aQ h' hp),aK (aQ h' hdp)];exact h')
 rintro ys H1 ⟨ps,op,rfl,hp_,mk,hok⟩ PL hPL
 rw[Ya,tl,Ym (Yd _)]at mk hok
 have mk1:=Mk0.ins (L1:=[(a,.ins Zk dx [])]) (L2:=[]) (v:= .lst (ps.map V.ref)) (by simpa using mk) hPL
 refine⟨dx,_,mk1.cs.at_ 0 _ rfl,by decide,?_⟩
 have nI:∀{C d:Addr}{fs:List (Str×V)},¬ isT (.ins C d fs):=fun ⟨_,z⟩=>by cases z
 have mk2:=mk1.put (v':= .ins Zk dx (fJ "posts" (.ref PL) [])) nI
 generalize upd (upd H1 PL _) a _=H2 at mk2
 intro OW hOW
 have mk3:=Mk0.ins (L1:=(a,.ins Zk dx [("posts",.ref PL)])::(PL,.lst (ps.map V.ref))::[]) (L2:=[]) (v:= .dK []) mk2 hOW
 refine⟨dx,_,mk3.cs.at_ 0 _ rfl,(show 1<1000 by decide),?_⟩
 have mk4:=mk3.put (v':= .ins Zk dx (fJ "owners" (.ref OW) [("posts",.ref PL)])) nI
 generalize upd (upd H2 OW _) a _=H3 at mk4
 refine⟨aL rfl,fun BO hBO=>?_⟩
 have mk5:=Mk0.ins (L1:=(a,.ins Zk dx [("posts",.ref PL),("owners",.ref OW)])::(PL,.lst (ps.map V.ref))::(OW,.dK [])::[]) (L2:=[]) (v:= .lst []) mk4 hBO
 refine⟨dx,_,mk5.cs.at_ 0 _ rfl,(show 2<1000 by decide),?_⟩
 have mk6:=mk5.put (v':= .ins Zk dx (fJ "borne" (.ref BO) [("posts",.ref PL),("owners",.ref OW)])) nI
 generalize upd (upd H3 BO _) a _=H4 at mk6
 obtain⟨o3,ho3⟩:∃o3:HO,o3= .ins Zk dx [("posts",.ref PL),("owners",.ref OW),("borne",.ref BO)]:=⟨_,rfl⟩
 have mk6':Mk0 CA H a H4 ((a,o3)::(PL,.lst (ps.map V.ref))::(OW,.dK [])::(BO,.lst [])::[]) ps (ms.map fun m=>S0 m.1.toNat m.2.toNat v.toNat) op:=by rw[ho3];exact mk6
 clear mk mk1 mk2 mk3 mk4 mk5 mk6
 refine⟨⟨_,SqL.of (mk6'.kp _ _ hcla ecl)⟩,dX (xs:=ts.map V.ref) (fun i ys H'=>∃sas:List Addr,ys=sas.map V.ref/\sas.length=i/\Mk0 CA H a H' ((a,o3)::(PL,.lst (ps.map V.ref))::(OW,.dK [])::(BO,.lst [])::lsC sas (List.replicate i [])) ps (ms.map fun m=>S0 m.1.toNat m.2.toNat v.toNat) op) ?_ ?_ ?_ ?_ ?_⟩
 ·rintro i ys H' hi ⟨sas,rfl,hp,_⟩
  rw[Ya]at hi ⊢
  exact bW (by omega)
 ·exact⟨[],rfl,rfl,mk6'⟩
 ·rintro i ys H' hi ⟨sas,rfl,hp,mk⟩
  exact SqL.of (mk.kp _ _ hcla ecl)
 ·rintro i x ys H' hx ⟨sas,rfl,hp,mk⟩
  conv=>whnf
  refine⟨aL rfl,fun s1 hs1=>⟨sas++[s1],by rw[Yn];rfl,by rw[Yc,hp];rfl,?_⟩⟩
  rw[vO i hp]
  exact Mk0.ins (L1:=(a,o3)::(PL,.lst (ps.map V.ref))::(OW,.dK [])::(BO,.lst [])::lsC sas (List.replicate i [])) (L2:=[]) (by rw[YC];exact mk) hs1
 rintro ys H5 ⟨sas,rfl,hsl,mk7⟩ SA hSA
 rw[Ya,tl]at hsl mk7
 have mk8:=Mk0.ins (L1:=(a,o3)::(PL,.lst (ps.map V.ref))::(OW,.dK [])::(BO,.lst [])::[]) (L2:=lsC sas (List.replicate ms.length [])) (v:= .lst (sas.map V.ref)) mk7 hSA
 subst ho3
 refine⟨dx,_,mk8.cs.at_ 0 _ rfl,(show 3<1000 by decide),?_⟩
 have mk9:=mk8.put (v':= .ins Zk dx (fJ "sayings" (.ref SA) [("posts",.ref PL),("owners",.ref OW),("borne",.ref BO)])) nI
 generalize upd (upd H5 SA _) a _=H6 at mk9
 obtain⟨o4,ho4⟩:∃o4:HO,o4= .ins Zk dx [("posts",.ref PL),("owners",.ref OW),("borne",.ref BO),("sayings",.ref SA)]:=⟨_,rfl⟩
 have mk9':Mk0 CA H a H6 ((a,o4)::(PL,.lst (ps.map V.ref))::(OW,.dK [])::(BO,.lst [])::(SA,.lst (sas.map V.ref))::lsC sas (List.replicate ms.length [])) ps (ms.map fun m=>S0 m.1.toNat m.2.toNat v.toNat) op:=by rw[ho4];exact mk9
 clear mk6' mk7 mk8 mk9
 refine⟨⟨_,SqL.of (mk9'.kp _ _ hcla ecl)⟩,dX (xs:=ts.map V.ref) (fun i ys H'=>∃hes:List Addr,ys=hes.map V.ref/\hes.length=i/\Mk0 CA H a H' ((a,o4)::(PL,.lst (ps.map V.ref))::(OW,.dK [])::(BO,.lst [])::(SA,.lst (sas.map V.ref))::(lsC sas (List.replicate ms.length [])++lsC hes (List.replicate i []))) ps (ms.map fun m=>S0 m.1.toNat m.2.toNat v.toNat) op) ?_ ?_ ?_ ?_ ?_⟩
 ·rintro i ys H' hi ⟨hes,rfl,hp,_⟩
  rw[Ya]at hi ⊢
  exact bW (by omega)
 ·exact⟨[],rfl,rfl,by rw[show lsC [] (List.replicate 0 [])= [] from rfl,YC];exact mk9'⟩
 ·rintro i ys H' hi ⟨hes,rfl,hp,mk⟩
  exact SqL.of (mk.kp _ _ hcla ecl)
 ·rintro i x ys H' hx ⟨hes,rfl,hp,mk⟩
  conv=>whnf
  refine⟨aL rfl,fun s1 hs1=>⟨hes++[s1],by rw[Yn];rfl,by rw[Yc,hp];rfl,?_⟩⟩
  rw[vO i hp,<-YF]
  exact Mk0.ins (L1:=(a,o4)::(PL,.lst (ps.map V.ref))::(OW,.dK [])::(BO,.lst [])::(SA,.lst (sas.map V.ref))::(lsC sas (List.replicate ms.length [])++lsC hes (List.replicate i []))) (L2:=[]) (by rw[YC];exact mk) hs1
 rintro ys H7 ⟨hes,rfl,hhl,mk10⟩ HE hHE
 rw[Ya,tl]at hhl mk10
 have mk11:=Mk0.ins (L1:=(a,o4)::(PL,.lst (ps.map V.ref))::(OW,.dK [])::(BO,.lst [])::(SA,.lst (sas.map V.ref))::[]) (L2:=lsC sas (List.replicate ms.length [])++lsC hes (List.replicate ms.length [])) (v:= .lst (hes.map V.ref)) mk10 hHE
 subst ho4
 refine⟨dx,_,mk11.cs.at_ 0 _ rfl,(show 4<1000 by decide),?_⟩
 have mk12:=mk11.put (v':= .ins Zk dx (fJ "hearings" (.ref HE) [("posts",.ref PL),("owners",.ref OW),("borne",.ref BO),("sayings",.ref SA)])) nI
 generalize upd (upd H7 HE _) a _=H8 at mk12
 refine⟨aL rfl,fun EV hEV=>?_⟩
 have mk13:=Mk0.ins (L1:=(a,.ins Zk dx [("posts",.ref PL),("owners",.ref OW),("borne",.ref BO),("sayings",.ref SA),("hearings",.ref HE)])::(PL,.lst (ps.map V.ref))::(OW,.dK [])::(BO,.lst [])::(SA,.lst (sas.map V.ref))::(HE,.lst (hes.map V.ref))::[]) (L2:=lsC sas (List.replicate ms.length [])++lsC hes (List.replicate ms.length [])) (v:= .lst []) mk12 hEV
 refine⟨dx,_,mk13.cs.at_ 0 _ rfl,(show 5<1000 by decide),?_⟩
 have mk14:=mk13.put (v':= .ins Zk dx (fJ "happened" (.ref EV) [("posts",.ref PL),("owners",.ref OW),("borne",.ref BO),("sayings",.ref SA),("hearings",.ref HE)])) nI
 generalize upd (upd H8 EV _) a _=H9 at mk14
 have mk15:Mk0 CA H a H9 (jQ Zk a ⟨dx,PL,OW,BO,SA,HE,EV,ps,sas,hes, [],op⟩ (R0 ms v)) ps (R0 ms v).ps op:=mk14
 obtain⟨o,hR,hn⟩:=mk15.fin hsl hhl l5
 exact q1 ⟨⟨by omega,l5⟩,hok⟩ H9 o hR hn mk15.kp
variable (ZcY:MB P w K mg base (CXR P w) 9 ZeW Zi8 ["self","post","name","data"] (a3Q K Zk CA ZbN ZcG ZjI))
include Zq Zz Zae ZeN Za Zb Zl Zb9 Zaj Zde Zx ZcT Zs in
theorem Zln (F0:Fun K "hand" "Rail.hand" Zjt ZeW Zi8):type_of% ZcY:=by
 refine mbM ["self","post","name","data","taker"] F0 fun Sc0=>F0.okR Sc0 (fun vs H Q E h=>?_) fun cdv A outer s H vs Q E hr h=>?_
 ·obtain⟨r,R,o,w,k,n,a,ds,rfl,_⟩:=h
  rfl
 obtain⟨r,R,o,w,k,n,a,ds,rfl,hR,hS,hl,how,hwt,q1,q2,q3⟩:=h
 have nd:=Sc0.nd
 refine⟨_,(aF (bB (i:=4) nd rfl (Or.inl rfl) (bQ Zb Zl Zs.1 (hr.mono (by decide)) Zs.2 .nil (iJ fun _ _ _ z=>z) (dv 0) (aA (dv 1) aD))) (aF (bC (aU Zx.1 (hr.mono (by decide)) rfl Zx.2.2.2 Zx.2.2.1 Zx.2.1 .nil (iJ fun _ _ _ z=>z) (aA (dv 2) (aA (dv 3) aD)))) (aF (bH (aY nD (a4V (b0R hr) (aP Zb Zaj (dv 0)) (dv 2) (dv 1) ⟨rfl,rfl,rfl,rfl⟩) (dv 1) (aV _)) (aG (dN YR ZeN Zde (aA bA aD))) aW) (aF (a8G (b0R hr) (aP Zb Zaj (dv 0)) (dv 2) (dv 1) rfl) (aG (bC (bQ Za Zb9 ZcT.1 (hr.mono (by decide)) ZcT.2 .nil (iJ fun _ _ _ z=>z) (dv 4) (aA (dv 2) (aA (dv 3) aD))))))))),?_⟩
 refine⟨⟨w.dx,_,hR.er,rfl⟩,r,R,o,w,k,rfl,hR,fun i p e hp=>?_,fun no H1 g1=>q1 no H1 g1⟩
 subst e
 obtain⟨S,oi,eS,hP,le,back⟩:=hR.step hp
 have hil:i<R.ps.length:=(Ye.mp eS).1
 refine⟨n,a,ds,rfl,hS,hl,fun ok H1 g1=>?_,fun no H1 g1=>q2 ⟨by omega,by omega⟩ no H1 g1⟩
 obtain⟨j,ej,q4,q5⟩:=q3 i S rfl eS ok
 have hR1:=hR.same g1
 refine⟨w.dx,_,.ref w.OW,hR1.er,rfl,w.OW,rfl,.inl ⟨_,.inl hR1.eOW⟩,_,.inl ⟨_,.inl n,.inl hR1.eOW,rfl,rfl⟩,?_⟩
 rw[ej]
 conv=>whnf
 refine bN (fun c=>?_) (fun c=>?_)
 ·have c1:¬ j=((i:Nat):Int):=fun z=>by
   have c2:(!decide (j=((i:Nat):Int)))=true:=c
   rw[Yl z]at c2
   cases c2
  exact⟨aL rfl,q4 c1 _ g1⟩
 have c1:j=((i:Nat):Int):=YG fun z=>c (by
  show (!decide (j=((i:Nat):Int)))=true
  rw[Yu z];rfl)
 refine⟨w.dx,_,.ref w.OW,hR1.er,rfl,w.OW,_,rfl,.inl ⟨_,.inl n,hR1.eOW,rfl,bW (by omega),rfl⟩,?_⟩
 obtain⟨hR2,m2⟩:=hR1.put (k:=2) (R':={ R with ow:=putK R.ow (.inl n) (.int ((i:Nat):Int)) }) (w':=w) rfl b5S rfl rfl rfl rfl rfl rfl rfl rfl hR1.ev
 have hS2:=a7H (v:= .dK (putK R.ow (.inl n) (.int ((i:Nat):Int)))) (g1.seq hS) hR1.eOW
 generalize upd H1 w.OW _=H2 at hR2 m2 hS2
 obtain⟨S2,oi2,eS2,hP2,le2,back2⟩:=hR2.step hp
 have ee:S2=S:=Yq (eS2.symm.trans eS)
 subst ee
 obtain⟨dq,ch,vt',wl_,ul,cc,nw,ep⟩:=hP2.cell
 obtain⟨nw5,ob5,bd5,fin5⟩:=hP2.hand
 refine⟨⟨dq,_,ep,rfl⟩,p,nw5,S2,ob5,n,a,ds,rfl,bd5,hS2,hl,hwt _ (Yp eS),fun _ H3 d hd b k=>?_,fun no=>absurd ok no⟩
 obtain⟨o3,hP3,mv3⟩:=fin5 ok H3 d hd b k
 obtain⟨o',op',hR3,m3⟩:=back2 H3 o3 _ mv3 hP3
 exact q5 c1 H3 o' ⟨_,hR3⟩ ((Mv.of g1).trans (m2.trans m3))
variable (Zbi:MB P w K mg base (CX0) 12 ZcM Zf6 ["self","hearing"] (a3O K Zk CA b5B))
include ZaB ZI Zq Zae ZS Zu Zhx Ze6 Za Zb Zcb Zca ZF ZN ZX ZQ ZP ZcW ZcU in
theorem ZiX (F0:Fun K "make_turn" "Rail.make_turn" Zgb ZcM Zf6):type_of% Zbi:=by
 refine mbM ["self","hearing","said","bit","heard","post","own","word"] F0 fun Sc0=>F0.ok Sc0 (fun vs H Q E h=>?_) fun cdv A outer s H vs Q E hr h=>?_
 ·obtain⟨r,R,o,w,f,hs,rfl,_⟩:=h
  rfl
 obtain⟨r,R,o,w,f,hs,rfl,hR,ne,sz,q⟩:=h
 have nd:=Sc0.nd
 refine⟨_,(aF (fZ (j:=2) nd rfl rfl rfl (ix:=[]) (dC (aP Zb ZF (dv 0))) (fun C fp s0 H0 at0=>fB) (fun C fp s0 H0 at0=>(bR Za Zcb ZcW.1 (hr.mono (by decide)) ZcW.2 .nil aN (dv 0))) rfl rfl (by rfl) (show ([".0","post"]:List Str).Nodup by decide +kernel)) (aF (bB (i:=3) nd rfl (Or.inr rfl) (aZ (a2P rfl) rfl Zhx a6T (aA (dv 2) aD))) (aF (fZ (j:=4) nd rfl rfl rfl (ix:=[1,0,3]) (cV rfl ZS (aA (aZ cP rfl Zu bT (aA (aP Zb ZF (dv 0)) aD)) aD)) (fun C fp s0 H0 at0=>fB) (fun C fp s0 H0 at0=>(a4X (K:=K) a4D (hr.mono (by decide)) (pv 1) (aA (dv 0) (aA (aZ (b1A (K:=K)) rfl Zu bT (aA (aP Zb ZN (dv 2)) aD)) (aA (dv 3) aD))))) rfl rfl (by rfl) (show ([".0","post","hearing","self","bit"]:List Str).Nodup by decide +kernel)) (aF (dZ YW rfl (a8Z rfl Ze6 (aA (aP Zb ZF (dv 0)) aD)) (mg2 (b2E rfl (uZ (cQ (i:=5) nd rfl (Or.inl rfl)) (uZ (cQ (i:=6) nd rfl (Or.inl rfl)) a8N)))) (aF (bC (cO (bI cR (aP Zb ZX (dv 0)) (dv 5) (fun _ _=>rfl)) (aA (bI cR (dv 2) (dv 5) (fun _ _=>rfl)) aD))) (aF (bC (cO (bI cR (aP Zb ZQ (dv 0)) (dv 5) (fun _ _=>rfl)) (aA (bI cR (dv 4) (dv 5) (fun _ _=>rfl)) aD))) (aF (bB (i:=7) nd rfl (Or.inl rfl) (bQ Za Zca ZcU.1 (hr.mono (by decide)) ZcU.2 .nil aN (dv 6) (aA (bI cR (dv 4) (dv 5) (fun _ _=>rfl)) aD))) (aG (bH (aY nD (dv 7) bA (aV _)) (aG (bC (cO (aP Zb ZP (dv 0)) (aA (cF (aA (aZ cP rfl Zu bT (aA (aP Zb ZN (dv 0)) aD)) (aA (dv 5) (aA (dv 7) aD)))) aD)))) aW)))))) (aF (bC (cO (aP Zb ZN (dv 0)) (aA (dv 3) aD))) (aG (aM (dv 3)))))))),?_⟩
 refine⟨w.dx,_,.ref w.PL,hR.er,rfl,⟨_,SqL.of hR.ePL⟩,dX (xs:=w.ps.map V.ref) (fun i ys H'=>Same H H'/\ys=((R.ps.take i).map bL).map V.int) ?_ ?_ ?_ ?_ ?_⟩
 ·rintro i ys H' hi ⟨g,rfl⟩
  rw[Ya,Ya,Yo]
  have:=hR.lp
  exact bW (by omega)
 ·exact⟨Same.refl _,rfl⟩
 ·rintro i ys H' hi ⟨g,rfl⟩
  exact SqL.of (g _ _ hR.ePL)
 ·rintro i x ys H' hx ⟨g,rfl⟩
  rw[Yi]at hx
  obtain⟨p,hp,rfl⟩:=YO.mp hx
  obtain⟨S,oi,eS,hP,_⟩:=(hR.same g).step hp
  obtain⟨dq,ch,vt',wl_,ul,cc,nw,ep⟩:=hP.cell
  obtain⟨hil,eS'⟩:=Ye.mp eS
  have tk:R.ps.take (i+1)=R.ps.take i++[S]:=by rw[Yh hil,eS']
  conv=>whnf
  refine⟨⟨dq,_,ep,rfl⟩,p,S,oi,rfl,hP,g,?_⟩
  rw[tk,Yn,Yn]
  rfl
 rintro ys H1 ⟨g1,rfl⟩ sd hsd
 rw[Ya,hR.pl,Ym (Yd _)]
 have g2:=aJ hsd (.lst ((R.ps.map bL).map V.int))
 have esd:=aB (H:=H1) (a:=sd) (o:= .lst ((R.ps.map bL).map V.int))
 generalize upd H1 sd _=H2 at g2 esd
 refine⟨_,SqL.of esd,fun z=>ne (by simpa using z),fun b bm bl=>?_⟩
 obtain⟨hh,h01,q⟩:=q b ⟨bm,bl⟩
 have hR2:=hR.same (g1.trans g2)
 have lp:=hR.lp
 refine⟨w.dx,_,.ref w.PL,hR2.er,rfl,_,.inl (SqL.of hR2.ePL),?_⟩
 rw[Ya,hR2.pl]
 refine⟨⟨by omega,by omega⟩,?_⟩
 rw[YI]
 refine gC (lo:=0) (n:=R.ps.length) (fun i ys H'=>Same H2 H'/\ys=((List.range i).map (hs b)).map V.int) ?_ ?_ ?_ ?_
 ·rintro i ys H' hi ⟨g,rfl⟩
  rw[Ya,Ya,Xk]
  exact bW (by omega)
 ·exact⟨Same.refl _,rfl⟩
 ·rintro i ys H' hi ⟨g,rfl⟩
  have hR3:=hR2.same g
  obtain⟨f1,f2⟩:=hh i hi H' ((g1.trans g2).trans g)
  conv=>whnf
  rw[Xn]
  refine⟨f,rfl,f1,w.dx,_,.ref w.BO,hR3.er,rfl,_,.inl (SqL.of hR3.eBO),f1,?_⟩
  rw[Ya]
  refine f2 _ fun H4 g4=>⟨g.trans g4,?_⟩
  rw[List.range_succ,Yn,Yn]
  rfl
 rintro ys H3 ⟨g3,rfl⟩ hd hhd
 have esd3:=g3 _ _ esd
 have hR3:=(hR2.same g3).same (aJ hhd (.lst (((List.range R.ps.length).map (hs b)).map V.int)))
 have esd4:=aJ hhd (.lst (((List.range R.ps.length).map (hs b)).map V.int)) _ _ esd3
 have ehd:=aB (H:=H3) (a:=hd) (o:= .lst (((List.range R.ps.length).map (hs b)).map V.int))
 have gs:Same H (upd H3 hd (.lst (((List.range R.ps.length).map (hs b)).map V.int))):=((g1.trans g2).trans g3).trans (aJ hhd _)
 have nsd:¬ o sd:=fun z=>by
  have:=hR.al sd z
  cases e:H sd with
  |none=>exact this e
  |some u=>rw[g1 _ _ e]at hsd;cases hsd
 have nhd:¬ o hd:=fun z=>by
  have:=hR.al hd z
  cases e:H hd with
  |none=>exact this e
  |some u=>rw[g3 _ _ ((g1.trans g2) _ _ e)]at hhd;cases hhd
 generalize upd H3 hd _=H4 at hR3 esd4 ehd gs
 obtain⟨HS,eHS⟩:∃HS,HS=(List.range R.ps.length).map (hs b):=⟨_,rfl⟩
 rw[<-eHS]at ehd q
 have hsi:∀i,i<R.ps.length->HS[i]? =some (hs b i):=fun i hi=>by rw[eHS,Yi,Jd hi];rfl
 refine⟨w.dx,_,.ref w.PL,hR3.er,rfl,⟨_,SqL.of hR3.ePL⟩,a6C (xs:=w.ps.map V.ref) (a:=w.PL) (fun i σ H'=>∃(o' op:Own)(evs:List V)(x5 x6 x7:Option V),σ= [some (.ref r),some (.ref f),some (.ref sd),some (.int b),some (.ref hd),x5,x6,x7]/\cB Zk CA H' r (aX R HS i) o' { w with op:=op,evs:=evs }/\Mv o H4 o' H') ⟨o,w.op,w.evs,_,_,_,rfl,hR3,Mv.refl⟩ ?_ ?_ ?_⟩
 ·rintro i σ H' hi ⟨o',op,evs,x5,x6,x7,rfl,hRi,m⟩
  exact SqL.of hRi.ePL
 ·rintro i x σ H' pr hx ⟨o',op,evs,x5,x6,x7,rfl,hRi,m⟩ hpr
  rw[Yi]at hx
  obtain⟨p,hp,rfl⟩:=YO.mp hx
  have hil:i<R.ps.length:=by rw[<-hR.pl];exact(Ye.mp hp).1
  obtain⟨h1,h2,h3,h4,h5,h6,h7⟩:=iY R HS i
  obtain⟨h6a,h6b,h6c⟩:=h6 i (Yd _)
  have hsl:=hR.l2
  have hhl:=hR.l4
  have eS:R.ps[i]? =some R.ps[i]:=Yb hil
  have eX:R.sa[i]? =some (R.sa[i]'(by omega)):=Yb (by omega)
  have eY:R.he[i]? =some (R.he[i]'(by omega)):=Yb (by omega)
  have zX:=sz.sa _ (YL (show i<R.sa.length by omega))
  have zY:=sz.he _ (YL (show i<R.he.length by omega))
  have zU:=sz.up _ (YL hil)
  have zE:=sz.ev
  have zB:=sz.bo
  have hsuc:=gA eS (hsi i hil) eX eY
  generalize R.ps[i]=S at eS hsuc zU
  generalize R.sa[i]'(by omega)=X at eX hsuc zX
  generalize R.he[i]'(by omega)=Y at eY hsuc zY
  have hRp:=hRi.same (aJ hpr (.tup [.int ((i:Nat):Int),.ref p]))
  have mp:=m.trans (Mv.of (aJ hpr (.tup [.int ((i:Nat):Int),.ref p])))
  refine⟨_,_,SqT.of aB,?_⟩
  generalize upd H' pr _=H5 at hRp mp
  obtain⟨a1,ha1,ka1⟩:=hRp.sa_at (h6b.trans eX)
  have ea1:=hRp.cs.at_ _ _ ka1
  have ks:∀{o1:Own}{H1:Hp},Mv o H4 o1 H1->¬ o1 sd/\¬ o1 hd/\H1 sd=some (.lst ((R.ps.map bL).map V.int))/\H1 hd=some (.lst (HS.map V.int)):=fun mm=>⟨fun z=>(mm.2 _ z).elim nsd fun y=>(by rw[esd4]at y;cases y),fun z=>(mm.2 _ z).elim nhd fun y=>(by rw[ehd]at y;cases y),mm.1 _ _ esd4 (.inl nsd),mm.1 _ _ ehd (.inl nhd)⟩
  have sdi:atI ((R.ps.map bL).map V.int) ((i:Nat):Int)=some (.int (bL S)):=cX (by rw[Yi,Yi,eS];rfl)
  have hdi:atI (HS.map V.int) ((i:Nat):Int)=some (.int (hs b i)):=cX (by rw[Yi,hsi i hil];rfl)
  refine⟨w.dx,_,.ref w.SA,hRp.er,rfl,_,.ref a1,SqL.of hRp.eSA,cX (by rw[Yi,ha1];rfl),⟨_,SqL.of ea1⟩,_,_,SqL.of (ks mp).2.2.1,sdi,_,ea1,bW (by rw[Ya];omega),?_⟩
  obtain⟨hR6,m6⟩:=hRp.say (b:=bL S) (h6b.trans eX) ha1
  have mq:=mp.trans m6
  generalize upd H5 a1 _=H6 at hR6 m6 mq
  obtain⟨b1,hb1,kb1⟩:=hR6.he_at (i:=i) (xs:=Y) (h6c.trans eY)
  have eb1:=hR6.cs.at_ _ _ kb1
  refine⟨w.dx,_,.ref w.HE,hR6.er,rfl,_,.ref b1,SqL.of hR6.eHE,cX (by rw[Yi,hb1];rfl),⟨_,SqL.of eb1⟩,_,_,SqL.of (ks mq).2.2.2,hdi,_,eb1,bW (by rw[Ya];omega),?_⟩
  obtain⟨hR7,m7⟩:=hR6.hrd (i:=i) (xs:=Y) (b:=hs b i) (h6c.trans eY) hb1
  have mr:=mq.trans m7
  generalize upd H6 b1 _=H7 at hR7 m7 mr
  obtain⟨S',oi,eS',hP,_,back⟩:=hR7.step hp
  have es:S'=S:=Yq (eS'.symm.trans (h6a.trans eS))
  subst es
  obtain⟨dq,ch,vt',wl_,ul,cc,nw,ep⟩:=hP.cell
  refine⟨⟨dq,_,ep,rfl⟩,_,_,SqL.of (ks mr).2.2.2,hdi,p,S',oi,_,rfl,hP,h01 i,zU,fun H8 oi' hP8 m8=>?_⟩
  obtain⟨o8,op8,hR8,m8'⟩:=back H8 oi' _ m8 hP8
  have ms:=mr.trans m8'
  have eR:aX R HS (i+1)={ ({ aX R HS i with ps:=(aX R HS i).ps.set i (bF S' (hs b i)).2,sa:=(aX R HS i).sa.set i (X++[bL S']),he:=(aX R HS i).he.set i (Y++[hs b i]) }:RS) with ev:=(aX R HS i).ev++evt R.bo.length i (bF S' (hs b i)).1 }:=hsuc
  obtain⟨wd,ewd⟩:∃wd,wd=(bF S' (hs b i)).1:=⟨_,rfl⟩
  rw[<-ewd]at eR ⊢
  conv=>whnf
  refine bN (fun c=>?_) (fun c=>?_)
  ·have c1:wd≠"":=fun z=>by
    have c2:(!decide (wd=""))=true:=c
    rw[Yl z]at c2
    cases c2
   refine⟨w.dx,_,.ref w.EV,hR8.er,rfl,⟨_,SqL.of hR8.eEV⟩,w.dx,_,.ref w.BO,hR8.er,rfl,_,.inl (SqL.of hR8.eBO),?_⟩
   refine⟨aL rfl,fun t ht=>?_⟩
   have hR9:=hR8.same (aJ ht (.tup [.int ((((aX R HS i).bo.map V.int).length:Nat):Int),.int ((i:Nat):Int),.str wd]))
   have mt:=ms.trans (Mv.of (aJ ht (.tup [.int ((((aX R HS i).bo.map V.int).length:Nat):Int),.int ((i:Nat):Int),.str wd])))
   have et:=aB (H:=H8) (a:=t) (o:= .tup [.int ((((aX R HS i).bo.map V.int).length:Nat):Int),.int ((i:Nat):Int),.str wd])
   refine⟨_,hR9.eEV,bW (by have:=hR9.ev.len;have h7':evs.length=(aX R HS i).ev.length:=this;show evs.length<=1000;omega),?_⟩
   rw[Ya,h1]at et
   obtain⟨hR10,m10⟩:=hR9.happen (e:=(R.bo.length,i,wd)) (by rw[Ya,h1];exact et)
   refine⟨o8,op8,evs++[.ref t],_,_,_,rfl,?_,mt.trans m10⟩
   rw[eR,show evt R.bo.length i wd= [(R.bo.length,i,wd)] from if_neg c1]
   exact hR10
  ·have c1:wd="":=YG fun z=>c (by
    show (!decide (wd=""))=true
    rw[Yu z];rfl)
   refine⟨o8,op8,evs,_,_,_,rfl,?_,ms⟩
   rw[eR,show evt R.bo.length i wd= [] from if_pos c1,YC]
   exact hR8
 rintro σ H5 ⟨o5,op,evs,x5,x6,x7,rfl,hR5,m5⟩
 rw[Ya,hR.pl]at hR5
 have zB:=sz.bo
 obtain⟨h1,_⟩:=iY R HS R.ps.length
 refine⟨w.dx,_,.ref w.BO,hR5.er,rfl,⟨_,SqL.of hR5.eBO⟩,_,hR5.eBO,bW (by rw[Ya,h1];omega),?_⟩
 obtain⟨hR6,m6⟩:=hR5.bear (b:=b)
 refine q _ o5 ⟨{ w with op:=op,evs:=evs },?_⟩ ((Mv.of gs).trans (m5.trans m6))
 have eT:lQ R HS b={ aX R HS R.ps.length with bo:=(aX R HS R.ps.length).bo++[b] }:=by unfold lQ;rw[h1]
 rw[eT]
 exact hR6
variable (Zc1:MB P w K mg base (CXR P w) 13 ZeZ ZgV ["self","wrong_posts"] (a3M Zk CA ZbN 965))
include Zz Zae Z3 Zb Zl Za8 ZfG ZfH hc_Rail_turn Zs Zbi in
theorem Zlq (F0:Fun K "turn" "Rail.turn" Zc6 ZeZ ZgV):type_of% Zc1:=by
 refine mbM ["self","wrong_posts","wrong","post"] F0 fun Sc0=>F0.okL hc_Rail_turn Sc0 (fun vs H Q E h=>?_) fun A outer s H vs Q E hr h=>?_
 ·obtain⟨r,R,o,w,wl,ws,ox,rfl,_⟩:=h
  rfl
 obtain⟨r,R,o,w,wl,ws,ox,rfl,ewl,wsl,hR,ne,sz,hT,hox,q1,q2⟩:=h
 have nd:=Sc0.nd
 refine⟨_,(yW (bB (i:=2) nd rfl (Or.inr rfl) (cG (dO (aY b4O (dv 1) tQ (aV _)) (eE aD) (cU dU rfl Z3 fQ (aA (dv 1) aD))))) (yW (dZ PassesOwn.leaving rfl (dC (dv 2)) (cQ (i:=3) nd rfl (Or.inl rfl)) (aG (bC (bQ Zb Zl Zs.1 (hr.mono (by decide)) Zs.2 .nil (iJ fun _ _ _ z=>z) (dv 0) (aA (dv 3) aD))))) (b2F (P:=965) (bm:=4) (iq:=iqT) (y:="wrong") (iy:=2) (Q:=Q) (dv 0) Zb Za8 Zbi.1 (hr.mono (by decide)) Zbi.2 rfl ZfH ZfG (fun c hc=>clT hc) rfl rfl rfl rfl rfl))),?_⟩
 refine⟨fun v H'=>∃l,v= .ref l/\H l=none/\H'=upd H l (.lst (ws.map V.int)),?_,?_⟩
 ·conv=>whnf
  exact⟨_,.inl (SqL.of ewl),fun l hl=>⟨l,rfl,hl,rfl⟩⟩
 rintro v H1 ⟨l,rfl,hl,eH⟩
 have g1:Same H H1:=by rw[eH];exact aJ hl _
 have el:H1 l=some (.lst (ws.map V.int)):=by rw[eH];exact aB
 clear eH
 have hR1:=hR.same g1
 have hT1:=hT.same g1
 have nl:∀i:Nat,i<R.ps.length->∃p,w.ps[i]? =some p:=fun i hi=>⟨_,Yb (by rw[hR.pl];exact hi)⟩
 refine⟨⟨_,SqL.of el⟩,gP (xs:=ws.map V.int) (fun i σ H'=>(∃x,σ= [some (.ref r),some (.ref wl),some (.ref l),x])/\H'=H1/\∀x∈ws.take i,0<=x/\x<((R.ps.length:Nat):Int)) ⟨⟨_,rfl⟩,rfl,fun x hx=>by simp at hx⟩ ?_ ?_ ?_⟩
 ·rintro i σ H' hi ⟨_,rfl,_⟩
  exact SqL.of el
 ·rintro i v σ H' hv ⟨⟨x,rfl⟩,rfl,hall⟩
  rw[Yi]at hv
  obtain⟨k,hk,rfl⟩:=YO.mp hv
  obtain⟨hil,ek⟩:=Ye.mp hk
  refine⟨⟨w.dx,_,hR1.er,rfl⟩,r,R,o,w,k,rfl,hR1,fun i' p e hp=>⟨⟨_,rfl⟩,rfl,?_⟩,fun no H2 g2=>q2 (fun z=>no (z k (ek▸YL hil))) H2 (g1.trans g2)⟩
  have hi':i'<R.ps.length:=by rw[<-hR.pl];exact(Ye.mp hp).1
  rw[Yh hil]
  intro z hz
  rcases YA.mp hz with hz | hz
  ·exact hall z hz
  ·rw[Yj,ek,e]at hz
   rw[hz]
   exact⟨by omega,by omega⟩
 rintro σ H2 ⟨⟨x,rfl⟩,rfl,hall⟩
 rw[Ya,Ym (Yd _)]at hall
 refine⟨r,w.dx,_,.ref l,rfl,hR1.er,rfl,rfl,hT1.tabP,fun f c c' H3 hf hc hsm hC3 hor hc' hcell hlam=>?_⟩
 obtain⟨nP2,qs,t1,t2,t3⟩:=hT1
 have nP:¬ o 965:=fun z=>nP2 (.inl z)
 have nPx:∀x v,H2 x=some v->(o x\/isT v)->x≠965:=fun x v e z y=>by
  rcases z with z | z
  ·exact nP (y▸z)
  ·rw[y,t1]at e;cases e;exact b0M z
 have hR3:cB Zk CA H3 r R o w:=hR1.move fun x v e z=>hsm x v (nPx x v e z) e
 have lP:l≠965:=fun y=>by rw[y,t1]at el;cases el
 have hL:wG H3 f ws:=⟨c,c',l,hlam,hc',hcell,hsm l _ lP el⟩
 have nc:¬ Or2 o ox c':=by
  rcases hor with z | ⟨qs',u1,_,u3⟩
  ·rintro (y | y)
   ·exact hR1.al c' y z
   ·cases e:H c' with
    |none=>exact hox c' y e
    |some u=>rw[g1 _ _ e]at z;cases z
  ·rw[t1]at u1
   cases u1
   rcases t3 with t3 | ⟨d,d1,d2,d3⟩
   ·cases t3.symm.trans u3
   ·cases (show codeAmong a4O _=_ from u3).symm.trans d1;exact d3
 have hT3:jN 965 (Or2 o ox) H3:=by
  obtain⟨qs',u1,u2,u3⟩:=hC3
  exact⟨nP2,qs',u1,u2,.inr ⟨c',u3,hc',nc⟩⟩
 have m3:MvP 965 o H2 o H3:=⟨fun x v e z=>hsm x v (fun y=>z.elim (fun z=>z (.inr y)) fun z=>(by rw[y,t1]at e;cases e;exact b0M z)) e,fun x hx=> .inl hx⟩
 refine⟨r,R,o,w,f,fun b i=>wrB ws ((i:Nat):Int) b,rfl,hR3,ne,sz,fun b hb=>⟨fun i hi H4 g4=>⟨FnE.lam (g4 _ _ hlam),fun Q1 k=>⟨ws,_,_,_,rfl,hL.same g4,k⟩⟩,fun i=>b0C (hR3.says hb.1),fun H' o' hR' m'=>q1 hall b H' o' hb hR' (hT3.mv2 m') ?_⟩⟩
 refine(Mv.of g1).trans (m3.trans ⟨fun x v e z=>m'.1 x v e (z.imp_left fun y q=>y (.inl q)),fun x hx=>?_⟩)
 rcases hx with hx | hx
 ·exact(m'.2 x hx).imp .inl id
 ·exact .inl (.inr hx)
variable (ZaH:MB P w K mg base (CX0) 1 ZdN ZhF ["self"] (wQ Zk CA))
include Zae Z3 Zb ZP in
theorem Zkq (F0:Fun K "events" "Rail.events" ZhX ZdN ZhF):type_of% ZaH:=by
 refine mbM ["self"] F0 fun Sc0=>F0.ok Sc0 (fun vs H Q E h=>?_) fun cdv A outer s H vs Q E hr h=>?_
 ·obtain⟨r,R,o,w,rfl,_⟩:=h
  rfl
 obtain⟨r,R,o,w,rfl,hR,q⟩:=h
 have nd:=Sc0.nd
 refine⟨_,(aG (aM (cU dU rfl Z3 fQ (aA (aP Zb ZP (dv 0)) aD)))),?_⟩
 exact⟨w.dx,_,.ref w.EV,hR.er,rfl,_,.inl (SqL.of hR.eEV),q⟩
variable (Zbn:MB P w K mg base (CXR P w) 9 ZfD ZjW ["self","post"] (b1X Zk CA ZbN b8P))
include Zz Zae Za Zb Zl Zcs Zdo Zs in
theorem ZlM (F0:Fun K "got" "Rail.got" Zkf ZfD ZjW):type_of% Zbn:=by
 refine mbM ["self","post"] F0 fun Sc0=>F0.okR Sc0 (fun vs H Q E h=>?_) fun cdv A outer s H vs Q E hr h=>?_
 ·obtain⟨r,R,o,w,k,rfl,_⟩:=h
  rfl
 obtain⟨r,R,o,w,k,rfl,hR,q1,q2⟩:=h
 have nd:=Sc0.nd
 refine⟨_,(aG (aM (bR Za Zcs Zdo.1 (hr.mono (by decide)) Zdo.2 .nil aN (bQ Zb Zl Zs.1 (hr.mono (by decide)) Zs.2 .nil (iJ fun _ _ _ z=>z) (dv 0) (aA (dv 1) aD))))),?_⟩
 refine⟨⟨w.dx,_,hR.er,rfl⟩,r,R,o,w,k,rfl,hR,fun i p e hp=>?_,fun no H1 g1=>q2 no H1 g1⟩
 obtain⟨S,oi,eS,hP,_⟩:=hR.step hp
 have q:=q1 i S e eS
 obtain⟨dq,ch,vt',wl_,ul,cc,nw,ep⟩:=hP.cell
 obtain⟨nwb,ob,bd⟩:=hP.bd
 exact⟨⟨dq,_,ep,rfl⟩,p,nwb,S,ob,rfl,bd,q⟩
variable (Zc0:MB P w K mg base (CXR P w) 9 ZeY Zja ["self","post"] (a4C Zk CA ZbN (fun R=>R.sa)))
include Zz Zae Z3 Zb Zl ZX Zs in
theorem Zlp (F0:Fun K "said" "Rail.said" Zjv ZeY Zja):type_of% Zc0:=by
 refine mbM ["self","post"] F0 fun Sc0=>F0.okR Sc0 (fun vs H Q E h=>?_) fun cdv A outer s H vs Q E hr h=>?_
 ·obtain⟨r,R,o,w,k,rfl,_⟩:=h
  rfl
 obtain⟨r,R,o,w,k,rfl,hR,q1,q2⟩:=h
 have nd:=Sc0.nd
 refine⟨_,(aF (bC (bQ Zb Zl Zs.1 (hr.mono (by decide)) Zs.2 .nil (iJ fun _ _ _ z=>z) (dv 0) (aA (dv 1) aD))) (aG (aM (cU dU rfl Z3 fQ (aA (bI cR (aP Zb ZX (dv 0)) (dv 1) (fun _ _=>rfl)) aD))))),?_⟩
 refine⟨⟨w.dx,_,hR.er,rfl⟩,r,R,o,w,k,rfl,hR,fun i p e hp=>?_,fun no H1 g1=>q2 no H1 g1⟩
 have hil:i<R.ps.length:=by rw[<-hR.pl];exact(Ye.mp hp).1
 have l2:=hR.l2
 have l4:=hR.l4
 have eX:R.sa[i]? =some (R.sa[i]'(by omega)):=Yb (by omega)
 generalize R.sa[i]'(by omega)=X at eX
 obtain⟨a1,ha1,ka1⟩:=hR.sa_at eX
 subst e
 exact⟨w.dx,_,.ref w.SA,hR.er,rfl,_,.ref a1,SqL.of hR.eSA,cX (by rw[Yi,ha1];rfl),_,.inl (SqL.of (hR.cs.at_ _ _ ka1)),q1 i X rfl eX⟩
variable (ZaS:MB P w K mg base (CXR P w) 9 Zef Zip ["self","post"] (a4C Zk CA ZbN (fun R=>R.he)))
include Zz Zae Z3 Zb Zl ZQ Zs in
theorem ZkR (F0:Fun K "heard" "Rail.heard" ZiG Zef Zip):type_of% ZaS:=by
 refine mbM ["self","post"] F0 fun Sc0=>F0.okR Sc0 (fun vs H Q E h=>?_) fun cdv A outer s H vs Q E hr h=>?_
 ·obtain⟨r,R,o,w,k,rfl,_⟩:=h
  rfl
 obtain⟨r,R,o,w,k,rfl,hR,q1,q2⟩:=h
 have nd:=Sc0.nd
 refine⟨_,(aF (bC (bQ Zb Zl Zs.1 (hr.mono (by decide)) Zs.2 .nil (iJ fun _ _ _ z=>z) (dv 0) (aA (dv 1) aD))) (aG (aM (cU dU rfl Z3 fQ (aA (bI cR (aP Zb ZQ (dv 0)) (dv 1) (fun _ _=>rfl)) aD))))),?_⟩
 refine⟨⟨w.dx,_,hR.er,rfl⟩,r,R,o,w,k,rfl,hR,fun i p e hp=>?_,fun no H1 g1=>q2 no H1 g1⟩
 have hil:i<R.ps.length:=by rw[<-hR.pl];exact(Ye.mp hp).1
 have l2:=hR.l2
 have l4:=hR.l4
 have eX:R.he[i]? =some (R.he[i]'(by omega)):=Yb (by omega)
 generalize R.he[i]'(by omega)=X at eX
 obtain⟨a1,ha1,ka1⟩:=hR.he_at eX
 subst e
 exact⟨w.dx,_,.ref w.HE,hR.er,rfl,_,.ref a1,SqL.of hR.eHE,cX (by rw[Yi,ha1];rfl),_,.inl (SqL.of (hR.cs.at_ _ _ ka1)),q1 i X rfl eX⟩
variable (ZcX:MB P w K mg base (CX0) 1 ZeV Zi7 ["self"] (a3R Zk CA))
include Zae Z3 Zb ZN in
theorem Zlm (F0:Fun K "bits" "Rail.bits" Zjs ZeV Zi7):type_of% ZcX:=by
 refine mbM ["self"] F0 fun Sc0=>F0.ok Sc0 (fun vs H Q E h=>?_) fun cdv A outer s H vs Q E hr h=>?_
 ·obtain⟨r,R,o,w,rfl,_⟩:=h
  rfl
 obtain⟨r,R,o,w,rfl,hR,q⟩:=h
 have nd:=Sc0.nd
 refine⟨_,(aG (aM (cU dU rfl Z3 fQ (aA (aP Zb ZN (dv 0)) aD)))),?_⟩
 exact⟨w.dx,_,.ref w.BO,hR.er,rfl,_,.inl (SqL.of hR.eBO),q⟩
structure Row where
 (st:Str) (k:Nat) (said bit:Int) (w:Str) (c:Int)
abbrev b7X (r:Row)(s:Addr):HO:= .tup [.ref s,.int r.said,.int r.bit,.str r.w,.int r.c]
abbrev stT (r:Row):HO:= .tup [.str r.st,.int ((r.k:Nat):Int)]
def b6W (H:Hp)(v:V)(r:Row):Prop:=∃t s,v= .ref t/\H t=some (b7X r s)/\H s=some (stT r)
inductive uH (H:Hp):List V->List Row->Prop
 |nil:uH H [] []
 |cons {v:V} {r:Row} {vs:List V} {rs:List Row}:b6W H v r->uH H vs rs->uH H (v::vs) (r::rs)
structure RL (H0 H:Hp)(L:Addr)(rs:List Row):Prop where
 fr:H0 L=none
 same:Same H0 H
 ex:∃ys,H L=some (.lst ys)/\uH H ys rs
structure Tn (S:PS)(r:Row)(S':PS):Prop where
 sh:S.now.shown=(r.st,r.k)
 sa:bL S=r.said
 bt:r.bit=0\/r.bit=1
 hr:bF S r.bit=(r.w,S')
 ct:S'.tot=r.c
inductive Go:PS->List Row->PS->Prop
 |nil {S:PS}:Go S [] S
 |cons {S S1 S2:PS} {r:Row} {rs:List Row}:Tn S r S1->Go S1 rs S2->Go S (r::rs) S2
theorem qK (S:PS)(b:Int):(bF S b).2.m1=S.m1/\(bF S b).2.m2=S.m2/\(bF S b).2.vt=S.vt/\(bF S b).2.wt.length<=S.wt.length:=by
 have hg:∀st w nx,(cT S st w nx).2.m1=S.m1/\(cT S st w nx).2.m2=S.m2/\(cT S st w nx).2.vt=S.vt/\(cT S st w nx).2.wt.length<=S.wt.length:=fun st w nx=>by unfold cT;split <;> exact⟨rfl,rfl,rfl,Yd _⟩
 have h1:∀sp,(cA S sp).2.m1=S.m1/\(cA S sp).2.m2=S.m2/\(cA S sp).2.vt=S.vt/\(cA S sp).2.wt.length<=S.wt.length:=fun sp=>by unfold cA;exact hg _ _ _
 have h2:∀sp,(cJ S sp).2.m1=S.m1/\(cJ S sp).2.m2=S.m2/\(cJ S sp).2.vt=S.vt/\(cJ S sp).2.wt.length<=S.wt.length:=fun sp=>by unfold cJ;exact hg _ _ _
 have h3:(eZ S).2.m1=S.m1/\(eZ S).2.m2=S.m2/\(eZ S).2.vt=S.vt/\(eZ S).2.wt.length<=S.wt.length:=by unfold eZ;exact hg _ _ _
 have ht:S.wt.tail.length<=S.wt.length:=by rw[List.length_tail];omega
 cases en:S.now with
 |free k=>rw[lB en];(repeat' split) <;> first | exact h1 _ | exact⟨rfl,rfl,rfl,Yd _⟩
 |speaks n ds k=>rw[iW en];(repeat' split) <;> first | exact h1 _ | exact⟨rfl,rfl,rfl,Yd _⟩
 |reads h=>rw[jM en];(repeat' split) <;> first | exact h1 _ | exact⟨rfl,rfl,rfl,Yd _⟩
 |tlS v c=>rw[mF en];(repeat' split) <;> first | exact h1 _ | exact h2 _ | exact⟨rfl,rfl,rfl,Yd _⟩ | exact⟨rfl,rfl,rfl,ht⟩
 |tlR n ds v c=>rw[mG en];(repeat' split) <;> first | exact h1 _ | exact h2 _ | exact⟨rfl,rfl,rfl,Yd _⟩
 |flag l m=>rw[lC en];(repeat' split) <;> first | exact⟨rfl,rfl,rfl,Yd _⟩
 |settles m=>rw[iB en];(repeat' split) <;> first | exact h3 | exact⟨rfl,rfl,rfl,Yd _⟩
 |rests l=>rw[jL en];(repeat' split) <;> first | exact h1 _ | exact⟨rfl,rfl,rfl,Yd _⟩
 |off=>rw[mH en];exact⟨rfl,rfl,rfl,Yd _⟩
theorem b5H:∀s:Stc,PyData.strOk s.shown.1=true
 |.free _=>(by decide +kernel:PyData.strOk ("free":Str)=true)
 |.speaks _ _ _=>(by decide +kernel:PyData.strOk ("speaks":Str)=true)
 |.reads _=>(by decide +kernel:PyData.strOk ("reads":Str)=true)
 |.tlS _ _=>(by decide +kernel:PyData.strOk ("tail speaks":Str)=true)
 |.tlR _ _ _ _=>(by decide +kernel:PyData.strOk ("tail reads":Str)=true)
 |.flag _ _=>(by decide +kernel:PyData.strOk ("flag":Str)=true)
 |.settles _=>(by decide +kernel:PyData.strOk ("settles":Str)=true)
 |.rests _=>(by decide +kernel:PyData.strOk ("rests":Str)=true)
 |.off=>(by decide +kernel:PyData.strOk ("off":Str)=true)
theorem a5L {H1 H':Hp}{p dp:Addr}{v:HO}{o:Own}(hp:H1 p=none)(hdp:H1 dp=none)(hin:∀x,o x->x=p\/upd (upd H1 dp (.own p)) p v x=none)(hk:∀x u,x≠p->upd (upd H1 dp (.own p)) p v x=some u->H' x=some u):(∀x,o x->H1 x=none)/\Same H1 H':=by
 refine⟨fun x hx=>?_,fun x u e=>hk x u (aQ e hp) (by rw[aK (aQ e hp),aK (aQ e hdp)];exact e)⟩
 rcases hin x hx with h | h
 ·rw[h];exact hp
 ·by_cases c:x=p
  ·rw[c];exact hp
  ·rw[aK c]at h
   by_cases d:x=dp
   ·rw[d];exact hdp
   ·rw[aK d]at h;exact h
theorem a9F (p:Str->Prop)(w0:p "")(w1:p "begins")(w2:p "loses")(w3:p "done")(w4:p "takes")(w5:p "fault")(w6:p "refuses")(w7:p "off")(S:PS)(b:Int):p (bF S b).1:=by
 have hg:∀st w nx,p w->p (cT S st w nx).1:=fun st w nx h=>by unfold cT;split <;> first | exact w7 | exact h
 have h1:∀sp,p (cA S sp).1:=fun sp=>by unfold cA;exact hg _ _ _ w5
 have h2:∀sp,p (cJ S sp).1:=fun sp=>by unfold cJ;exact hg _ _ _ w6
 have h3:p (eZ S).1:=by unfold eZ;exact hg _ _ _ w0
 cases en:S.now with
 |free k=>rw[lB en];(repeat' split) <;> first | exact h1 _ | exact w0 | exact w1
 |speaks n ds k=>rw[iW en];(repeat' split) <;> first | exact h1 _ | exact w0 | exact w2
 |reads h=>rw[jM en];(repeat' split) <;> first | exact h1 _ | exact w0
 |tlS v c=>rw[mF en];(repeat' split) <;> first | exact h1 _ | exact h2 _ | exact w0 | exact w3
 |tlR n ds v c=>rw[mG en];(repeat' split) <;> first | exact h1 _ | exact h2 _ | exact w0 | exact w4
 |flag l m=>rw[lC en];(repeat' split) <;> exact w0
 |settles m=>rw[iB en];(repeat' split) <;> first | exact h3 | exact w0
 |rests l=>rw[jL en];(repeat' split) <;> first | exact h1 _ | exact w0
 |off=>rw[mH en];exact w0
theorem a5Y (S:PS)(b:Int):PyData.strOk (bF S b).1=true:=a9F (fun w=>PyData.strOk w=true) (by decide +kernel) (by decide +kernel) (by decide +kernel) (by decide +kernel) (by decide +kernel) (by decide +kernel) (by decide +kernel) (by decide +kernel) S b
theorem sI (R:RS)(hs:List Int):∀n:Nat,(∀S∈(aX R hs n).ps,S∈R.ps\/∃S1∈R.ps,∃b∈hs,S=(bF S1 b).2)/\(∀x∈(aX R hs n).sa,x∈R.sa\/∃y∈R.sa,x.length=y.length+1)/\(∀x∈(aX R hs n).he,x∈R.he\/∃y∈R.he,x.length=y.length+1)/\∀e∈(aX R hs n).ev,e∈R.ev\/PyData.strOk e.2.2=true
 |0=>⟨fun _ h=> .inl h,fun _ h=> .inl h,fun _ h=> .inl h,fun _ h=> .inl h⟩
 | n + 1 => by
  obtain⟨h1,h2,h3,h4⟩:=sI R hs n
  by_cases c:(∃S,R.ps[n]? =some S)/\(∃b,hs[n]? =some b)/\(∃x,R.sa[n]? =some x)/\∃y,R.he[n]? =some y
  ·obtain ⟨⟨S,e1⟩,⟨b,e2⟩,⟨x,e3⟩,⟨y,e4⟩⟩:=c
   rw[gA e1 e2 e3 e4]
   refine⟨fun T hT=>?_,fun z hz=>?_,fun z hz=>?_,fun e he=>?_⟩
   ·rcases XQ (show T∈(aX R hs n).ps.set n (bF S b).2 from hT) with q | q
    ·exact h1 T q
    ·exact .inr ⟨S,Yp e1,b,Yp e2,q⟩
   ·rcases XQ (show z∈(aX R hs n).sa.set n (x++[bL S]) from hz) with q | q
    ·exact h2 z q
    ·exact .inr ⟨x,Yp e3,by rw[q,Yc];rfl⟩
   ·rcases XQ (show z∈(aX R hs n).he.set n (y++[b]) from hz) with q | q
    ·exact h3 z q
    ·exact .inr ⟨y,Yp e4,by rw[q,Yc];rfl⟩
   ·rcases YA.mp (show e∈(aX R hs n).ev++evt R.bo.length n (bF S b).1 from he) with q | q
    ·exact h4 e q
    ·unfold evt at q
     split at q
     ·cases q
     ·rw[Yj]at q
      rw[q];exact .inr (a5Y S b)
  ·have e:aX R hs (n+1)=aX R hs n:=by
    show (match R.ps[n]?,hs[n]?,R.sa[n]?,R.he[n]? with
     |some S,some b,some x,some y=>qC R (aX R hs n) n S b x y
     |_,_,_,_=>aX R hs n)=_
    split
    ·rename_i S b x y e1 e2 e3 e4
     exact absurd ⟨⟨S,e1⟩,⟨b,e2⟩,⟨x,e3⟩,⟨y,e4⟩⟩ c
    ·rfl
   rw[e]
   exact⟨h1,h2,h3,h4⟩
theorem SqL.keepT {K:W.Frag}{H H':Hp}{P a:Addr}{xs:List V}{pos:Pos}{q:Str}(h:SqL K H a xs)(hT:a2J P pos q H)(g:∀x u,H x=some u->x≠P->H' x=some u):SqL K H' a xs:=by
 obtain⟨ps,e,_⟩:=hT
 rcases h with (h | ⟨o,h⟩) | h
 ·exact .inl (.inl (g _ _ h fun z=>by rw[z,e]at h;cases h))
 ·exact .inl (.inr ⟨o,g _ _ h fun z=>by rw[z,e]at h;cases h⟩)
 ·exact .inr h
theorem b1D {C:Addr}{A:Cs}{H:Hp}{r:Addr}{R:RS}{o:Own}(h:jO C A H r R o):∀S∈R.ps,Wf S:=fun S hS=>by
 obtain⟨w,hR⟩:=h
 obtain⟨i,hi,e⟩:=Xb hS
 obtain⟨p,oi,_,hP⟩:=hR.at (i:=i) (S:=S) (by rw[Yb hi,e])
 exact hP.wf
theorem a8C {kvs:List (Key×V)}{k:Key}{v:V}:(putK kvs k v).length<=kvs.length+1:=by
 unfold putK
 split
 ·rw[Ya];exact X7 _
 ·rw[Yc];exact Yd _
theorem a5M {x k:Nat}(h:x<2 ^ (k+1))(t:x.testBit k=false):x<2 ^ k:=by
 rcases Nat.lt_or_ge x (2 ^ k) with z | z
 ·exact z
 ·have p:=XU k
  have h1:x / 2 ^ k=1:=by
   have a:1<=x / 2 ^ k:=(Nat.le_div_iff_mul_le p).mpr (by omega)
   have b:x / 2 ^ k<2:=Nat.div_lt_of_lt_mul (by rw[XM]at h;exact h)
   omega
  rw[YY,h1]at t
  exact absurd t (by decide)
def dvS (x k:Nat):Nat:=if x.testBit k=true then x ^^^ 64647 <<< (k-15) else x
theorem b3U {x k N:Nat}(hk:15<=k)(h9:k<=90)(h:x<2 ^ (k+1))(e:R x=N):dvS x k<2 ^ k/\R (dvS x k)=N:=by
 unfold dvS
 by_cases c:x.testBit k=true
 ·rw [if_pos c]
  refine⟨a5M ?_ ?_,by rw[a6W (by omega)];exact e⟩
  ·refine Jj h ?_
   rw[Xe,show k+1=16+(k-15) by omega,Nat.pow_add]
   exact Nat.mul_lt_mul_of_pos_right (by decide) (XU _)
  ·rw[XB,c,X1,show k-(k-15)=15 by omega,Yl (by omega)]
   decide
 ·rw[if_neg c]
  exact⟨a5M h (Bool.not_eq_true _▸c),e⟩
def dvN (x:Nat):Nat->Nat
 |0=>x
 |i+1=>dvS (dvN x i) (90-i)
theorem xY {x:Nat}(h:x<2 ^ 91):∀i,i<=76->dvN x i<2 ^ (91-i)/\R (dvN x i)=R x
 |0,_=>⟨h,rfl⟩
 | i+1,hi=>by
  obtain⟨a,b⟩:=xY h i (by omega)
  have:=b3U (x:=dvN x i) (k:=90-i) (by omega) (by omega) (by rw[show 90-i+1=91-i by omega];exact a) b
  rw[show 91-(i+1)=90-i by omega]
  exact this
theorem b0O {d:Int}(h:byt d=true):nm (b8 d)=d.toNat:=by
 have:=fG.mp h
 exact iM (by show d.toNat<256;omega)
theorem b2Y {n k:Nat}(hn:n<256)(hk:k<8):nm (hdD ((n:Nat):Int) k [])=n*8+k:=by
 unfold hdD
 rw[List.map_nil,List.flatten_nil,YC,qD (fY (fun b hb=> .inl (Yj.mp hb)) (mW _)) (gD _ _),cC,iM (show k<2 ^ 3 from hk),qD (fun b hb=> .inl (Yj.mp hb)) (mW _),b0O (fG.mpr ⟨by omega,by omega⟩),YI]
 have:nm [0]=0:=rfl
 rw[this]
 omega
theorem b2X {n:Int}{k:Nat}{ds:List Int}{d:Int}(h:byt d=true):nm (hdD n k (ds++[d]))=nm (hdD n k ds)*256+d.toNat:=by
 rw[vV,qD (mK _ _ _) (mW _),uD,b0O h,Nat.mul_comm]
theorem b0S {n:Int}{ds:List Int}(hl:ds.length<=7):nm (hd n ds)*32768<2 ^ 91:=by
 have h:=jU (mK n ds.length ds)
 rw[pG]at h
 have h2:2 ^ (12+8*ds.length)<=2 ^ 68:=Yw (by decide) (by omega)
 show nm (hdD n ds.length ds)*32768<2 ^ 91
 omega
theorem b3T {n:Int}{ds:List Int}(hl:ds.length<=7):dvN (nm (hd n ds)*32768) 76=ckn (hd n ds):=by
 obtain⟨a,b⟩:=xY (b0S (n:=n) hl) 76 (by decide)
 have e:ckn (hd n ds)=R (nm (hd n ds)*32768):=by
  unfold ckn rst
  rw[qD (mJ _ _) (sZ 15),b0N,Jf,show (zs 15).length=15 from rfl,Nat.mul_comm]
 rw[e,<-b,pJ a]
theorem b5T {n:Int}{ds:List Int}:nm (fb n ds)=nm (hd n ds)*32768+ckn (hd n ds):=by
 unfold fb
 rw[qD (mJ _ _) (a0G _),yC,Nat.mul_comm]
 unfold ck
 rw[iM (xG _)]
theorem b3Q {n:Int}{ds:List Int}{i:Nat}(h:i<27+8*ds.length):(fb n ds)[i]? =some (kE (nm (fb n ds)) (26+8*ds.length-i)):=by
 have e:=jZ (pH n ds)
 have hl:=nR n ds
 rw[hl]at e
 rw[<-e,iM (by have:=jU (pH n ds);rw[hl]at this;exact this)]
 unfold bY
 rw[Yi,Jd h,Jb,show 27+8*ds.length-1-i=26+8*ds.length-i by omega]
theorem qU (x k:Nat):Builtin.bitAnd (((x:Nat):Int) / 2 ^ ((k:Nat):Int).toNat) 1=kE x k:=b0V x k
theorem a1B {l:Nat}(h:l<=7):Builtin.Range.rangeSize ((26:Int)+8*((l:Nat):Int)) (-1) (-1)=((27+8*l:Nat):Int):=by
 have:l=0\/l=1\/l=2\/l=3\/l=4\/l=5\/l=6\/l=7:=by omega
 rcases this with rfl | rfl | rfl | rfl | rfl | rfl | rfl | rfl <;> decide
theorem a7W {l:Nat}(h:l<=7):Builtin.divisionGoesByPylong (-1-((26:Int)+8*((l:Nat):Int))) (-1)=false:=by
 have:l=0\/l=1\/l=2\/l=3\/l=4\/l=5\/l=6\/l=7:=by omega
 rcases this with rfl | rfl | rfl | rfl | rfl | rfl | rfl | rfl <;> decide
theorem wZ {l:Nat}(h:l<=7):Builtin.Range.small ((26:Int)+8*((l:Nat):Int)) (-1) (-1)=true:=by
 have:l=0\/l=1\/l=2\/l=3\/l=4\/l=5\/l=6\/l=7:=by omega
 rcases this with rfl | rfl | rfl | rfl | rfl | rfl | rfl | rfl <;> decide
def a7I (K:W.Frag):Sp:=fun vs H Q _=>∃(d:Addr)(n:Nat)(ds:List Int),vs= [.int ((n:Nat):Int),.ref d]/\SqL K H d (ds.map V.int)/\n<256/\ds.length<=7/\ds.all byt=true/\∀p H',H p=none->Same H H'->H' p=some (.lst ((put (fb (n:Int) ds)).map V.int))->Q (.ref p) H'
theorem qP {bs:List Int}(hb:bG bs)(a:Nat):∀k,a+8*k<=bs.length->(((List.range k).map fun i=>((nm ((bs.drop (a+8*i)).take 8):Nat):Int)).map b8).flatten=(bs.drop a).take (8*k)
 |0,_=>rfl
 | k +1,h=>by
  have e:b8 ((nm ((bs.drop (a+8*k)).take 8):Nat):Int)=(bs.drop (a+8*k)).take 8:=by
   unfold b8
   rw[YI]
   have:=jZ (fX hb (a+8*k) 8)
   rw[show ((bs.drop (a+8*k)).take 8).length=8 by rw[Yo,YU];omega]at this
   exact this
  rw[List.range_succ,Yn,Yn,List.flatten_append,qP hb a k (by omega),List.map_singleton,List.map_singleton,e,show 8*(k+1)=8*k+8 by omega,List.take_add,List.drop_drop]
  simp
theorem a9I {bs:List Int}(hb:bG bs)(h0:bs.head? =some 0)(hc:jC bs)(hr:rst bs=0):fb ((nmB bs:Nat):Int) (daB bs)=bs/\FrN (nmB bs,daB bs):=by
 have s8:=wO hb
 obtain⟨c1,c2⟩:=hc
 have ld:(daB bs).length=szB bs:=by unfold daB;rw[Ya,Xk]
 have n8:∀a,a+8<=bs.length->nm ((bs.drop a).take 8)<256:=fun a ha=>by
  have:=jU (fX hb a 8)
  rw[show ((bs.drop a).take 8).length=8 by rw[Yo,YU];omega]at this
  exact this
 have e8:b8 ((nmB bs:Nat):Int)=(bs.drop 1).take 8:=by
  unfold b8 nmB
  rw[YI]
  have:=jZ (fX hb 1 8)
  rw[show ((bs.drop 1).take 8).length=8 by rw[Yo,YU];omega]at this
  exact this
 have e3:bY (szB bs) 3=(bs.drop 9).take 3:=by
  unfold szB
  have:=jZ (fX hb 9 3)
  rw[show ((bs.drop 9).take 3).length=3 by rw[Yo,YU];omega]at this
  exact this
 have ed:((daB bs).map b8).flatten=(bs.drop 12).take (8*szB bs):=qP hb 12 (szB bs) (by omega)
 have e1:bs.take 1= [0]:=by
  cases bs with
  |nil=>cases h0
  |cons x xs=>cases h0;rfl
 have eh:hd ((nmB bs:Nat):Int) (daB bs)=bs.take (12+8*szB bs):=by
  show [0]++b8 ((nmB bs:Nat):Int)++bY (daB bs).length 3++((daB bs).map b8).flatten=_
  rw[ld,e8,e3,ed,<-e1,<-List.take_add,show 1+8=9 from rfl,<-List.take_add,show 9+3=12 from rfl,<-List.take_add]
 have ec:ck (hd ((nmB bs:Nat):Int) (daB bs))=bs.drop (12+8*szB bs):=by
  rw[eh]
  have l15:(bs.drop (12+8*szB bs)).length=15:=by rw[YU];omega
  have hd':bG (bs.drop (12+8*szB bs)):=fun b h=>hb b (X8 h)
  have:=a9Q (bs:=bs.take (12+8*szB bs)) (cs:=bs.drop (12+8*szB bs)) (fun b h=>hb b (Xf h)) hd' (by rw[Yo];omega) l15 (by rw[List.take_append_drop];exact hr)
  unfold ck
  rw[<-this]
  have e:=jZ hd'
  rw[l15]at e
  exact e
 refine⟨?_,n8 1 (by omega),by rw[ld];omega,XN.mpr fun d h=>?_⟩
 ·unfold fb
  rw[ec,eh,List.take_append_drop]
 ·obtain⟨i,hi,rfl⟩:=Y1.mp h
  have hi':=List.mem_range.mp hi
  have:=n8 (12+8*i) (by omega)
  exact fG.mpr ⟨by unfold dtB;omega,by unfold dtB;omega⟩
theorem uL {w:List Int}(ha:ans w="whole"):¬ 5<run w/\run w≠5/\jC (kp w)/\rst (kp w)=0:=by
 unfold ans at ha
 by_cases c1:5<run w
 ·rw[if_pos c1]at ha;exact absurd ha (by decide +kernel)
 ·rw [if_neg c1]at ha
  by_cases c2:run w=5\/¬ jC (kp w)
  ·rw[if_pos c2]at ha;exact absurd ha (by decide +kernel)
  ·rw[if_neg c2]at ha
   by_cases c3:rst (kp w)=0
   ·exact⟨c1,fun z=>c2 (.inl z),Classical.byContradiction fun z=>c2 (.inr z),c3⟩
   ·rw[if_neg c3]at ha;exact absurd ha (by decide +kernel)
theorem a7B {h:List Int}{b:Int}(hb:bG (h++[b]))(h0:(h++[b]).head? =some 0)(hg:Good h)(ha:ans (h++[b])="whole"):wr (nmB (kp (h++[b]))) (daB (kp (h++[b])))=h++[b]/\FrN (nmB (kp (h++[b])),daB (kp (h++[b]))):=by
 obtain⟨c1,c2,c3,c4⟩:=uL ha
 have hg2:Good (h++[b]):=hg.snoc (by omega)
 have p:=xH hb hg2
 rw[if_neg c2]at p
 obtain⟨e,f⟩:=a9I (pB hb) (by rw[Wm.kp_head];exact h0) c3 c4
 refine⟨?_,f⟩
 show put (fb _ _)=_
 rw[e,p]
def HeN (vt:Nat)(he:List Int):Stc->Prop
 |.speaks n ds k=>∃pre,he=pre++(wr n ds).take k
 |.reads h=>∃pre,he=pre++h
 |.tlR n ds v c=>FrN (n,ds)/\v<9+vt/\∃pre tl,he=pre++wr n ds++tl/\tl.length=v/\bG tl/\(∀j,j<v->j<9->j≠1->tl.getD j 0=1)/\c=(tl.drop 9).count 0
 |_=>True
structure oH (vt:Nat)(he:List Int)(T:Nat)(f:Fr):Prop where
 ok:FrN f
 ex:∃pre tl rest,he=pre++wr f.1 f.2++tl++rest/\tl.length=9+vt/\bG tl/\(∀j,j<9->j≠1->tl.getD j 0=1)/\(tl.drop 9).count 0<=vt / 2/\T+1=(pre++wr f.1 f.2++tl).length
theorem oH.more {vt:Nat}{he x:List Int}{T:Nat}{f:Fr}(h:oH vt he T f):oH vt (he++x) T f:=by
 obtain⟨pre,tl,rest,e,h1,h2,h3,h4,h5⟩:=h.ex
 exact⟨h.ok,pre,tl,rest++x,by rw[e,YF (pre++wr f.1 f.2++tl)],h1,h2,h3,h4,h5⟩
def a9W (S:PS)(he:List Int)(b:Int)(r:Str×PS):Prop:=HeN S.vt (he++[b]) r.2.now/\((r.1="takes"/\∃f,oH S.vt (he++[b]) he.length f/\r.2.up=if gY S f.1=true then S.up++[f] else S.up)\/(r.1≠"takes"/\r.2.up=S.up))
theorem xU {S:PS}{he:List Int}{b st:Int}{w:Str}{nx:Stc}(hw:w≠"takes")(hn:HeN S.vt (he++[b]) nx):a9W S he b (cT S st w nx):=by
 unfold cT
 split
 ·exact⟨trivial,.inr ⟨(by decide +kernel:("off":Str)≠"takes"),rfl⟩⟩
 ·exact⟨hn,.inr ⟨hw,rfl⟩⟩
theorem yO {tl:List Int}{b:Int}{v:Nat}(hv:tl.length=v):tlN v b ((tl.drop 9).count 0)=((tl++[b]).drop 9).count 0:=by
 unfold tlN
 by_cases c:9<=v
 ·rw [Xh (by omega),List.count_append]
  by_cases d:b=0
  ·rw[if_pos ⟨c,d⟩,d];rfl
  ·rw[if_neg fun z=>d z.2,List.count_eq_zero.mpr fun z=>d (Yj.mp z).symm]
   rfl
 ·rw[if_neg fun z=>c z.1,List.drop_eq_nil_of_le (by omega),List.drop_eq_nil_of_le (by rw[Yc];show tl.length+1<=9;omega)]
theorem yP {tl:List Int}{b:Int}{v:Nat}(hv:tl.length=v)(h:∀j,j<v->j<9->j≠1->tl.getD j 0=1)(hb:v<9->v≠1->b=1):∀j,j<v+1->j<9->j≠1->(tl++[b]).getD j 0=1:=fun j h1 h2 h3=>by
 rw[Yg]
 by_cases c:j<v
 ·rw[Yx (by omega),<-Yg]
  exact h j c h2 h3
 ·have:j=v:=by omega
  subst this
  rw[Yv (by omega),hv,XO,hb h2 h3]
  rfl
theorem b3N {S:PS}{he:List Int}{b:Int}(wf:Wf S)(hb:b=0\/b=1)(v1:1<=S.vt)(h:HeN S.vt he S.now):a9W S he b (bF S b):=by
 have n1:("begins":Str)≠"takes":=by decide +kernel
 have n2:("loses":Str)≠"takes":=by decide +kernel
 have n3:("":Str)≠"takes":=by decide +kernel
 have n4:("fault":Str)≠"takes":=by decide +kernel
 have n5:("refuses":Str)≠"takes":=by decide +kernel
 have n6:("done":Str)≠"takes":=by decide +kernel
 have hf:∀sp,a9W S he b (cA S sp):=fun sp=>by unfold cA;exact xU n4 trivial
 have hr:∀sp,a9W S he b (cJ S sp):=fun sp=>by unfold cJ;exact xU n5 trivial
 have hn:=wf.now
 cases en:S.now with
 | free k=>
  rw[lB en]
  split
  ·split
   ·rename_i z
    refine⟨⟨he,?_⟩,.inr ⟨n1,rfl⟩⟩
    show he++[b]=he++(wr _ _).take 1
    rw[z,a2S]
   ·exact hf _
  ·split
   ·rename_i z
    exact⟨⟨he,by rw[z]⟩,.inr ⟨n3,rfl⟩⟩
   ·exact⟨trivial,.inr ⟨n3,rfl⟩⟩
 | speaks n ds k=>
  rw[en]at h hn
  obtain⟨pre,rfl⟩:=h
  obtain⟨_,_,hk,_⟩:=hn
  rw[iW en]
  split
  ·exact hf _
  split
  ·exact⟨⟨pre,by rw[YF]⟩,.inr ⟨n2,rfl⟩⟩
  split
  ·rename_i z
   split
   ·exact⟨trivial,.inr ⟨n3,rfl⟩⟩
   ·refine⟨⟨pre,?_⟩,.inr ⟨n3,rfl⟩⟩
    rw[Yh hk,<-getD_get hk,<-z,YF]
  ·exact hf _
 | reads hh=>
  rw[en]at h hn
  obtain⟨pre,rfl⟩:=h
  obtain⟨hbh,hon,h0⟩:=hn
  rw[jM en]
  split
  ·exact⟨⟨pre,by rw[YF]⟩,.inr ⟨n3,rfl⟩⟩
  split
  ·rename_i z
   have hb2:bG (hh++[b]):=fun y hy=>by
    rcases YA.mp hy with q | q
    ·exact hbh y q
    ·rw[Yj.mp q];exact hb
   have h02:(hh++[b]).head? =some 0:=by
    cases hh with
    |nil=>cases h0
    |cons x xs=>exact h0
   obtain⟨e,f⟩:=a7B hb2 h02 hon.good z
   refine⟨⟨f,Nat.zero_lt_of_lt (show 0<9+S.vt by omega),pre, [],?_,rfl,vG,fun j hj=>absurd hj (Nat.not_lt_zero _),rfl⟩,.inr ⟨n3,rfl⟩⟩
   rw[e,YC,YF]
  ·exact hf _
 | tlS v c=>
  rw[mF en]
  split
  ·exact⟨trivial,.inr ⟨n3,rfl⟩⟩
  split
  ·exact hf _
  split
  ·exact hr _
  ·exact⟨trivial,.inr ⟨n6,rfl⟩⟩
 | tlR n ds v c=>
  rw[en]at h
  obtain⟨fo,hv,pre,tl,rfl,lt,bt,ones,rfl⟩:=h
  have bt2:bG (tl++[b]):=fun y hy=>by
   rcases YA.mp hy with q | q
   ·exact bt y q
   ·rw[Yj.mp q];exact hb
  have b1:cZ S.vt false v ((tl.drop 9).count 0) b≠"fault"->v<9->v≠1->b=1:=fun z v9 v1=>by
   unfold cZ at z
   rw[if_neg (by omega)]at z
   rcases hb with q | q
   ·refine absurd ?_ z
    unfold gZ
    rw[if_neg v1,q]
    rfl
   ·exact q
  rw[mG en]
  split
  ·rename_i z
   refine⟨⟨fo,?_,pre,tl++[b],by rw[YF _ tl [b]],by rw[Yc,lt];rfl,bt2,yP lt ones (b1 (by rw[z];decide +kernel)),yO lt⟩,.inr ⟨n3,rfl⟩⟩
   by_cases c:v+1<9+S.vt
   ·exact c
   ·have v9:9<=v\/v<9:=by omega
    rcases v9 with v9 | v9
    ·unfold cZ lL at z
     rw[if_pos v9,if_neg c]at z
     split at z <;> exact absurd z (by decide +kernel)
    ·omega
  split
  ·exact hf _
  rename_i z1 z2
  split
  ·exact hr _
  rename_i z3
  have v9:9<=v:=by
   by_cases c:9<=v
   ·exact c
   ·exfalso
    unfold cZ at z1 z2
    rw[if_neg c]at z1 z2
    by_cases d:gZ false v b=true
    ·rw[if_pos d]at z2;exact z2 rfl
    ·rw[if_neg d]at z1;exact z1 rfl
  unfold cZ lL at z1 z3
  rw[if_pos v9]at z1 z3
  have c1:¬ v+1<9+S.vt:=fun c=>z1 (by rw[if_pos c])
  rw[if_neg c1]at z3
  have c2:¬ S.vt / 2<tlN v b ((tl.drop 9).count 0):=fun c=>z3 (by rw[if_pos c])
  rw[yO lt]at c2
  have hlen:(pre++wr n ds++tl).length+1=(pre++wr n ds++(tl++[b])).length:=by
   rw[<-YF,Yc (bs:=[b])];rfl
  refine⟨trivial,.inl ⟨rfl,(n,ds),⟨fo,pre,tl++[b], [],by rw[YC,YF _ tl [b]],by rw[Yc,lt];show v+1=_;omega,bt2,fun j h1 h2=>yP lt ones (b1 z2) j (by omega) h1 h2,by omega,hlen⟩,rfl⟩⟩
 |flag l m=>rw[lC en];(repeat' split) <;> exact⟨trivial,.inr ⟨n3,rfl⟩⟩
 | settles m=>
  rw[iB en]
  split
  ·exact⟨trivial,.inr ⟨n3,rfl⟩⟩
  ·split
   ·unfold eZ;exact xU n3 trivial
   ·exact⟨by rw[en];trivial,.inr ⟨n3,rfl⟩⟩
 | rests l=>
  rw[jL en]
  split
  ·exact hf _
  ·refine⟨?_,.inr ⟨n3,rfl⟩⟩
   show HeN _ _ (if l=1 then Stc.free 0 else .rests (l-1))
   split <;> trivial
 |off=>rw[mH en];exact⟨by rw[en];trivial,.inr ⟨n3,rfl⟩⟩
def tkO (i:Nat)(ev:List (Nat×Nat×Str)):List Nat:=(ev.filter fun e=>decide (e.2.1=i/\e.2.2=("takes":Str))).map (·.1)
theorem oR (i:Nat)(a b:List (Nat×Nat×Str)):tkO i (a++b)=tkO i a++tkO i b:=by unfold tkO;rw[List.filter_append,Yn]
theorem yQ (i t n:Nat)(w:Str):tkO i (evt t n w)=if n=i/\w=("takes":Str) then [t] else []:=by
 unfold evt tkO
 by_cases c:w=""
 ·rw[if_pos c,if_neg fun z=>absurd (c.symm.trans z.2) (by decide +kernel)]
  rfl
 ·rw [if_neg c]
  by_cases d:n=i/\w=("takes":Str)
  ·rw[if_pos d,List.filter_cons,if_pos (by exact Yl d)]
   rfl
  ·rw[if_neg d,List.filter_cons,if_neg (by exact fun z=>d (YQ z))]
   rfl
theorem zV (R:RS)(hs:List Int)(n:Nat):(aX R hs (n+1)=aX R hs n/\¬ ∃S b x y,R.ps[n]? =some S/\hs[n]? =some b/\R.sa[n]? =some x/\R.he[n]? =some y)\/∃S b x y,R.ps[n]? =some S/\hs[n]? =some b/\R.sa[n]? =some x/\R.he[n]? =some y/\aX R hs (n+1)=qC R (aX R hs n) n S b x y:=by
 by_cases c:∃S b x y,R.ps[n]? =some S/\hs[n]? =some b/\R.sa[n]? =some x/\R.he[n]? =some y
 ·obtain⟨S,b,x,y,e1,e2,e3,e4⟩:=c
  exact .inr ⟨S,b,x,y,e1,e2,e3,e4,gA e1 e2 e3 e4⟩
 ·refine .inl ⟨?_,c⟩
  show (match R.ps[n]?,hs[n]?,R.sa[n]?,R.he[n]? with | some S,some b,some x,some y=>qC R (aX R hs n) n S b x y | _,_,_,_=>aX R hs n)=_
  split
  ·rename_i S b x y e1 e2 e3 e4
   exact absurd ⟨S,b,x,y,e1,e2,e3,e4⟩ c
  ·rfl
theorem zW {R:RS}{hs:List Int}{j:Nat}{S:PS}{b:Int}{x y:List Int}(e1:R.ps[j]? =some S)(e2:hs[j]? =some b)(e3:R.sa[j]? =some x)(e4:R.he[j]? =some y):∀n,j<n->(aX R hs n).ps[j]? =some (bF S b).2/\(aX R hs n).sa[j]? =some (x++[bL S])/\(aX R hs n).he[j]? =some (y++[b])
 |0,h=>absurd h (Nat.not_lt_zero _)
 | n + 1, h=>by
  by_cases c:j=n
  ·subst c
   obtain⟨g1,g2,g3,g4,g5,g6,g7⟩:=iY R hs j
   rw[gA e1 e2 e3 e4]
   have a1:=(Ye.mp e1).1
   have a3:=(Ye.mp e3).1
   have a4:=(Ye.mp e4).1
   refine⟨?_,?_,?_⟩
   ·show ((aX R hs j).ps.set j _)[j]? =_
    rw[Xl,if_pos rfl,if_pos (by omega)]
   ·show ((aX R hs j).sa.set j _)[j]? =_
    rw[Xl,if_pos rfl,if_pos (by omega)]
   ·show ((aX R hs j).he.set j _)[j]? =_
    rw[Xl,if_pos rfl,if_pos (by omega)]
  ·obtain⟨q1,q2,q3⟩:=zW e1 e2 e3 e4 n (by omega)
   rcases zV R hs n with ⟨e,_⟩ | ⟨S',b',x',y',_,_,_,_,e⟩
   ·rw[e];exact⟨q1,q2,q3⟩
   ·rw [e]
    refine⟨?_,?_,?_⟩
    ·show ((aX R hs n).ps.set n _)[j]? =_
     rw[Y9 fun z=>c z.symm];exact q1
    ·show ((aX R hs n).sa.set n _)[j]? =_
     rw[Y9 fun z=>c z.symm];exact q2
    ·show ((aX R hs n).he.set n _)[j]? =_
     rw[Y9 fun z=>c z.symm];exact q3
theorem zT {R:RS}{hs:List Int}{i:Nat}{S:PS}{b:Int}{x y:List Int}(e1:R.ps[i]? =some S)(e2:hs[i]? =some b)(e3:R.sa[i]? =some x)(e4:R.he[i]? =some y):∀n,tkO i (aX R hs n).ev=tkO i R.ev++(if i<n/\(bF S b).1=("takes":Str) then [R.bo.length] else [])
 |0=>by rw[if_neg fun z=>absurd z.1 (Nat.not_lt_zero _),YC];rfl
 | n + 1=>by
  have ih:=zT e1 e2 e3 e4 n
  by_cases c:i=n
  ·subst c
   rw[gA e1 e2 e3 e4]
   show tkO i ((aX R hs i).ev++evt _ _ _)=_
   rw[oR,ih,if_neg fun z=>absurd z.1 (Y2 _),YC,yQ]
   by_cases d:(bF S b).1=("takes":Str)
   ·rw[if_pos ⟨rfl,d⟩,if_pos ⟨X2 _,d⟩]
   ·rw[if_neg fun z=>d z.2,if_neg fun z=>d z.2]
  ·have el:(if i<n+1/\(bF S b).1=("takes":Str) then [R.bo.length] else [])=if i<n/\(bF S b).1=("takes":Str) then [R.bo.length] else []:=by
    by_cases d:i<n/\(bF S b).1=("takes":Str)
    ·rw[if_pos d,if_pos ⟨by omega,d.2⟩]
    ·rw[if_neg d,if_neg fun z=>d ⟨by omega,z.2⟩]
   rw[el,<-ih]
   rcases zV R hs n with ⟨e,_⟩ | ⟨S',b',x',y',_,_,_,_,e⟩
   ·rw[e]
   ·rw[e]
    show tkO i ((aX R hs n).ev++evt _ _ _)=_
    rw[oR,yQ,if_neg fun z=>c z.1.symm,YC]
structure P95 (vt i:Nat)(ev:List (Nat×Nat×Str))(S:PS)(he:List Int):Prop where
 vq:S.vt=vt
 hn:HeN vt he S.now
 al:∃al:List (Nat×Fr),al.map (·.1)=tkO i ev/\S.up=(al.filter fun x=>gY S x.2.1).map (·.2)/\∀x∈al,oH vt he x.1 x.2
theorem P95.hear {vt i:Nat}{ev ev':List (Nat×Nat×Str)}{S:PS}{he:List Int}{b:Int}(h:P95 vt i ev S he)(wf:Wf S)(hb:b=0\/b=1)(v1:1<=vt)(et:tkO i ev'=tkO i ev++(if (bF S b).1=("takes":Str) then [he.length] else [])):P95 vt i ev' (bF S b).2 (he++[b]):=by
 obtain⟨hv,hn,al,a1,a2,a3⟩:=h
 subst hv
 obtain⟨p1,p2,p3,_⟩:=qK S b
 have wn:∀n,gY (bF S b).2 n=gY S n:=fun n=>by unfold gY;rw[p1,p2]
 have wf':(fun x:Nat×Fr=>gY (bF S b).2 x.2.1)=fun x=>gY S x.2.1:=funext fun x=>wn _
 obtain⟨h1,h2⟩:=b3N wf hb v1 hn
 refine⟨p3,h1,?_⟩
 rcases h2 with ⟨w,f,g,u⟩ | ⟨w,u⟩
 ·refine⟨al++[(he.length,f)],?_,?_,fun x hx=>?_⟩
  ·rw[et,if_pos w,Yn,a1]
   rfl
  ·rw [u,wf',List.filter_append,Yn,<-a2]
   by_cases c:gY S f.1=true
   ·rw[if_pos c,List.filter_cons_of_pos (by exact c)]
    rfl
   ·rw[if_neg c,List.filter_cons_of_neg (by exact c)]
    exact(YC _).symm
  ·rcases YA.mp hx with z | z
   ·exact(a3 x z).more
   ·rw[Yj.mp z];exact g
 ·refine⟨al,?_,by rw[u,wf'];exact a2,fun x hx=>(a3 x hx).more⟩
  rw[et,if_neg w,YC,a1]
structure I95 (ms:List (Nat×Nat))(m vt t:Nat)(ws:List (List Int))(R:RS):Prop where
 ln:R.ps.length=m
 l2:R.sa.length=m
 l4:R.he.length=m
 bo:R.bo.length=t
 bb:bG R.bo
 pp:∀(i:Nat)(S:PS)(he:List Int),R.ps[i]? =some S->R.he[i]? =some he->P95 vt i R.ev S he
 mm:∀(i:Nat)(S:PS),R.ps[i]? =some S->ms[i]? =some (S.m1,S.m2)
 sl:∀x∈R.sa,x.length=t
 hl:∀x∈R.he,x.length=t
 ls:∀k,k<t->nA (R.sa.map fun x=>x.getD k 0) (R.bo.getD k 0)
 hr:∀(i:Nat)(he:List Int),R.he[i]? =some he->∀(k:Nat)(w:List Int),ws[k]? =some w->he.getD k 0=wrB w ((i:Nat):Int) (R.bo.getD k 0)
 lw:ws.length=t
 ev:R.ev.length<=5*t
theorem jX {l:List Int}{x:Int}{k:Nat}(h:k<l.length):(l++[x]).getD k 0=l.getD k 0:=by
 rw[Yg,Yg,Yx h]
theorem jY {l:List Int}{x:Int}{k:Nat}(h:k=l.length):(l++[x]).getD k 0=x:=by
 subst h
 rw[Yg,Yv (Yd _),XO]
 rfl
theorem I95.turn {ms:List (Nat×Nat)}{m vt t:Nat}{ws:List (List Int)}{R:RS}{b:Int}(h:I95 ms m vt t ws R)(wf:∀S∈R.ps,Wf S)(v1:1<=vt)(m5:m<=5)(hb:nA (R.ps.map bL) b)(b01:b=0\/b=1)(w:List Int):I95 ms m vt (t+1) (ws++[w]) (lQ R (wrL w R.ps.length b) b):=by
 have hs:∀{i:Nat},i<m->(wrL w R.ps.length b)[i]? =some (wrB w ((i:Nat):Int) b):=fun {i} hi=>by unfold wrL;rw[Yi,Jd (by rw[h.ln];exact hi)];rfl
 generalize wrL w R.ps.length b=HS at hs
 obtain⟨g1,g2,g3,g4,g5,g6,g7⟩:=iY R HS R.ps.length
 have at_:∀{i:Nat},i<m->∃S x y,R.ps[i]? =some S/\R.sa[i]? =some x/\R.he[i]? =some y/\(aX R HS R.ps.length).ps[i]? =some (bF S (wrB w ((i:Nat):Int) b)).2/\(aX R HS R.ps.length).sa[i]? =some (x++[bL S])/\(aX R HS R.ps.length).he[i]? =some (y++[wrB w ((i:Nat):Int) b])/\tkO i (aX R HS R.ps.length).ev=tkO i R.ev++(if (bF S (wrB w ((i:Nat):Int) b)).1=("takes":Str) then [y.length] else []):=fun {i} hi=>by
  obtain⟨S,e1⟩:∃S,R.ps[i]? =some S:=⟨_,Yb (by rw[h.ln];exact hi)⟩
  obtain⟨x,e3⟩:∃x,R.sa[i]? =some x:=⟨_,Yb (by rw[h.l2];exact hi)⟩
  obtain⟨y,e4⟩:∃y,R.he[i]? =some y:=⟨_,Yb (by rw[h.l4];exact hi)⟩
  obtain⟨q1,q2,q3⟩:=zW e1 (hs hi) e3 e4 R.ps.length (by rw[h.ln];exact hi)
  refine⟨S,x,y,e1,e3,e4,q1,q2,q3,?_⟩
  rw[zT e1 (hs hi) e3 e4,h.hl y (Yp e4),h.bo]
  by_cases c:(bF S (wrB w ((i:Nat):Int) b)).1=("takes":Str)
  ·rw[if_pos ⟨by rw[h.ln];exact hi,c⟩,if_pos c]
  ·rw[if_neg fun z=>c z.2,if_neg c]
 have len3:(aX R HS R.ps.length).ps.length=m:=g3.trans h.ln
 have len4:(aX R HS R.ps.length).sa.length=m:=g4.trans h.l2
 have len5:(aX R HS R.ps.length).he.length=m:=g5.trans h.l4
 have bok:∀k,k<t->(R.bo++[b]).getD k 0=R.bo.getD k 0:=fun k hk=>jX (by rw[h.bo];exact hk)
 have bot:(R.bo++[b]).getD t 0=b:=jY h.bo.symm
 refine⟨len3,len4,len5,by show (R.bo++[b]).length=_;rw[Yc,h.bo];rfl,?_,fun i S he e1 e2=>?_,fun i S e1=>?_,fun x hx=>?_,fun x hx=>?_,fun k hk=>?_,fun i he e1 k w' ew=>?_,by rw[Yc,h.lw];rfl,?_⟩
 ·intro z hz
  rcases YA.mp (show z∈R.bo++[b] from hz) with q | q
  ·exact h.bb z q
  ·rw[Yj.mp q];exact b01
 ·have hi:i<m:=by rw[<-len3];exact(Ye.mp e1).1
  obtain⟨S0,x,y,a1,a2,a3,a4,a5,a6,a7⟩:=at_ hi
  have e1':(aX R HS R.ps.length).ps[i]? =some S:=e1
  have e2':(aX R HS R.ps.length).he[i]? =some he:=e2
  rw[a4]at e1'
  rw[a6]at e2'
  cases e1'
  cases e2'
  exact(h.pp i S0 y a1 a3).hear (wf S0 (Yp a1)) (b0C b01) v1 a7
 ·have hi:i<m:=by rw[<-len3];exact(Ye.mp e1).1
  obtain⟨S0,x,y,a1,a2,a3,a4,a5,a6,a7⟩:=at_ hi
  have e1':(aX R HS R.ps.length).ps[i]? =some S:=e1
  rw[a4]at e1'
  cases e1'
  obtain⟨p1,p2,_⟩:=qK S0 (wrB w ((i:Nat):Int) b)
  rw[p1,p2]
  exact h.mm i S0 a1
 ·obtain⟨i,hi,e⟩:=Xb (show x∈(aX R HS R.ps.length).sa from hx)
  obtain⟨S0,x',y,a1,a2,a3,a4,a5,a6,a7⟩:=at_ (show i<m by rw[<-len4];exact hi)
  rw[Yb hi,e]at a5
  cases a5
  rw[Yc,h.sl x' (Yp a2)]
  rfl
 ·obtain⟨i,hi,e⟩:=Xb (show x∈(aX R HS R.ps.length).he from hx)
  obtain⟨S0,x',y,a1,a2,a3,a4,a5,a6,a7⟩:=at_ (show i<m by rw[<-len5];exact hi)
  rw[Yb hi,e]at a6
  cases a6
  rw[Yc,h.hl y (Yp a3)]
  rfl
 ·show nA ((aX R HS R.ps.length).sa.map fun x=>x.getD k 0) ((R.bo++[b]).getD k 0)
  by_cases c:k=t
  ·subst c
   rw[bot]
   have e:((aX R HS R.ps.length).sa.map fun x=>x.getD k 0)=R.ps.map bL:=by
    refine List.ext_getElem (by rw[Ya,Ya,len4,h.ln]) fun i h1 h2=>?_
    have hi:i<m:=by rw[Ya,len4]at h1;exact h1
    obtain⟨S0,x',y,a1,a2,a3,a4,a5,a6,a7⟩:=at_ hi
    rw[Xz,Xz]
    have b1:(aX R HS R.ps.length).sa[i]'(by rw[len4];exact hi)=x'++[bL S0]:=Yq ((Yb _).symm.trans a5)
    have b2:R.ps[i]'(by rw[h.ln];exact hi)=S0:=Yq ((Yb _).symm.trans a1)
    rw[b1,b2]
    exact jY (h.sl x' (Yp a2)).symm
   rw[e]
   exact hb
  ·rw [bok k (by omega)]
   have e:((aX R HS R.ps.length).sa.map fun x=>x.getD k 0)=R.sa.map fun x=>x.getD k 0:=by
    refine List.ext_getElem (by rw[Ya,Ya,len4,h.l2]) fun i h1 h2=>?_
    have hi:i<m:=by rw[Ya,len4]at h1;exact h1
    obtain⟨S0,x',y,a1,a2,a3,a4,a5,a6,a7⟩:=at_ hi
    rw[Xz,Xz]
    have b1:(aX R HS R.ps.length).sa[i]'(by rw[len4];exact hi)=x'++[bL S0]:=Yq ((Yb _).symm.trans a5)
    have b2:R.sa[i]'(by rw[h.l2];exact hi)=x':=Yq ((Yb _).symm.trans a2)
    rw[b1,b2]
    exact jX (by rw[h.sl x' (Yp a2)];omega)
   rw[e]
   exact h.ls k (by omega)
 ·have hi:i<m:=by rw[<-len5];exact(Ye.mp e1).1
  obtain⟨S0,x',y,a1,a2,a3,a4,a5,a6,a7⟩:=at_ hi
  have e1':(aX R HS R.ps.length).he[i]? =some he:=e1
  rw[a6]at e1'
  cases e1'
  show _=wrB w' ((i:Nat):Int) ((R.bo++[b]).getD k 0)
  have ly:=h.hl y (Yp a3)
  by_cases c:k<t
  ·rw[Yx (by rw[h.lw];exact c)]at ew
   rw[jX (by omega),bok k c]
   exact h.hr i y a3 k w' ew
  ·have hk:k=t:=by
    have:=(Ye.mp ew).1
    rw[Yc,h.lw]at this
    have:k<t+1:=this
    omega
   subst hk
   rw[Yv (by rw[h.lw];exact Yd _),h.lw,XO]at ew
   cases ew
   rw[jY ly.symm,bot]
 ·show (aX R HS R.ps.length).ev.length<=_
  have:=h.ev
  have:=h.ln
  omega
theorem I95.hand {ms:List (Nat×Nat)}{m vt t i:Nat}{ws:List (List Int)}{R:RS}{S:PS}{wt:List Fr}{ow:List (Key×V)}(h:I95 ms m vt t ws R)(e:R.ps[i]? =some S):I95 ms m vt t ws { R with ps:=R.ps.set i { S with wt:=wt },ow:=ow }:=by
 have old:∀{j:Nat}{T:PS},(R.ps.set i { S with wt:=wt })[j]? =some T->∃T0,R.ps[j]? =some T0/\(T=T0\/T={ T0 with wt:=wt }):=fun {j T} z=>by
  rw[Xl]at z
  by_cases c:i=j
  ·rw[if_pos c,if_pos (Ye.mp e).1]at z
   cases z
   exact⟨S,c▸e,.inr rfl⟩
  ·rw[if_neg c]at z
   exact⟨T,z,.inl rfl⟩
 refine⟨by show (R.ps.set _ _).length=m;rw[XC];exact h.ln,h.l2,h.l4,h.bo,h.bb,fun j T he e1 e2=>?_,fun j T e1=>?_,h.sl,h.hl,h.ls,h.hr,h.lw,h.ev⟩
 ·obtain⟨T0,z,y⟩:=old e1
  have p:=h.pp j T0 he z e2
  rcases y with rfl | rfl
  ·exact p
  ·exact⟨p.vq,p.hn,p.al⟩
 ·obtain⟨T0,z,y⟩:=old e1
  have p:=h.mm j T0 z
  rcases y with rfl | rfl <;> exact p
theorem I95.start (ms:List (Nat×Nat))(vt:Nat){m:Nat}(lm:ms.length=m):I95 ms m vt 0 [] (R0 (ms.map fun c=>(((c.1:Nat):Int),((c.2:Nat):Int))) ((vt:Nat):Int)):=by
 have ll:(ms.map fun c=>(((c.1:Nat):Int),((c.2:Nat):Int))).length=m:=by rw[Ya,lm]
 have e0:∀x∈List.replicate (ms.map fun c=>(((c.1:Nat):Int),((c.2:Nat):Int))).length ([]:List Int),x= []:=fun x hx=>List.eq_of_mem_replicate hx
 have ps:∀{i:Nat}{S:PS},(R0 (ms.map fun c=>(((c.1:Nat):Int),((c.2:Nat):Int))) ((vt:Nat):Int)).ps[i]? =some S->∃c,ms[i]? =some c/\S=S0 c.1 c.2 vt:=fun {i S} z=>by
  have z':(List.map _ (List.map _ ms))[i]? =some S:=z
  rw[Yi,Yi]at z'
  cases e:ms[i]? with
  |none=>rw[e]at z';cases z'
  |some c=>rw[e]at z';cases z';exact⟨c,rfl,rfl⟩
 refine⟨?_,?_,?_,rfl,vG,fun i S he e1 e2=>?_,fun i S e1=>?_,fun x hx=>by rw[e0 x hx];rfl,fun x hx=>(by rw[e0 x hx];rfl),fun k hk=>absurd hk (Nat.not_lt_zero _),fun i he _ k w ew=>(by cases ew),rfl,Yd _⟩
 ·show (List.map _ (List.map _ ms)).length=m
  rw[Ya,ll]
 ·show (List.replicate _ _).length=m
  rw[YM,ll]
 ·show (List.replicate _ _).length=m
  rw[YM,ll]
 ·obtain⟨c,_,rfl⟩:=ps e1
  exact⟨rfl,trivial, [],rfl,rfl,fun x hx=>nomatch hx⟩
 ·obtain⟨c,ec,rfl⟩:=ps e1
  exact ec
theorem wC:∀{l:List Int},bG l->l.sum+((l.count 0:Nat):Int)=((l.length:Nat):Int)
 |[],_=>rfl
 | b ::l,h=>by
  have ih:=wC (l:=l) fun z hz=>h z (Ys _ hz)
  rcases h b YD with q | q
  ·subst q
   rw[X4,List.count_cons_self,YN]
   omega
  ·subst q
   rw[X4,List.count_cons_of_ne (by decide),YN]
   omega
theorem oH.cut {vt:Nat}{he:List Int}{T:Nat}{f:Fr}(h:oH vt he T f):∃tail,T+1=tail+(9+vt)/\(wr f.1 f.2).length<=tail/\tail+(9+vt)<=he.length/\(he.drop (tail-(wr f.1 f.2).length)).take (wr f.1 f.2).length=wr f.1 f.2/\he.getD tail 0=1/\(he.drop (tail+2)).take 7=List.replicate 7 1/\((vt:Nat):Int)-((he.drop (tail+9)).take vt).sum<=((vt / 2:Nat):Int):=by
 obtain⟨pre,tl,rest,rfl,h1,h2,h3,h4,h5⟩:=h.ex
 generalize wr f.1 f.2=w at h5 ⊢
 rw[Yc,Yc,h1]at h5
 have hl:(pre++w++tl++rest).length=pre.length+w.length+(9+vt)+rest.length:=by rw[Yc,Yc,Yc,h1]
 have dr:∀j,(pre++w++tl++rest).drop (pre.length+w.length+j)=(tl++rest).drop j:=fun j=>by
  rw[YF (pre++w),<-Yc,List.drop_append,List.drop_eq_nil_of_le (by omega),List.nil_append,show (pre++w).length+j-(pre++w).length=j by omega]
 refine⟨pre.length+w.length,by omega,by omega,by omega,?_,?_,?_,?_⟩
 ·rw[show pre.length+w.length-w.length=pre.length by omega,YF pre,YF pre,List.drop_left,YF,List.take_left]
 ·have:=dr 0
  rw[Jf,List.drop_zero]at this
  have g:∀l:List Int,l.getD (pre.length+w.length) 0=(l.drop (pre.length+w.length)).getD 0 0:=fun l=>by rw[Yg,Yg,List.getElem?_drop,Jf]
  rw[g,this,Yg,Yx (by omega),<-Yg]
  exact h3 0 (by decide) (by decide)
 ·rw[dr 2]
  refine List.ext_getElem (by rw[Yo,YU,Yc,YM];omega) fun j h6 h7=>?_
  rw[YM]at h7
  rw[List.getElem_take,List.getElem_drop,List.getElem_append_left (by omega),List.getElem_replicate,<-getD_get]
  exact h3 (2+j) (by omega) (by omega)
 ·rw[dr 9,Xh (by omega),Xg (by rw[YU];omega),Ym (by rw[YU];omega)]
  have b:=wC (l:=tl.drop 9) fun z hz=>h2 z (X8 hz)
  rw[YU,h1]at b
  omega
theorem b4S {S:PS}(h:(S.m1,S.m2)=((0,0):Nat×Nat))(n:Nat):gY S n=true:=by
 obtain⟨h1,h2⟩:=Prod.mk.inj h
 unfold gY
 rw[h1,h2]
 refine Yl ?_
 show Builtin.bitAnd ((n:Nat):Int) ((0:Nat):Int)=0
 rw[band,Nat.and_zero]
 rfl
theorem I95.all {ms:List (Nat×Nat)}{m vt t i:Nat}{ws:List (List Int)}{R:RS}{S:PS}{he:List Int}(h:I95 ms m vt t ws R)(e1:R.ps[i]? =some S)(e2:R.he[i]? =some he)(hm:ms[i]? =some (0,0)):∃al:List (Nat×Fr),al.map (·.1)=tkO i R.ev/\S.up=al.map (·.2)/\∀x∈al,oH vt he x.1 x.2:=by
 obtain⟨al,a1,a2,a3⟩:=(h.pp i S he e1 e2).al
 have w0:=h.mm i S e1
 rw[hm]at w0
 refine⟨al,a1,?_,a3⟩
 rw[a2,List.filter_eq_self.mpr fun x _=>b4S (Yq w0).symm _]
theorem I95.some {ms:List (Nat×Nat)}{m vt t i:Nat}{ws:List (List Int)}{R:RS}{S:PS}{he:List Int}{c:Nat×Nat}(h:I95 ms m vt t ws R)(e1:R.ps[i]? =some S)(e2:R.he[i]? =some he)(hm:ms[i]? =some c):(∀f∈S.up,Builtin.bitAnd ((f.1:Nat):Int) ((c.1:Nat):Int)=((c.2:Nat):Int))/\S.up.length<=(tkO i R.ev).length:=by
 obtain⟨al,a1,a2,a3⟩:=(h.pp i S he e1 e2).al
 have w0:=h.mm i S e1
 rw[hm]at w0
 cases w0
 refine⟨fun f hf=>?_,?_⟩
 ·rw[a2]at hf
  obtain⟨x,hx,rfl⟩:=Y1.mp hf
  exact YQ (List.mem_filter.mp hx).2
 ·rw[a2,<-a1,Ya,Ya]
  exact Xq _ _
theorem I95.szR {ms:List (Nat×Nat)}{m vt t:Nat}{ws:List (List Int)}{R:RS}(h:I95 ms m vt t ws R)(ht:t<=170):SzR R:=by
 refine⟨by rw[h.bo];omega,fun x hx=>by rw[h.sl x hx];omega,fun x hx=>(by rw[h.hl x hx];omega),by have:=h.ev;omega,fun S hS=>?_⟩
 obtain⟨i,hi,e⟩:=Xb hS
 have e1:R.ps[i]? =Option.some S:=by rw[Yb hi,e]
 have hi':i<m:=h.ln▸hi
 have h1:=(h.some e1 (Yb (by rw[h.l4];exact hi')) (h.mm i S e1)).2
 have h2:(tkO i R.ev).length<=R.ev.length:=by unfold tkO;rw[Ya];exact Xq _ _
 have:=h.ev
 omega
structure W95 (fs:List (Nat×Nat×List Int×Nat))(c:Nat)(R:RS):Prop where
 wt:∀S∈R.ps,S.wt.length<=c
 ol:R.ow.length<=c
 ow:∀(n:Nat)(v:V),iG R.ow (.inl ((n:Nat):Int))=some v->∃f∈fs,f.2.1=n/\v= .int ((f.1:Nat):Int)
theorem W95.turn {fs:List (Nat×Nat×List Int×Nat)}{c:Nat}{R:RS}{hs:List Int}{b:Int}(h:W95 fs c R):W95 fs c (lQ R hs b):=by
 have e:(lQ R hs b).ow=R.ow:=(iY R hs R.ps.length).2.1
 refine⟨fun S hS=>?_,by rw[e];exact h.ol,fun n v hv=>h.ow n v (by rw[e]at hv;exact hv)⟩
 rcases (sI R hs R.ps.length).1 S hS with z | ⟨T,hT,b',_,rfl⟩
 ·exact h.wt S z
 ·exact Y0 (qK T b').2.2.2 (h.wt T hT)
theorem W95.hand {fs:List (Nat×Nat×List Int×Nat)}{c:Nat}{R:RS}{f:Nat×Nat×List Int×Nat}{S:PS}{x:Fr}(h:W95 fs c R)(hf:f∈fs)(eS:R.ps[f.1]? =some S):W95 fs (c+1) { R with ps:=R.ps.set f.1 { S with wt:=S.wt++[x] },ow:=putK R.ow (.inl ((f.2.1:Nat):Int)) (.int ((f.1:Nat):Int)) }:=by
 refine⟨fun T hT=>?_,?_,fun n v hv=>?_⟩
 ·rcases XQ (show T∈R.ps.set f.1 _ from hT) with z | z
  ·exact Nat.le_succ_of_le (h.wt T z)
  ·rw[z]
   show (S.wt++[x]).length<=_
   rw[Yc]
   exact Nat.succ_le_succ (h.wt S (Yp eS))
 ·have h1:=h.ol
  have h2:=a8C (kvs:=R.ow) (k:= .inl ((f.2.1:Nat):Int)) (v:= .int ((f.1:Nat):Int))
  show (putK _ _ _).length<=_
  omega
 ·have hv':iG (putK R.ow (.inl ((f.2.1:Nat):Int)) (.int ((f.1:Nat):Int))) (.inl ((n:Nat):Int))=some v:=hv
  rw[a2V]at hv'
  split at hv'
  ·rename_i z
   cases hv'
   exact⟨f,hf,by have:=Sum.inl.inj z;omega,rfl⟩
  ·exact h.ow n v hv'
structure J95 (C:Addr)(A:Cs)(P:Addr)(F H:Hp)(r:Addr)(R:RS)(o:Own):Prop where
 rl:jO C A H r R o
 tb:jN P o H
 kp:∀x u,F x=some u->H x=some u/\¬ o x/\x≠P
structure Mu (P:Addr)(F H:Hp)(o:Own)(l:Addr)(vs:List V):Prop where
 at_:H l=some (.lst vs)
 no:¬ o l
 nF:F l=none
section
variable {C:Addr}{A:Cs}{P:Addr}{F F' H H':Hp}{r l l':Addr}{R R':RS}{o o':Own}{vs vs':List V}
theorem J95.sm (h:J95 C A P F H r R o):Same F H:=fun x u e=>(h.kp x u e).1
theorem J95.same (h:J95 C A P F H r R o)(g:Same H H'):J95 C A P F H' r R o:=⟨let ⟨w,x⟩:=h.rl;⟨w,x.same g⟩,h.tb.same g,fun x u e=>⟨g _ _ (h.kp x u e).1,(h.kp x u e).2⟩⟩
theorem J95.pt (h:J95 C A P F H r R o):∃ps,H P=some (.tbl ps):=let ⟨_,ps,e,_⟩:=h.tb;⟨ps,e⟩
theorem J95.mv (h:J95 C A P F H r R o)(hR:jO C A H' r R' o')(m:Mv o H o' H'):J95 C A P F H' r R' o':=⟨hR,h.tb.mv m,fun x u e=>let ⟨a,b,c⟩:=h.kp x u e;⟨m.1 _ _ a (.inl b),m.out a b,c⟩⟩
theorem J95.turn (h:J95 C A P F H r R o)(hR:jO C A H' r R' o')(t:jN P o' H')(m:MvP P o H o' H'):J95 C A P F H' r R' o':=⟨hR,t,fun x u e=>let ⟨a,b,c⟩:=h.kp x u e;⟨m.1 _ _ a (.inl fun z=>z.elim b c),fun z=>m.out a (fun z=>z.elim b c) (.inl z),c⟩⟩
theorem Mu.same (h:Mu P F H o l vs)(g:Same H H'):Mu P F H' o l vs:=⟨g _ _ h.at_,h.no,h.nF⟩
theorem Mu.nP (h:Mu P F H o l vs)(j:J95 C A P F H r R o):l≠P:=fun z=>by
 obtain⟨ps,e⟩:=j.pt
 have:=h.at_
 rw[z,e]at this;cases this
theorem Mu.mv (h:Mu P F H o l vs)(m:Mv o H o' H'):Mu P F H' o' l vs:=⟨m.1 _ _ h.at_ (.inl h.no),m.out h.at_ h.no,h.nF⟩
theorem Mu.turn (h:Mu P F H o l vs)(j:J95 C A P F H r R o)(m:MvP P o H o' H'):Mu P F H' o' l vs:=⟨m.1 _ _ h.at_ (.inl fun z=>z.elim h.no (h.nP j)),fun z=>m.out h.at_ (fun z=>z.elim h.no (h.nP j)) (.inl z),h.nF⟩
theorem Mu.put (h:Mu P F H o l vs):Mu P F (upd H l (.lst vs')) o l vs':=⟨aB,h.no,h.nF⟩
theorem Mu.other {v:HO}(h:Mu P F H o l vs)(n:l≠l'):Mu P F (upd H l' v) o l vs:=⟨by rw[aK n];exact h.at_,h.no,h.nF⟩
theorem J95.put (h:J95 C A P F H r R o)(u:Mu P F H o l vs):J95 C A P F (upd H l (.lst vs')) r R o:=by
 have kt:∀y w,H y=some w->¬ y=l->upd H l (.lst vs') y=some w:=fun y w z q=>by rw[aK q];exact z
 refine⟨let ⟨w,x⟩:=h.rl;⟨w,x.move fun y w e z=>kt y w e fun q=>?_⟩,?_,fun x w e=>⟨kt _ _ (h.kp x w e).1 fun q=>(by rw[q,u.nF]at e;cases e),(h.kp x w e).2⟩⟩
 ·subst q
  rcases z with z | ⟨vs,rfl⟩
  ·exact u.no z
  ·rw[u.at_]at e;cases e
 ·obtain⟨n,ps,h1,h2,h3⟩:=h.tb
  exact⟨n,ps,kt _ _ h1 (fun q=>u.nP h q.symm),h2,h3.imp id fun ⟨c',a,b,c⟩=>⟨c',a,kt _ _ b fun q=>(by rw[q,u.at_]at b;cases b),c⟩⟩
theorem J95.grow (h:J95 C A P F H r R o)(g:Same H H'):∃F',J95 C A P F' H' r R o/\Same F F'/\(∀x u,H x=none->H' x=some u->F' x=some u)/\∀x,H x≠none->F x=none->F' x=none:=by
 have h':=h.same g
 refine⟨fun x=>match H x with | some _=>F x | none=>H' x,⟨h'.rl,h'.tb,fun y u hy=>?_⟩,fun x u e=>?_,fun x u n e=>?_,fun x n e=>?_⟩
 ·cases n:H y with
  |some w=>rw[n]at hy;exact h'.kp y u hy
  | none=>
   rw[n]at hy
   obtain⟨w,hR⟩:=h.rl
   obtain⟨ps,ep⟩:=h.pt
   exact⟨hy,fun z=>hR.al _ z n,fun z=>by rw[z,ep]at n;cases n⟩
 ·dsimp only
  rw[(h.kp x u e).1]
  exact e
 ·dsimp only
  rw[n]
  exact e
 ·dsimp only
  cases z:H x with
  |none=>exact absurd z n
  |some w=>exact e
theorem J95.new (h:J95 C A P F H r R o)(n:H l=none):J95 C A P F (upd H l (.lst vs)) r R o/\Mu P F (upd H l (.lst vs)) o l vs:=by
 refine⟨h.same (aJ n _),aB,fun z=>?_,?_⟩
 ·obtain⟨w,hR⟩:=h.rl
  exact hR.al _ z n
 ·cases e:F l with
  |none=>rfl
  |some u=>rw[(h.kp _ u e).1]at n;cases n
theorem Mu.gr (h:Mu P F H o l vs)(g:Same H H')(nF:∀x,H x≠none->F x=none->F' x=none):Mu P F' H' o l vs:=⟨g _ _ h.at_,h.no,nF _ (by rw[h.at_];simp) h.nF⟩
end
def a7M (K:W.Frag):Sp:=fun vs H Q _=>∃(a:Addr)(ss:List Int)(m:Nat),vs= [.ref a,.int ((m:Nat):Int)]/\SqL K H a (ss.map V.int)/\ss.length<=63/\1<=m/\m<=5/\∀(fl:Addr)(ts:List Addr)(fs:List (Nat×Nat×List Int×Nat)) H',H fl=none->Same H H'->H' fl=some (.lst (ts.map V.ref))->ts.length=fs.length->(∀(i:Nat)(t:Addr)(f:Nat×Nat×List Int×Nat),ts[i]? =some t->fs[i]? =some f->∃d,H' t=some (.tup [.int ((f.1:Nat):Int),.int ((f.2.1:Nat):Int),.ref d,.int ((f.2.2.2:Nat):Int)])/\H' d=some (.lst (f.2.2.1.map V.int)))->fs.length<=4->(∀f∈fs,f.1<m/\FrN (f.2.1,f.2.2.1))->(∀f∈fs,∀g∈fs,f.2.1=g.2.1->f.1=g.1)->Q (.ref fl) H'
def a7P (K:W.Frag):Sp:=fun vs H Q _=>∃(a:Addr)(ss:List Int)(i:Nat),vs= [.ref a,.int ((i:Nat):Int)]/\SqL K H a (ss.map V.int)/\ss.length<=63/\i<=5/\∀(t:Addr)(c:Nat×Nat) H',H t=none->Same H H'->H' t=some (.tup [.int ((c.1:Nat):Int),.int ((c.2:Nat):Int)])->c.1<256/\c.2<256->Q (.ref t) H'
def b1T (C:Addr)(A:Cs):Sp:=fun vs H Q _=>∃(r:Addr)(R:RS)(o:Own)(w:Rw)(ms:List (Nat×Nat))(m vt t i:Nat)(ws:List (List Int)),vs= [.ref r,.int ((i:Nat):Int),.int ((vt:Nat):Int)]/\cB C A H r R o w/\I95 ms m vt t ws R/\t<=160/\i<m/\1<=vt/\vt<=5/\ms[i]? =some (0,0)/\∀H',Same H H'->Q (.bl true) H'
def a3I (C:Addr)(A:Cs):Sp:=fun vs H Q _=>∃(r:Addr)(R:RS)(o:Own)(w:Rw)(ms:List (Nat×Nat))(m vt t i:Nat)(ws:List (List Int))(ch:Addr)(c:Nat×Nat),vs= [.ref r,.int ((i:Nat):Int),.ref ch]/\cB C A H r R o w/\I95 ms m vt t ws R/\t<=160/\i<m/\ms[i]? =some c/\H ch=some (.tup [.int ((c.1:Nat):Int),.int ((c.2:Nat):Int)])/\∀H',Same H H'->Q (.bl true) H'
def a1A (C:Addr)(A:Cs):Sp:=fun vs H Q _=>∃(r:Addr)(R:RS)(o:Own)(w:Rw)(ms:List (Nat×Nat))(m vt t:Nat)(ws:List (List Int))(bl wl:Addr)(was:List Addr),vs= [.ref r,.int ((m:Nat):Int),.ref bl,.ref wl]/\cB C A H r R o w/\I95 ms m vt t ws R/\t<=160/\1<=m/\m<=5/\H bl=some (.lst (R.bo.map V.int))/\H wl=some (.lst (was.map V.ref))/\was.length=t/\(∀(k:Nat)(a:Addr)(x:List Int),was[k]? =some a->ws[k]? =some x->H a=some (.lst (x.map V.int)))/\∀H',Same H H'->Q (.bl true) H'
def oW (K:W.Frag):Sp:=fun vs H Q _=>∃(a:Addr)(ns:List Int),vs= [.ref a]/\SqL K H a (ns.map V.int)/\ns.length<=63/\a2J 965 a4O iqT H/\∀H',Q (.bl true) H'
theorem iR.get {H:Hp}:∀{vs:List V}{es:List (Nat×Nat×Str)},iR H vs es->∀{i:Nat}{v:V},vs[i]? =some v->∃t e,v= .ref t/\es[i]? =some e/\H t=some (.tup [.int ((e.1:Nat):Int),.int ((e.2.1:Nat):Int),.str e.2.2])
 |_,_,.cons a _,0,_,rfl=>⟨_,_,rfl,rfl,a⟩
 |_,_,.cons _ q,i+1,_,h=>q.get (i:=i) h
theorem kW (i:Nat)(e:Nat×Nat×Str):tkO i [e]=if e.2.1=i/\e.2.2=("takes":Str) then [e.1] else []:=by
 unfold tkO
 by_cases d:e.2.1=i/\e.2.2=("takes":Str)
 ·rw[if_pos d,List.filter_cons,if_pos (by exact Yl d)]
  rfl
 ·rw[if_neg d,List.filter_cons,if_neg (by exact fun z=>d (YQ z))]
  rfl
theorem iZ {w:List Int}{i:Nat}(h:i<w.length):atI (w.map V.int) ((i:Nat):Int)=some (.int (w.getD i 0)):=cX (by rw[Yi,Yb h,getD_get h];rfl)
variable (Zc:FB P w K mg base (CX0) 1 "_law_draw" ZgO Zje ["_law_script","_law_k","_law_many"] (b1V K))
include Zu in
theorem Zlu (F0:GFm K mg "_law_draw" Zjz ZgO Zje):type_of% Zc:=by
 refine fbM ["_law_script","_law_k","_law_many","_law_cell","_law_seed"] F0 fun Sc0=>F0.F.ok Sc0 (fun vs H Q E h=>?_) fun cdv A outer s H vs Q E hr h=>?_
 ·obtain⟨a,ns,k,m,rfl,_⟩:=h
  rfl
 obtain⟨a,ns,k,m,rfl,hS,h63,k0,k1,m0,q⟩:=h
 have nd:=Sc0.nd
 refine⟨_,(aF (bB (i:=3) nd rfl (Or.inl rfl) (cG (dO (aY uK (aZ cP rfl Zu bT (aA (dv 0) aD)) aH (aV _)) (bI cR (dv 0) (aR rG (dv 1) (aZ cP rfl Zu bT (aA (dv 0) aD))) (fun _ _=>rfl)) aH))) (aF (bB (i:=4) nd rfl (Or.inl rfl) (aR bV (aR bV (aR rG (dv 3) aH) (aR iD (aR iD aH (dv 1)) (dv 1))) aH)) (aG (aM (aR rG (aR rG (aR iD (aR rG (aR iD (dv 4) aH) aH) aH) aH) (dv 2)))))),?_⟩
 refine⟨fun x H'=>(∃v,x= .int v)/\H'=H,?_,?_⟩
 ·have hlen:(ns.map V.int).length=ns.length:=Ya _
  refine⟨_,.inl hS,?_⟩
  conv=>whnf
  refine bN (fun c=>?_) (fun c=>⟨⟨_,rfl⟩,rfl⟩)
  have c1:(0:Int)<(((ns.map V.int).length:Nat):Int):=dec_true c
  obtain⟨v,hv⟩:=b4J (ns:=ns) (k:=k) (by rw[hlen]at c1;omega)
  exact⟨_,.inl hS,c1,_,_,hS,hv,⟨v,rfl⟩,rfl⟩
 rintro x H' ⟨⟨v,rfl⟩,rfl⟩
 have k2:31*k*k<=31*100000*100000:=Int.mul_le_mul (by omega) k1 k0 (by decide)
 have k3:0<=31*k*k:=Int.mul_nonneg (by omega) k0
 refine⟨(by show (0:Int)<_;decide),⟨gQ (by decide) (by decide),gQ (by omega) (by omega)⟩,⟨gQ (by omega) (by omega),gQ (by omega) (by omega)⟩,?_⟩
 have s0:0<=v % 1000003:=Int.emod_nonneg _ (by decide)
 have s1:v % 1000003<1000003:=Jh _ (by decide)
 refine⟨⟨gQ (by omega) (by omega),gQ (by decide) (by decide)⟩,(by show (0:Int)<_;decide),?_⟩
 have t0:0<=(v % 1000003+31*k*k+1)*48271 % 999983:=Int.emod_nonneg _ (by decide)
 have t1:(v % 1000003+31*k*k+1)*48271 % 999983<999983:=Jh _ (by decide)
 refine⟨⟨gQ (by omega) (by omega),gQ (by decide) (by decide)⟩,(by show (0:Int)<_;decide),m0,?_⟩
 exact q _ (Int.emod_nonneg _ (by omega)) (Jh _ m0)
variable (ZbY:FB P w K mg base (CX0) 2 "_law_wire" ZgQ Zjg ["_law_name","_law_data"] (a7I K))
include ZS Zu Zhy in
theorem Zlw (F0:GFm K mg "_law_wire" ZjB ZgQ Zjg):type_of% ZbY:=by
 refine fbM ["_law_name","_law_data","_law_number","_law_byte","_law_rest","_law_k","_law_whole","_law_wire_here"] F0 fun Sc0=>F0.F.ok Sc0 (fun vs H Q E h=>?_) fun cdv A outer s H vs Q E hr h=>?_
 ·obtain⟨d,n,ds,rfl,_⟩:=h
  rfl
 obtain⟨d,n,ds,rfl,hS,hn,hl,hall,q⟩:=h
 have nd:=Sc0.nd
 refine⟨_,(aF (bB (i:=2) nd rfl (Or.inl rfl) (aR bV (aR iD (dv 0) aH) (aZ cP rfl Zu bT (aA (dv 1) aD)))) (aF (dZ YW rfl (dC (dv 1)) (cQ (i:=3) nd rfl (Or.inl rfl)) (aG (bB (i:=2) nd rfl (Or.inl rfl) (aR bV (aR iD (dv 2) aH) (dv 3))))) (aF (bB (i:=4) nd rfl (Or.inl rfl) (aR iD (dv 2) aH)) (aF (dZ YW rfl (rR rfl ZS (aA aH (aA aH (aA (yX yK aH) aD)))) (cQ (i:=5) nd rfl (Or.inl rfl)) (aG (lN (bH (aY dW (aR rH (aR yJ (dv 4) (dv 5)) aH) aH (aV _)) (aG (bB (i:=4) nd rfl (Or.inl rfl) (aR a9Y (dv 4) (aR b4N aH (aR gW (dv 5) aH))))) aW)))) (aF (bB (i:=6) nd rfl (Or.inl rfl) (aR bV (aR iD (dv 2) aH) (dv 4))) (aF (bB (i:=7) nd rfl (Or.inl rfl) (eE aD)) (aF (dZ YW rfl (rR rfl ZS (aA (aR bV aH (aR iD aH (aZ cP rfl Zu bT (aA (dv 1) aD)))) (aA (yX yK aH) (aA (yX yK aH) aD)))) (cQ (i:=5) nd rfl (Or.inl rfl)) (aF (bC (cO (dv 7) (aA (aR rH (aR yJ (dv 6) (dv 5)) aH) aD))) (aG (lN (bH (PW.pt (jG (aY uK (aZ cP rfl Zu bT (aA (dv 7) aD)) aH (aV _)) (iV (aY dW (aR rG (aZ (a9Z rfl) rfl Zhy a6S (aA (iI pK (dv 7) (fC (aR gW (aZ cP rfl Zu bT (aA (dv 7) aD)) aH)) a8L) aD)) aH) aH (aV _))))) (aG (bC (cO (dv 7) (aA (aR gW aH (bI cR (dv 7) (aR gW (aZ cP rfl Zu bT (aA (dv 7) aD)) aH) (fun _ _=>rfl))) aD)))) aW))))) (aG (aM (dv 7)))))))))),?_⟩
 refine⟨⟨gQ (by omega) (by omega),by decide⟩,_,.inl hS,?_⟩
 rw[Ya]
 refine⟨⟨_,hS⟩,gP (xs:=ds.map V.int) (fun i σ H'=>(∃x,σ= [some (.int ((n:Nat):Int)),some (.ref d),some (.int ((nm (hdD ((n:Nat):Int) ds.length (ds.take i)):Nat):Int)),x,none,none,none,none])/\H'=H) ⟨⟨none,?_⟩,rfl⟩ (fun i σ H' _ z=>z.2▸hS) ?_ ?_⟩
 ·rw[Ji,b2Y hn (by omega)]
  rfl
 ·rintro i x σ H' hx ⟨⟨y,rfl⟩,rfl⟩
  obtain⟨hi,rfl⟩:=mL hx
  have hb:=XN.mp hall _ (YL hi)
  have hb2:=fG.mp hb
  have hlt:=jU (mK ((n:Nat):Int) ds.length (ds.take i))
  rw[pG,Yo]at hlt
  have h2:2 ^ (12+8*min i ds.length)<=2 ^ 68:=Yw (by decide) (by omega)
  refine⟨⟨qW (n:=68) (by rw[Int.natAbs_natCast];omega),by decide⟩,⟨some (.int ds[i]),?_⟩,rfl⟩
  rw[Yh hi,b2X hb]
  have e:((nm (hdD ((n:Nat):Int) ds.length (ds.take i))*256+(ds[i]).toNat:Nat):Int)=((nm (hdD ((n:Nat):Int) ds.length (ds.take i)):Nat):Int)*256+ds[i]:=by
   rw[Int.natCast_add,Int.natCast_mul,Int.toNat_of_nonneg hb2.1]
   rfl
  rw[e]
  rfl
 rintro σ H1 ⟨⟨x,rfl⟩,rfl⟩
 rw[Ya,Ym (Yd _)]
 have eh:nm (hdD ((n:Nat):Int) ds.length ds)=nm (hd ((n:Nat):Int) ds):=rfl
 rw[eh]
 have hN:=b0S (n:=((n:Nat):Int)) hl
 have de:=b3T (n:=((n:Nat):Int)) hl
 have fe:=b5T (n:=((n:Nat):Int)) (ds:=ds)
 have fbi:∀{i:Nat},i<27+8*ds.length->(fb ((n:Nat):Int) ds)[i]? =some (kE (nm (fb ((n:Nat):Int) ds)) (26+8*ds.length-i)):=fun h=>b3Q h
 have fbl:=nR ((n:Nat):Int) ds
 have fbb:=pH ((n:Nat):Int) ds
 have flt:=jU fbb
 rw[fbl]at flt
 have f83:2 ^ (27+8*ds.length)<=2 ^ 83:=Yw (by decide) (by omega)
 generalize nm (hd ((n:Nat):Int) ds)=N at hN de fe
 generalize fb ((n:Nat):Int) ds=bs at fe fbi fbl fbb flt q
 generalize nm bs=M at fe fbi flt
 refine⟨⟨qW (n:=91) (by rw[Int.natAbs_natCast];omega),by decide⟩,by decide,by decide,76,by decide,by decide,?_⟩
 refine qM (fun i σ H'=>(∃y,σ= [some (.int ((n:Nat):Int)),some (.ref d),some (.int ((N:Nat):Int)),x,some (.int ((dvN (N*32768) i:Nat):Int)),y,none,none])/\H'=H1) ⟨⟨none,rfl⟩,rfl⟩ ?_ ?_
 ·rintro i σ H' hi ⟨⟨y,rfl⟩,rfl⟩
  obtain⟨d1,d2⟩:=xY hN i (by omega)
  have ek:(90:Int)+((i:Nat):Int)*(-1)=((90-i:Nat):Int):=by omega
  rw[ek]
  have nx:dvN (N*32768) (i+1)=dvS (dvN (N*32768) i) (90-i):=rfl
  generalize dvN (N*32768) i=z at d1 nx
  refine⟨fun σ' H2=>σ'= [some (.int ((n:Nat):Int)),some (.ref d),some (.int ((N:Nat):Int)),x,some (.int ((dvS z (90-i):Nat):Int)),some (.int ((90-i:Nat):Int)),none,none]/\H2=H',?_,?_⟩
  ·refine⟨by omega,bN (fun c=>?_) (fun c=>?_)⟩
   ·have c1:=dec_true c
    rw[qU]at c1
    have c2:z.testBit (90-i)=true:=by
     unfold kE at c1
     split at c1
     ·assumption
     ·exact absurd c1 (by decide)
    have es:(((90-i:Nat):Int)-15).toNat=90-i-15:=by omega
    have ex:Builtin.bitXor ((z:Nat):Int) (64647*2 ^ (((90-i:Nat):Int)-15).toNat)=((dvS z (90-i):Nat):Int):=by
     rw[es,show (64647:Int)*2 ^ (90-i-15)=((64647*2 ^ (90-i-15):Nat):Int) from by rw[Int.natCast_mul,Int.natCast_pow];rfl,bxor]
     unfold dvS
     rw[if_pos c2,Xe]
    refine⟨⟨by omega,by omega,by decide⟩,?_,rfl⟩
    rw[<-ex]
    rfl
   ·have c1:=dec_false c
    rw[qU]at c1
    have c2:¬ z.testBit (90-i)=true:=fun t=>c1 (by unfold kE;rw[if_pos t])
    refine⟨?_,rfl⟩
    unfold dvS
    rw[if_neg c2]
    rfl
  rintro σ' H2 ⟨rfl,rfl⟩
  exact⟨⟨_,by rw[nx]⟩,rfl⟩
 rintro σ H2 ⟨⟨y,rfl⟩,rfl⟩
 rw[de]
 generalize ckn (hd ((n:Nat):Int) ds)=cc at fe
 have hM:((N:Nat):Int)*32768+((cc:Nat):Int)=((M:Nat):Int):=by omega
 refine⟨⟨qW (n:=91) (by rw[Int.natAbs_natCast];omega),by decide⟩,aL rfl,fun p hp=>?_⟩
 have g0:=aJ hp (.lst [])
 have e0:=aB (H:=H2) (a:=p) (o:= .lst [])
 generalize upd H2 p (.lst [])=H3 at g0 e0
 refine⟨_,.inl (g0.seq hS),?_⟩
 rw[Ya]
 refine⟨⟨by decide,gQ (by omega) (by omega)⟩,by decide,a7W hl,27+8*ds.length,wZ hl,a1B hl,?_⟩
 refine qM (fun i σ H'=>(∃y,σ= [some (.int ((n:Nat):Int)),some (.ref d),some (.int ((N:Nat):Int)),x,some (.int ((cc:Nat):Int)),y,some (.int ((M:Nat):Int)),some (.ref p)])/\H' p=some (.lst ((put (bs.take i)).map V.int))/\Same H2 H') ⟨⟨y,by rw[<-hM];rfl⟩,e0,g0⟩ ?_ ?_
 ·rintro i σ H' hi ⟨⟨y,rfl⟩,h1,h3⟩
  have pl:=oY (bs.take i)
  rw[Yo]at pl
  have h4:=oX (bs.take i)
  have pb:=uY (l:=bs.take i) fun b h=>fbb b (Xf h)
  have hil:i<bs.length:=by omega
  have hbi:=fbb _ (YL hil)
  have ebi:bs[i]=kE M (26+8*ds.length-i):=by
   have:=fbi hi
   rw[Yb hil]at this
   exact Yq this
  generalize uX hil=ept
  generalize bs[i]=b at ept hbi ebi
  generalize put (bs.take i)=w at h1 pl h4 pb ept
  have ek:(26:Int)+8*((ds.length:Nat):Int)+((i:Nat):Int)*(-1)=((26+8*ds.length-i:Nat):Int):=by omega
  rw[ek]
  have eb:Builtin.bitAnd (((M:Nat):Int) / 2 ^ ((26+8*ds.length-i:Nat):Int).toNat) 1=b:=(qU _ _).trans ebi.symm
  generalize 26+8*ds.length-i=kk at eb
  refine⟨⟨_,SqL.of h1⟩,by omega,_,h1,bW (by rw[Ya];omega),?_⟩
  have h1':upd H' p (.lst (w.map V.int++[.int b])) p=some (.lst ((w++[b]).map V.int)):=by rw[aB,Yn];rfl
  have h3':Same H2 (upd H' p (.lst (w.map V.int++[.int b]))):=h3.put hp
  rw[show (fun i j:Int=>V.int (Builtin.bitAnd i j)) (((M:Nat):Int) / 2 ^ ((kk:Nat):Int).toNat) 1= .int b from YT V.int eb]
  generalize upd H' p (.lst (w.map V.int++[.int b]))=H3 at h1' h3'
  have wb:bG (w++[b]):=fun z hz=>by
   rcases YA.mp hz with h | h
   ·exact pb z h
   ·rw[Yj.mp h];exact hbi
  have wl:(w++[b]).length=w.length+1:=by rw[Yc,Yy]
  have r5:run (w++[b])<=5:=Y0 uV (by omega)
  have rl:=a4E (w++[b])
  refine⟨fun σ' H4=>σ'= [some (.int ((n:Nat):Int)),some (.ref d),some (.int ((N:Nat):Int)),x,some (.int ((cc:Nat):Int)),some (.int ((kk:Nat):Int)),some (.int ((M:Nat):Int)),some (.ref p)]/\H4 p=some (.lst ((pst w b).map V.int))/\Same H2 H4,?_,?_⟩
  ·have tk:(w++[b]).take (w++[b]).length=w++[b]:=Ym (Yd _)
   refine⟨_,.inl (SqL.of h1'),?_⟩
   rw[Ya]
   conv=>whnf
   refine bN (fun c=>?_) (fun c=>xQ ?_)
   ·have c1:(4:Int)<(((w++[b]).length:Nat):Int):=dec_true c
    refine⟨_,.inl (SqL.of h1'),_,SqL.of h1',fun p5 hp5=>?_⟩
    rw[Ya]
    have ec:(((w++[b]).length:Nat):Int)-5=(((w++[b]).length-5:Nat):Int):=by omega
    have hcut:lG ((w++[b]).map V.int) (some ((((w++[b]).length:Nat):Int)-5)) none=((w++[b]).drop ((w++[b]).length-5)).map V.int:=by
     rw[ec];exact a6L (by omega)
    refine⟨(w++[b]).drop ((w++[b]).length-5),SqL.of (by rw[<-hcut];exact aB),(by show (0:Int)<5;decide),?_⟩
    have sr:=a7G wb (n:=5) (k:=(w++[b]).length) (by decide) (by omega) (Yd _)
    rw[tk,Ym (l:=(w++[b]).drop ((w++[b]).length-5)) (by rw[YU];omega)]at sr
    have h1'':upd H3 p5 (.lst (lG ((w++[b]).map V.int) (some ((((w++[b]).length:Nat):Int)-5)) none)) p=some (.lst ((w++[b]).map V.int)):=by rw[aK (aQ h1' hp5)];exact h1'
    have h3'':=h3'.trans (aJ hp5 (.lst (lG ((w++[b]).map V.int) (some ((((w++[b]).length:Nat):Int)-5)) none)))
    generalize upd H3 p5 _=H5 at h1'' h3''
    conv=>whnf
    refine bN (fun c=>?_) (fun c=>?_)
    ·have c2:5<=run (w++[b]):=sr.mp (dec_true c)
     have ep:pst w b=w++[b]++[1-b]:=by unfold pst;rw[if_pos (by omega)]
     have la:atI ((w++[b]).map V.int) ((((w++[b]).map V.int).length:Nat)-(1:Int))=some (.int b):=by
      rw[Ya,wl,show ((w.length+1:Nat):Int)-1=((w.length:Nat):Int) by omega]
      exact cX (by rw[Yi,Yv (Yd _),XO];rfl)
     refine⟨⟨_,SqL.of h1''⟩,_,.inl (SqL.of h1''),_,_,SqL.of h1'',la,_,h1'',bW (by rw[Ya];omega),rfl,?_,h3''.put hp⟩
     rw[aB,ep,Yn (l₁:=w++[b])];rfl
    ·have c2:¬ 5<=run (w++[b]):=fun z=>dec_false c (sr.mpr z)
     have ep:pst w b=w++[b]:=by unfold pst;rw[if_neg (by omega)]
     rw[ep]
     exact⟨rfl,h1'',h3''⟩
   ·have c1:¬ (4:Int)<(((w++[b]).length:Nat):Int):=dec_false c
    have ep:pst w b=w++[b]:=by unfold pst;rw[if_neg (by omega)]
    rw[ep]
    exact⟨rfl,h1',h3'⟩
  rintro σ' H4 ⟨rfl,k1,k2⟩
  exact⟨⟨_,rfl⟩,by rw[ept];exact k1,k2⟩
 rintro σ H4 ⟨⟨y,rfl⟩,h1,h3⟩
 rw[Ym (by omega)]at h1
 exact q p H4 hp h3 h1
variable (Zba:FB P w K mg base (CX0) 2 "_law_frames" Zfu ZhN ["_law_script","_law_posts"] (a7M K))
include ZS Zc in
theorem Zky (F0:GFm K mg "_law_frames" Zh5 Zfu ZhN):type_of% Zba:=by
 refine fbM ["_law_script","_law_posts","_law_frames_here","_law_k","_law_post","_law_name","_law_other","_law_data"] F0 fun Sc0=>F0.F.ok Sc0 (fun vs H Q E h=>?_) fun cdv A outer s H vs Q E hr h=>?_
 ·obtain⟨a,ss,m,rfl,_⟩:=h
  rfl
 obtain⟨a,ss,m,rfl,hS,h63,m1,m5,Qq⟩:=h
 have nd:=Sc0.nd
 refine⟨_,(aF (bB (i:=2) nd rfl (Or.inl rfl) (eE aD)) (aF (dZ YW rfl (cV rfl ZS (aA (aR bV aH (aU Zc.1 (hr.mono (by decide)) rfl Zc.2.2.2 Zc.2.2.1 Zc.2.1 .nil aN (aA (dv 0) (aA aH (aA aH aD))))) aD)) (cQ (i:=3) nd rfl (Or.inl rfl)) (aF (bB (i:=4) nd rfl (Or.inl rfl) (aU Zc.1 (hr.mono (by decide)) rfl Zc.2.2.2 Zc.2.2.1 Zc.2.1 .nil aN (aA (dv 0) (aA (aR bV aH (dv 3)) (aA (dv 1) aD))))) (aF (bB (i:=5) nd rfl (Or.inl rfl) (aU Zc.1 (hr.mono (by decide)) rfl Zc.2.2.2 Zc.2.2.1 Zc.2.1 .nil aN (aA (dv 0) (aA (aR bV aH (dv 3)) (aA aH aD))))) (aF (dZ YW rfl (dC (dv 2)) (cQ (i:=6) nd rfl (Or.inl rfl)) (aG (bH (aY dW (bI fH (dv 6) aH (fun _ _=>rfl)) (dv 5) (aV _)) (aG (bB (i:=4) nd rfl (Or.inl rfl) (bI fH (dv 6) aH (fun _ _=>rfl)))) aW))) (aF (bB (i:=7) nd rfl (Or.inl rfl) (aR a2M (eE (aA (aU Zc.1 (hr.mono (by decide)) rfl Zc.2.2.2 Zc.2.2.1 Zc.2.1 .nil aN (aA (dv 0) (aA (aR bV aH (dv 3)) (aA aH aD)))) aD)) (aU Zc.1 (hr.mono (by decide)) rfl Zc.2.2.2 Zc.2.2.1 Zc.2.1 .nil aN (aA (dv 0) (aA (aR bV aH (dv 3)) (aA aH aD)))))) (aG (bC (cO (dv 2) (aA (cF (aA (dv 4) (aA (dv 5) (aA (dv 7) (aA (aR iD (aR wJ (aU Zc.1 (hr.mono (by decide)) rfl Zc.2.2.2 Zc.2.2.1 Zc.2.1 .nil aN (aA (dv 0) (aA (aR bV aH (dv 3)) (aA aH aD)))) aH) (aU Zc.1 (hr.mono (by decide)) rfl Zc.2.2.2 Zc.2.2.1 Zc.2.1 .nil aN (aA (dv 0) (aA (aR bV aH (dv 3)) (aA aH aD))))) aD))))) aD))))))))) (aG (aM (dv 2))))),?_⟩
 refine⟨aL rfl,fun l hl=>?_⟩
 have g1:=aJ hl (.lst [])
 have el:=aB (H:=H) (a:=l) (o:= .lst [])
 generalize upd H l _=H1 at g1 el
 refine⟨a,ss,3,4,rfl,g1.seq hS,h63,by decide,by decide,by decide,fun z z0 z1=>?_⟩
 obtain⟨z,rfl⟩:=YK z0
 refine⟨⟨by omega,by omega⟩,?_⟩
 rw[show ((1:Int)+((z:Nat):Int)).toNat=1+z by omega]
 refine gB (lo:=0) (n:=1+z) (fun i σ H'=>(∃x3 x4 x5 x6 x7,σ= [some (.ref a),some (.int ((m:Nat):Int)),some (.ref l),x3,x4,x5,x6,x7])/\Same H H'/\(∀x,H' x=none->H1 x=none)/\∃(ts:List Addr)(fs:List (Nat×Nat×List Int×Nat)),H' l=some (.lst (ts.map V.ref))/\ts.length=fs.length/\fs.length=i/\(∀(j:Nat)(t:Addr)(f:Nat×Nat×List Int×Nat),ts[j]? =some t->fs[j]? =some f->∃d,H1 d=none/\H' t=some (.tup [.int ((f.1:Nat):Int),.int ((f.2.1:Nat):Int),.ref d,.int ((f.2.2.2:Nat):Int)])/\H' d=some (.lst (f.2.2.1.map V.int)))/\(∀f∈fs,f.1<m/\FrN (f.2.1,f.2.2.1))/\∀f∈fs,∀g∈fs,f.2.1=g.2.1->f.1=g.1) ⟨⟨_,_,_,_,_,rfl⟩,g1,fun x z=>z, [], [],el,rfl,rfl,fun j t f h=>by simp at h,fun f hf=>(by cases hf),fun f hf=>(by cases hf)⟩ ?_ ?_
 ·rintro i σ H2 hi ⟨⟨x3,x4,x5,x6,x7,rfl⟩,g2,nn,ts,fs,e2,lt,lf,hts,hok,hcons⟩
  rw[Xn]
  refine⟨a,ss,_,_,rfl,g2.seq hS,h63,(by show 0<=20+((i:Nat):Int);omega),(by show 20+((i:Nat):Int)<=100000;omega),by omega,fun p p0 p1=>?_⟩
  obtain⟨p,rfl⟩:=YK p0
  refine⟨a,ss,_,256,rfl,g2.seq hS,h63,(by show 0<=30+((i:Nat):Int);omega),(by show 30+((i:Nat):Int)<=100000;omega),by decide,fun n n0 n1=>?_⟩
  obtain⟨n,rfl⟩:=YK n0
  refine⟨⟨_,SqL.of e2⟩,gP (xs:=ts.map V.ref) (fun j σ H'=>(∃(q:Nat)(y:Option V),σ= [some (.ref a),some (.int ((m:Nat):Int)),some (.ref l),some (.int ((i:Nat):Int)),some (.int ((q:Nat):Int)),some (.int ((n:Nat):Int)),y,x7]/\q<m/\((∀f∈fs.take j,f.2.1≠n)\/∃f∈fs,f.2.1=n/\q=f.1))/\H'=H2) ⟨⟨p,_,rfl,by omega,.inl fun f hf=>(by rw[Ji]at hf;cases hf)⟩,rfl⟩ (fun j σ H' _ z=>z.2▸SqL.of e2) ?_ ?_⟩
  ·rintro j x σ H' hx ⟨⟨q,y,rfl,hq,hor⟩,rfl⟩
   rw[Yi]at hx
   obtain⟨t,ht,rfl⟩:=YO.mp hx
   have hj:j<fs.length:=by rw[<-lt];exact(Ye.mp ht).1
   obtain⟨f,ef⟩:∃f,fs[j]? =some f:=⟨_,Yb hj⟩
   obtain⟨d,_,et,_⟩:=hts j t f ht ef
   have fm:=Yp ef
   have tk:fs.take (j+1)=fs.take j++[f]:=by rw[Yh hj,Yq ((Yb hj).symm.trans ef)]
   refine⟨_,_,SqT.of et,rfl,bN (fun c=>?_) (fun c=>?_)⟩
   ·have c1:f.2.1=n:=by have:=dec_true c;omega
    exact⟨_,_,SqT.of et,rfl,⟨f.1,_,rfl,(hok f fm).1,.inr ⟨f,fm,c1,rfl⟩⟩,rfl⟩
   ·have c1:¬ f.2.1=n:=fun w=>dec_false c (by rw[w])
    refine⟨⟨q,_,rfl,hq,hor.imp (fun w g hg=>?_) id⟩,rfl⟩
    rw[tk]at hg
    rcases YA.mp hg with z | z
    ·exact w g z
    ·rw[Yj.mp z];exact c1
  rintro σ H' ⟨⟨q,y,rfl,hq,hor⟩,rfl⟩
  rw[Ya,Ym (by omega)]at hor
  refine⟨a,ss,_,256,rfl,g2.seq hS,h63,(by show 0<=70+((i:Nat):Int);omega),(by show 70+((i:Nat):Int)<=100000;omega),by decide,fun x x0 x1=>?_⟩
  refine⟨aL rfl,fun s1 hs1=>?_⟩
  have g3:=aJ hs1 (.lst [.int x])
  have es1:=aB (H:=H') (a:=s1) (o:= .lst [.int x])
  have nn3:∀y,upd H' s1 (.lst [.int x]) y=none->H1 y=none:=fun y z=>nn y (g3.none z)
  generalize upd H' s1 _=H3 at g3 es1 nn3
  have g13:=g2.trans g3
  refine⟨a,ss,_,2,rfl,g13.seq hS,h63,(by show 0<=50+((i:Nat):Int);omega),(by show 50+((i:Nat):Int)<=100000;omega),by decide,fun u u0 u1=>?_⟩
  obtain⟨u,rfl⟩:=YK u0
  refine⟨_,es1,⟨by omega,by omega⟩,by rw[YI];exact XI (bW (by show 1*u<=1000;omega)),fun s2 hs2=>?_⟩
  rw[YI]
  have efl:(List.replicate u [V.int x]).flatten=(List.replicate u x).map V.int:=by
   have:u=0\/u=1:=by omega
   rcases this with rfl | rfl <;> rfl
  rw[efl]
  have g4:=aJ hs2 (.lst ((List.replicate u x).map V.int))
  have es2:=aB (H:=H3) (a:=s2) (o:= .lst ((List.replicate u x).map V.int))
  have d1:=nn3 _ hs2
  have nn4:∀y,upd H3 s2 (.lst ((List.replicate u x).map V.int)) y=none->H1 y=none:=fun y z=>nn3 y (g4.none z)
  generalize upd H3 s2 _=H4 at g4 es2 nn4
  have g14:=g13.trans g4
  have k24:=g3.trans g4
  refine⟨⟨_,SqL.of (k24 _ _ e2)⟩,a,ss,_,60,rfl,g14.seq hS,h63,(by show 0<=40+((i:Nat):Int);omega),(by show 40+((i:Nat):Int)<=100000;omega),by decide,fun w w0 w1=>?_⟩
  obtain⟨w,rfl⟩:=YK w0
  refine⟨⟨by decide,by decide⟩,a,ss,_,60,rfl,g14.seq hS,h63,(by show 0<=60+((i:Nat):Int);omega),(by show 60+((i:Nat):Int)<=100000;omega),by decide,fun y y0 y1=>?_⟩
  obtain⟨y,rfl⟩:=YK y0
  refine⟨⟨gQ (by omega) (by omega),gQ (by omega) (by omega)⟩,aL rfl,fun t ht=>?_⟩
  have etn:((w:Nat):Int) / 40*((y:Nat):Int)=((w / 40*y:Nat):Int):=by rw[Int.natCast_mul];rfl
  have g5:=aJ ht (.tup [.int ((q:Nat):Int),.int ((n:Nat):Int),.ref s2,.int ((w / 40*y:Nat):Int)])
  have et:=aB (H:=H4) (a:=t) (o:= .tup [.int ((q:Nat):Int),.int ((n:Nat):Int),.ref s2,.int ((w / 40*y:Nat):Int)])
  have nn5:∀x,upd H4 t (.tup [.int ((q:Nat):Int),.int ((n:Nat):Int),.ref s2,.int ((w / 40*y:Nat):Int)]) x=none->H1 x=none:=fun x z=>nn4 x (g5.none z)
  rw[show (fun i j:Int=>V.int (i*j)) (((w:Nat):Int) / 40) ((y:Nat):Int)= .int ((w / 40*y:Nat):Int) from YT V.int etn]
  generalize upd H4 t _=H5 at g5 et nn5
  have k25:=k24.trans g5
  have e5:=k25 _ _ e2
  have kl:∀x u,x≠l->H5 x=some u->upd H5 l (.lst (ts.map V.ref++[.ref t])) x=some u:=fun x u n e=>by rw[aK n];exact e
  have tl:∀{x xs},H5 x=some (.tup xs)->x≠l:=fun {x xs} e z=>by rw[z,e5]at e;cases e
  have dl:∀{x},H1 x=none->x≠l:=fun {x} e z=>by rw[z,el]at e;cases e
  refine⟨_,e5,bW (by rw[Ya];omega),⟨_,_,_,_,_,rfl⟩,(g14.trans g5).put hl,fun x z=>?_,ts++[t],fs++[(q,n,List.replicate u x,w / 40*y)],by rw[aB,Yn];rfl,by rw[Yc,Yc,lt];rfl,by rw[Yc,lf];rfl,fun j t' f h1 h2=>?_,fun f hf=>?_,fun f hf g hg e=>?_⟩
  ·by_cases c:x=l
   ·rw[c,aB]at z;cases z
   ·rw[aK c]at z;exact nn5 x z
  ·by_cases c:j<fs.length
   ·rw[Yx (by omega)]at h1 h2
    obtain⟨d,a1,a2,a3⟩:=hts j t' f h1 h2
    exact⟨d,a1,kl _ _ (tl (k25 _ _ a2)) (k25 _ _ a2),kl _ _ (dl a1) (k25 _ _ a3)⟩
   ·rw [Yv (by omega)]at h1 h2
    rw[lt]at h1
    cases ej:j-fs.length with
    | zero=>
     rw[ej]at h1 h2
     cases h1
     cases h2
     exact⟨s2,d1,kl _ _ (tl et) et,kl _ _ (dl d1) (g5 _ _ es2)⟩
    |succ k=>rw[ej]at h1;cases h1
  ·rcases YA.mp hf with z | z
   ·exact hok f z
   ·rw[Yj.mp z]
    refine⟨hq,by show n<256;omega,by show (List.replicate u x).length<=7;rw[YM];omega,XN.mpr fun v hv=>?_⟩
    rw[List.eq_of_mem_replicate hv]
    exact fG.mpr ⟨x0,by omega⟩
  ·have key:∀f∈fs,f.2.1=n->f.1=q:=fun f hf e=>by
    rcases hor with z | ⟨g,hg,e2,e3⟩
    ·exact absurd e (z f hf)
    ·rw[e3];exact hcons f hf g hg (e.trans e2.symm)
   rcases YA.mp hf with z1 | z1 <;> rcases YA.mp hg with z2 | z2
   ·exact hcons f z1 g z2 e
   ·rw[Yj.mp z2]at e ⊢
    exact key f z1 e
   ·rw[Yj.mp z1]at e ⊢
    exact(key g z2 e.symm).symm
   ·rw[Yj.mp z1,Yj.mp z2]
 rintro σ H2 ⟨⟨x3,x4,x5,x6,x7,rfl⟩,g2,nn,ts,fs,e2,lt,lf,hts,hok,hcons⟩
 exact Qq l ts fs H2 hl g2 e2 lt (fun i t f h1 h2=>let ⟨d,_,a2,a3⟩:=hts i t f h1 h2;⟨d,a2,a3⟩) (by omega) hok hcons
variable (Za9:FB P w K mg base (CX0) 2 "_law_choice" Zft ZhM ["_law_script","_law_post"] (a7P K))
include Zc in
theorem Zkx (F0:GFm K mg "_law_choice" Zh4 Zft ZhM):type_of% Za9:=by
 refine fbM ["_law_script","_law_post","_law_way","_law_mask"] F0 fun Sc0=>F0.F.ok Sc0 (fun vs H Q E h=>?_) fun cdv A outer s H vs Q E hr h=>?_
 ·obtain⟨a,ss,i,rfl,_⟩:=h
  rfl
 obtain⟨a,ss,i,rfl,hS,h63,hi,Qq⟩:=h
 have nd:=Sc0.nd
 refine⟨_,(aF (bB (i:=2) nd rfl (Or.inl rfl) (aU Zc.1 (hr.mono (by decide)) rfl Zc.2.2.2 Zc.2.2.1 Zc.2.1 .nil aN (aA (dv 0) (aA (aR bV aH (dv 1)) (aA aH aD))))) (aF (bH (aY wI (dv 2) aH (aV _)) (aG (aM (cF (aA aH (aA aH aD))))) aW) (aF (bB (i:=3) nd rfl (Or.inl rfl) (aR bV aH (aU Zc.1 (hr.mono (by decide)) rfl Zc.2.2.2 Zc.2.2.1 Zc.2.1 .nil aN (aA (dv 0) (aA (aR bV aH (dv 1)) (aA aH aD)))))) (aG (aM (cF (aA (dv 3) (aA (aR rH (dv 3) (aU Zc.1 (hr.mono (by decide)) rfl Zc.2.2.2 Zc.2.2.1 Zc.2.1 .nil aN (aA (dv 0) (aA (aR bV aH (dv 1)) (aA aH aD))))) aD)))))))),?_⟩
 refine⟨a,ss,_,3,rfl,hS,h63,(by show 0<=80+((i:Nat):Int);omega),(by show 80+((i:Nat):Int)<=100000;omega),by decide,fun z z0 z1=>?_⟩
 conv=>whnf
 refine bN (fun c=>?_) (fun c=>?_)
 ·refine⟨aL rfl,fun t ht=>?_⟩
  exact Qq t (0,0) _ ht (aJ ht _) aB (by decide)
 ·refine⟨a,ss,_,3,rfl,hS,h63,(by show 0<=84+((i:Nat):Int);omega),(by show 84+((i:Nat):Int)<=100000;omega),by decide,fun k k0 k1=>?_⟩
  refine⟨a,ss,_,256,rfl,hS,h63,(by show 0<=88+((i:Nat):Int);omega),(by show 88+((i:Nat):Int)<=100000;omega),by decide,fun x x0 x1=>?_⟩
  obtain⟨k,rfl⟩:=YK k0
  obtain⟨x,rfl⟩:=YK x0
  refine⟨aL rfl,fun t ht=>?_⟩
  refine Qq t (1+k,(1+k) &&& x) _ ht (aJ ht _) ?_ ⟨by show 1+k<256;omega,XX Nat.and_le_right (by omega)⟩
  rw[aB]
  show some (HO.tup [.int (1+((k:Nat):Int)),.int (Builtin.bitAnd (1+((k:Nat):Int)) ((x:Nat):Int))])=_
  rw[show (1:Int)+((k:Nat):Int)=((1+k:Nat):Int) from rfl,band]
variable (Zat:FB P w K mg base (CX0) 10 "_law_heard_whole" Zdj Ze8 ["_law_rail","_law_post","_law_votes"] (b1T Zk CA))
include Zz Zae ZS Zu Zhy Zev ZiU Zb Zan ZaD Zav ZaH Zbn ZaS ZbY in
theorem Zia (F0:GFm K mg "_law_heard_whole" Zfa Zdj Ze8):type_of% Zat:=by
 refine fbM ["_law_rail","_law_post","_law_votes","_law_turns","_law_got","_law_heard","_law_k","_law_wire_here","_law_tail"] F0 fun Sc0=>F0.F.ok Sc0 (fun vs H Q E h=>?_) fun cdv A outer s H vs Q E hr h=>?_
 ·obtain⟨r,R,o,w,ms,m,vt,t,i,ws,rfl,_⟩:=h
  rfl
 obtain⟨r,R,o,w,ms,m,vt,t,i,ws,rfl,hR,hI,ht,hi,v1,v5,hm,q⟩:=h
 have nd:=Sc0.nd
 refine⟨_,(aF (fZ (j:=3) nd rfl rfl rfl (ix:=[1]) (dC (bR Zb Zan ZaH.1 (hr.mono (by decide)) ZaH.2 .nil aN (dv 0))) (fun C fp s0 H0 at0=>(tM (PW.pt (jG (aY dW (bI (lK (K:=K)) (dv 0) aH (fun _ _=>rfl)) (dv 1) (aV _)) (iV (aY dW (bI (lK (K:=K)) (dv 0) aH (fun _ _=>rfl)) bA (aV _))))))) (fun C fp s0 H0 at0=>(bI (lK (K:=K)) (dv 0) aH (fun _ _=>rfl))) rfl rfl (by rfl) (show ([".0","_law_event","_law_post"]:List Str).Nodup by decide +kernel)) (aF (bB (i:=4) nd rfl (Or.inl rfl) (bQ Zb ZaD Zbn.1 (hr.mono (by decide)) Zbn.2 .nil gU (dv 0) (aA (dv 1) aD))) (aF (bH (aY nD (aZ cP rfl Zu bT (aA (dv 4) aD)) (aZ cP rfl Zu bT (aA (dv 3) aD)) (aV _)) (aG (aM eQ)) aW) (aF (bB (i:=5) nd rfl (Or.inl rfl) (bQ Zb Zav ZaS.1 (hr.mono (by decide)) ZaS.2 .nil gU (dv 0) (aA (dv 1) aD))) (aF (dZ YW rfl (cV rfl ZS (aA (aZ cP rfl Zu bT (aA (dv 3) aD)) aD)) (cQ (i:=6) nd rfl (Or.inl rfl)) (aF (bH (PW.pt (oA (fK (cN (aZ uJ rfl Zev rD (aA (bI cR (dv 4) (dv 6) (fun _ _=>rfl)) (aA (a8P (v:= .ty "tuple") rfl ZiU a6R rfl) aD))))) (oA (fK (qG qY qY aH (bI fH (bI cR (dv 4) (dv 6) (fun _ _=>rfl)) aH (fun _ _=>rfl)) aH)) (lM (aY uK (aZ cP rfl Zu bT (aA (bI fH (bI cR (dv 4) (dv 6) (fun _ _=>rfl)) aH (fun _ _=>rfl)) aD)) aH (aV _)))))) (aG (aM eQ)) aW) (aF (bB (i:=7) nd rfl (Or.inl rfl) (aU ZbY.1 (hr.mono (by decide)) rfl ZbY.2.2.2 ZbY.2.2.1 ZbY.2.1 .nil aN (aA (bI fH (bI cR (dv 4) (dv 6) (fun _ _=>rfl)) aH (fun _ _=>rfl)) (aA (bI fH (bI cR (dv 4) (dv 6) (fun _ _=>rfl)) aH (fun _ _=>rfl)) aD)))) (aF (bB (i:=8) nd rfl (Or.inl rfl) (aR gW (aR gW (aR bV (bI cR (dv 3) (dv 6) (fun _ _=>rfl)) aH) aH) (dv 2))) (aF (bH (PW.pt (oA (aY wI (dv 8) (aZ cP rfl Zu bT (aA (dv 7) aD)) (aV _)) (lM (aY (a2O hr.units) (iI pK (dv 5) (fC (aR gW (dv 8) (aZ cP rfl Zu bT (aA (dv 7) aD)))) (fC (dv 8))) (dv 7) (aV _))))) (aG (aM eQ)) aW) (aF (bH (PW.pt (oA (aY nD (bI cR (dv 5) (dv 8) (fun _ _=>rfl)) aH (aV _)) (lM (aY (a2O hr.units) (iI pK (dv 5) (fC (aR bV (dv 8) aH)) (fC (aR bV (dv 8) aH))) (aR a2M (eE (aA aH aD)) aH) (aV _))))) (aG (aM eQ)) aW) (aG (bH (aY uK (aR gW (dv 2) (aZ (a9Z rfl) rfl Zhy a6S (aA (iI pK (dv 5) (fC (aR bV (dv 8) aH)) (fC (aR bV (aR bV (dv 8) aH) (dv 2)))) aD))) (aR wJ (dv 2) aH) (aV _)) (aG (aM eQ)) aW)))))))) (aG (aM eQ))))))),?_⟩
 have til:((i:Nat):Int)<((R.ps.length:Nat):Int):=by rw[hI.ln];omega
 obtain⟨S,eS⟩:∃S,R.ps[i]? =some S:=⟨_,Yb (by rw[hI.ln];exact hi)⟩
 obtain⟨he,eH⟩:∃x,R.he[i]? =some x:=⟨_,Yb (by rw[hI.l4];exact hi)⟩
 obtain⟨al,a1,a2,a3⟩:=hI.all eS eH hm
 have lev:=hI.ev
 have lh:=hI.hl he (Yp eH)
 have ltk:(tkO i R.ev).length<=R.ev.length:=by unfold tkO;rw[Ya];exact Xq _ _
 refine⟨⟨w.dx,_,hR.er,rfl⟩,r,R,o,w,rfl,hR,fun le hle=>?_⟩
 have g1:=aJ hle (.lst w.evs)
 have ele:=aB (H:=H) (a:=le) (o:= .lst w.evs)
 have E1:=hR.ev.imp (fun x xs z=>g1 x _ z)
 generalize upd H le _=H1 at g1 ele E1
 have lE:=E1.len
 refine⟨⟨_,SqL.of ele⟩,dX (xs:=w.evs) (fun j ys H'=>H'=H1/\ys=((tkO i (R.ev.take j)).map fun n:Nat=>((n:Nat):Int)).map V.int) ?_ ?_ ?_ ?_ ?_⟩
 ·rintro j ys H3 hj ⟨_,rfl⟩
  rw[Ya,Ya]
  have:(tkO i (R.ev.take j)).length<=(R.ev.take j).length:=by unfold tkO;rw[Ya];exact Xq _ _
  rw[Yo]at this
  exact bW (by omega)
 ·exact⟨rfl,rfl⟩
 ·rintro j ys H3 hj ⟨rfl,_⟩
  exact SqL.of ele
 ·rintro j x ys H3 hx ⟨rfl,rfl⟩
  obtain⟨t1,e,rfl,ee,e1⟩:=E1.get hx
  obtain⟨hj,ej⟩:=Ye.mp ee
  have tk:tkO i (R.ev.take (j+1))=tkO i (R.ev.take j)++tkO i [e]:=by rw[Yh hj,oR,ej]
  conv=>whnf
  refine⟨_,_,SqT.of e1,rfl,bN (fun c1=>?_) (fun c1=>?_)⟩
  ·have c2:e.2.1=i:=by have:=dec_true c1;omega
   refine⟨_,_,SqT.of e1,rfl,bN (fun c3=>?_) (fun c3=>?_)⟩
   ·have c4:e.2.2=("takes":Str):=dec_true c3
    refine⟨_,_,SqT.of e1,rfl,rfl,?_⟩
    rw[tk,kW,if_pos ⟨c2,c4⟩,Yn,Yn]
    rfl
   ·have c4:¬ e.2.2=("takes":Str):=dec_false c3
    refine⟨rfl,?_⟩
    rw[tk,kW,if_neg fun z=>c4 z.2,YC]
  ·have c2:¬ e.2.1=i:=fun z=>dec_false c1 (by rw[z])
   refine⟨rfl,?_⟩
   rw[tk,kW,if_neg fun z=>c2 z.1,YC]
 rintro ys H2 ⟨rfl,rfl⟩ tl htl
 rw[lE,Ym (Yd _),<-a1]
 have lal:al.length<=850:=by have:=YT List.length a1;rw[Ya]at this;omega
 have g2:=aJ htl (.lst (((al.map (·.1)).map fun n:Nat=>((n:Nat):Int)).map V.int))
 have etl:=aB (H:=H2) (a:=tl) (o:= .lst (((al.map (·.1)).map fun n:Nat=>((n:Nat):Int)).map V.int))
 generalize upd H2 tl _=H3 at g2 etl
 have g13:=g1.trans g2
 have hR3:=hR.same g13
 refine⟨⟨w.dx,_,hR3.er,rfl⟩,r,R,o,w,_,rfl,hR3,fun i' S' ei eS'=>?_,fun no=>absurd ⟨by omega,til⟩ no⟩
 rw[show i'=i by omega,eS]at eS'
 cases eS'
 refine⟨by rw[a2,Ya];omega,fun gl xs H4 hgl g4 egl fn=>?_⟩
 rw[a2]at fn
 have lxs:xs.length=al.length:=by rw[fn.len,Ya]
 have g14:=g13.trans g4
 refine⟨_,.inl (SqL.of egl),_,.inl (SqL.of (g4 _ _ etl)),?_⟩
 rw[Ya,Ya,Ya,lxs]
 refine jW rfl ?_
 have hR4:=hR.same g14
 refine⟨⟨w.dx,_,hR4.er,rfl⟩,r,R,o,w,_,rfl,hR4,fun i' he' ei eh hl5 hhl=>?_,fun no=>absurd ⟨by omega,til⟩ no⟩
 have eh':R.he[i']? =some he':=eh
 rw[show i'=i by omega,eH]at eh'
 cases eh'
 have g5:=aJ hhl (.lst (he.map V.int))
 have e5:=aB (H:=H4) (a:=hl5) (o:= .lst (he.map V.int))
 generalize upd H4 hl5 _=H5 at g5 e5
 have egl5:=g5 _ _ egl
 have etl5:=g5 _ _ (g4 _ _ etl)
 have fn5:=fn.same g5
 refine⟨_,.inl (SqL.of etl5),⟨by rw[Ya,Ya,Ya];omega,by rw[Ya,Ya,Ya];omega⟩,?_⟩
 rw[Ya,Ya,Ya,YI]
 refine gB (lo:=0) (n:=al.length) (fun k σ H'=>(∃x y z,σ= [some (.ref r),some (.int ((i:Nat):Int)),some (.int ((vt:Nat):Int)),some (.ref tl),some (.ref gl),some (.ref hl5),x,y,z])/\Same H5 H') ⟨⟨_,_,_,rfl⟩,Same.refl _⟩ ?_ ?_
 ·rintro k σ H6 hk ⟨⟨x,y,z,rfl⟩,g6⟩
  rw[Xn]
  obtain⟨x1,ex1⟩:∃x,al[k]? =some x:=⟨_,Yb hk⟩
  obtain⟨vv,evv⟩:∃v,xs[k]? =some v:=⟨_,Yb (by omega)⟩
  obtain⟨t1,f,rfl,ef,d,et1,ed1,_⟩:=(fn5.same g6).at_.get evv
  rw[Yi,ex1]at ef
  cases ef
  have gd:=a3 x1 (Yp ex1)
  have fo:=gd.ok
  obtain⟨ta,c1,c2,c3,c4,c5,c6,c7⟩:=gd.cut
  have atg:atI xs ((k:Nat):Int)=some (.ref t1):=cX evv
  have SG:=SqL.of (K:=K) (g6 _ _ egl5)
  have ST:=SqT.of (K:=K) et1
  have f255:((x1.2.1:Nat):Int)<=255:=by have:=fo.1;omega
  have f7:x1.2.2.length<=7:=fo.2.1
  refine⟨_,.ref t1,SG,atg,rfl,⟨_,et1⟩,?_⟩
  conv=>whnf
  refine⟨_,.ref t1,SG,atg,_,_,ST,rfl,?_⟩
  conv=>whnf
  refine jW f255 ?_
  refine⟨_,.ref t1,SG,atg,_,.ref d,ST,rfl,_,.inl (SqL.of ed1),?_⟩
  rw[Ya]
  refine bN (fun c=>absurd (dec_true c) (show ¬ (7:Int)<((x1.2.2.length:Nat):Int) by omega)) (fun _=>?_)
  refine⟨_,.ref t1,SG,atg,_,_,ST,rfl,_,.ref t1,SG,atg,_,.ref d,ST,rfl,d,x1.2.1,x1.2.2,rfl,SqL.of ed1,fo.1,fo.2.1,fo.2.2,fun p H7 hp g7 ep=>?_⟩
  have att:atI (((al.map (·.1)).map fun n:Nat=>((n:Nat):Int)).map V.int) ((k:Nat):Int)=some (.int ((x1.1:Nat):Int)):=cX (by rw[Yi,Yi,Yi,ex1];rfl)
  have g67:=g6.trans g7
  have e7:=g67 _ _ e5
  have eta:((x1.1:Nat):Int)+1-9-((vt:Nat):Int)=((ta:Nat):Int):=by omega
  refine⟨_,_,SqL.of (g67 _ _ etl5),att,_,.inl (SqL.of ep),?_⟩
  rw[Ya]
  have c2':¬ ((x1.1:Nat):Int)+1-9-((vt:Nat):Int)<(((put (fb ((x1.2.1:Nat):Int) x1.2.2)).length:Nat):Int):=by
   have:(put (fb ((x1.2.1:Nat):Int) x1.2.2)).length<=ta:=c2
   omega
  refine bN (fun c=>absurd (dec_true c) c2') (fun _=>?_)
  refine⟨_,.inl (SqL.of ep),_,SqL.of e7,fun s1 hs1=>?_⟩
  rw[Ya,nU (bs:=he) (a:=ta-(wr x1.2.1 x1.2.2).length) (n:=(wr x1.2.1 x1.2.2).length) (by show ((x1.1:Nat):Int)+1-9-((vt:Nat):Int)-(((wr x1.2.1 x1.2.2).length:Nat):Int)=_;omega) (by show ((x1.1:Nat):Int)+1-9-((vt:Nat):Int)=_;omega) (by omega),c4]
  have h1:=aJ hs1 (.lst ((wr x1.2.1 x1.2.2).map V.int))
  have es1:=aB (H:=H7) (a:=s1) (o:= .lst ((wr x1.2.1 x1.2.2).map V.int))
  generalize upd H7 s1 _=H8 at h1 es1
  have e8:=h1 _ _ e7
  refine⟨_,_,SqL.of es1,SqL.of (h1 _ _ ep),jW rfl ?_⟩
  refine⟨_,_,SqL.of e8,(show atI (he.map V.int) (((x1.1:Nat):Int)+1-9-((vt:Nat):Int))=some (.int (he.getD ta 0)) by rw[eta];exact iZ (by omega)),jW c5 ?_⟩
  refine⟨_,SqL.of e8,fun s2 hs2=>?_⟩
  rw[nU (bs:=he) (a:=ta+2) (n:=7) (by show ((x1.1:Nat):Int)+1-9-((vt:Nat):Int)+2=_;omega) (by show ((x1.1:Nat):Int)+1-9-((vt:Nat):Int)+9=_;omega) (by omega),c6]
  have h2:=aJ hs2 (.lst ((List.replicate 7 (1:Int)).map V.int))
  have es2:=aB (H:=H8) (a:=s2) (o:= .lst ((List.replicate 7 (1:Int)).map V.int))
  generalize upd H8 s2 _=H9 at h2 es2
  refine⟨aL rfl,fun s3 hs3=>?_⟩
  have h3:=aJ hs3 (.lst [.int 1])
  have es3:=aB (H:=H9) (a:=s3) (o:= .lst [.int 1])
  generalize upd H9 s3 _=H10 at h3 es3
  refine⟨_,es3,⟨by decide,by decide⟩,(by show 1*7<=sizeLine;exact small (by decide)),fun s4 hs4=>?_⟩
  have h4:=aJ hs4 (.lst ((List.replicate 7 (1:Int)).map V.int))
  have es4:=aB (H:=H10) (a:=s4) (o:= .lst ((List.replicate 7 (1:Int)).map V.int))
  rw[show (List.replicate (7:Int).toNat [V.int 1]).flatten=(List.replicate 7 (1:Int)).map V.int from rfl]
  generalize upd H10 s4 _=H11 at h4 es4
  refine⟨List.replicate 7 1,List.replicate 7 1,SqL.of (h4 _ _ (h3 _ _ es2)),SqL.of es4,?_⟩
  conv=>whnf
  have h14:=((h1.trans h2).trans h3).trans h4
  have e11:=h14 _ _ e7
  refine⟨_,SqL.of e11,fun s5 hs5=>?_⟩
  rw[nU (bs:=he) (a:=ta+9) (n:=vt) (by show ((x1.1:Nat):Int)+1-9-((vt:Nat):Int)+9=_;omega) (by show ((x1.1:Nat):Int)+1-9-((vt:Nat):Int)+9+((vt:Nat):Int)=_;omega) (by omega)]
  refine⟨_,SqL.of aB,⟨by decide,by decide⟩,bN (fun c=>absurd (dec_true c) ?_) (fun _=>?_)⟩
  ·show ¬ ((vt:Nat):Int) / 2<((vt:Nat):Int)-((he.drop (ta+9)).take vt).sum
   omega
  ·exact⟨⟨_,_,_,rfl⟩,(g67.trans h14).trans (aJ hs5 _)⟩
 rintro σ H6 ⟨⟨x,y,z,rfl⟩,g6⟩
 exact q _ (g14.trans (g5.trans g6))
variable (ZbX:FB P w K mg base (CX0) 10 "_law_some" ZgP Zjf ["_law_rail","_law_post","_law_choice_here"] (a3I Zk CA))
include Zz Zae Zu Zb Zan ZaD ZaH Zbn in
theorem Zlv (F0:GFm K mg "_law_some" ZjA ZgP Zjf):type_of% ZbX:=by
 refine fbM ["_law_rail","_law_post","_law_choice_here","_law_got","_law_one"] F0 fun Sc0=>F0.F.ok Sc0 (fun vs H Q E h=>?_) fun cdv A outer s H vs Q E hr h=>?_
 ·obtain⟨r,R,o,w,ms,m,vt,t,i,ws,ch,c,rfl,_⟩:=h
  rfl
 obtain⟨r,R,o,w,ms,m,vt,t,i,ws,ch,c,rfl,hR,hI,ht,hi,hm,ech,q⟩:=h
 have nd:=Sc0.nd
 refine⟨_,(aF (bB (i:=3) nd rfl (Or.inl rfl) (bQ Zb ZaD Zbn.1 (hr.mono (by decide)) Zbn.2 .nil gU (dv 0) (aA (dv 1) aD))) (aF (dZ YW rfl (dC (dv 3)) (cQ (i:=4) nd rfl (Or.inl rfl)) (aG (bH (aY nD (aR rH (bI fH (dv 4) aH (fun _ _=>rfl)) (bI fH (dv 2) aH (fun _ _=>rfl))) (bI fH (dv 2) aH (fun _ _=>rfl)) (aV _)) (aG (aM eQ)) aW))) (aG (aM (eO qY (aZ cP rfl Zu bT (aA (dv 3) aD)) (aZ cP rfl Zu bT (aA (gH rfl (ix:=[1]) (dC (bR Zb Zan ZaH.1 (hr.mono (by decide)) ZaH.2 .nil aN (dv 0))) (fun C fp s0 H0 at0=>(tM (PW.pt (jG (aY dW (bI (lK (K:=K)) (dv 0) aH (fun _ _=>rfl)) (dv 1) (aV _)) (iV (aY dW (bI (lK (K:=K)) (dv 0) aH (fun _ _=>rfl)) bA (aV _))))))) (fun C fp s0 H0 at0=>(dv 0)) rfl rfl (by rfl) (show ([".0","_law_event","_law_post"]:List Str).Nodup by decide +kernel)) aD)) (aV _)))))),?_⟩
 have til:((i:Nat):Int)<((R.ps.length:Nat):Int):=by rw[hI.ln];omega
 obtain⟨S,eS⟩:∃S,R.ps[i]? =some S:=⟨_,Yb (by rw[hI.ln];exact hi)⟩
 obtain⟨he,eH⟩:∃x,R.he[i]? =some x:=⟨_,Yb (by rw[hI.l4];exact hi)⟩
 obtain⟨w1,w2⟩:=hI.some eS eH hm
 have lev:=hI.ev
 have ltk:(tkO i R.ev).length<=R.ev.length:=by unfold tkO;rw[Ya];exact Xq _ _
 refine⟨⟨w.dx,_,hR.er,rfl⟩,r,R,o,w,_,rfl,hR,fun i' S' ei eS'=>?_,fun no=>absurd ⟨by omega,til⟩ no⟩
 rw[show i'=i by omega,eS]at eS'
 cases eS'
 refine⟨by omega,fun l xs H1 hl g1 el fn=>?_⟩
 refine⟨⟨_,SqL.of el⟩,gP (xs:=xs) (fun j σ H'=>(∃y,σ= [some (.ref r),some (.int ((i:Nat):Int)),some (.ref ch),some (.ref l),y])/\H'=H1) ⟨⟨_,rfl⟩,rfl⟩ (fun j σ H' _ z=>z.2▸SqL.of el) ?_ ?_⟩
 ·rintro j x σ H' hx ⟨⟨y,rfl⟩,rfl⟩
  obtain⟨t1,f,rfl,ef,d,e1,e2,_⟩:=fn.at_.get hx
  refine⟨_,_,SqT.of e1,rfl,_,_,SqT.of (g1 _ _ ech),rfl,_,_,SqT.of (g1 _ _ ech),rfl,jW (w1 f (Yp ef)) ?_⟩
  exact⟨⟨_,rfl⟩,rfl⟩
 rintro σ H' ⟨⟨y,rfl⟩,rfl⟩
 have hR1:=hR.same g1
 refine⟨_,.inl (SqL.of el),⟨w.dx,_,hR1.er,rfl⟩,r,R,o,w,rfl,hR1,fun le hle=>?_⟩
 have g2:=aJ hle (.lst w.evs)
 have ele:=aB (H:=H') (a:=le) (o:= .lst w.evs)
 have E2:=hR1.ev.imp (fun x xs z=>g2 x _ z)
 have el2:=g2 _ _ el
 generalize upd H' le _=H2 at g2 ele E2 el2
 have lE:=E2.len
 refine⟨⟨_,SqL.of ele⟩,dX (xs:=w.evs) (fun j ys H'=>H'=H2/\ys.length=(tkO i (R.ev.take j)).length) ?_ ?_ ?_ ?_ ?_⟩
 ·rintro j ys H3 hj ⟨_,ly⟩
  rw[ly]
  have:(tkO i (R.ev.take j)).length<=(R.ev.take j).length:=by unfold tkO;rw[Ya];exact Xq _ _
  rw[Yo]at this
  exact bW (by omega)
 ·exact⟨rfl,rfl⟩
 ·rintro j ys H3 hj ⟨rfl,_⟩
  exact SqL.of ele
 ·rintro j x ys H3 hx ⟨rfl,ly⟩
  obtain⟨t1,e,rfl,ee,e1⟩:=E2.get hx
  obtain⟨hj,ej⟩:=Ye.mp ee
  have tk:tkO i (R.ev.take (j+1))=tkO i (R.ev.take j)++tkO i [e]:=by rw[Yh hj,oR,ej]
  conv=>whnf
  refine⟨_,_,SqT.of e1,rfl,bN (fun c1=>?_) (fun c1=>?_)⟩
  ·have c2:e.2.1=i:=by have:=dec_true c1;omega
   refine⟨_,_,SqT.of e1,rfl,bN (fun c3=>?_) (fun c3=>?_)⟩
   ·have c4:e.2.2=("takes":Str):=dec_true c3
    refine⟨rfl,?_⟩
    rw[tk,kW,if_pos ⟨c2,c4⟩,Yc,Yc,ly]
    rfl
   ·have c4:¬ e.2.2=("takes":Str):=dec_false c3
    refine⟨rfl,?_⟩
    rw[tk,kW,if_neg fun z=>c4 z.2,YC,ly]
  ·have c2:¬ e.2.1=i:=fun z=>dec_false c1 (by rw[z])
   refine⟨rfl,?_⟩
   rw[tk,kW,if_neg fun z=>c2 z.1,YC,ly]
 rintro ys H3 ⟨rfl,ly⟩ l3 hl3
 rw[lE,Ym (Yd _)]at ly
 refine⟨_,.inl (SqL.of aB),?_⟩
 have hle':((xs.length:Nat):Int)<=((ys.length:Nat):Int):=by rw[fn.len,ly];omega
 show Q (.bl (decide (((xs.length:Nat):Int)<=((ys.length:Nat):Int)))) _
 rw[Yl hle']
 exact q _ ((g1.trans g2).trans (aJ hl3 _))
variable (Zbt:FB P w K mg base (CX0) 10 "_law_borne" ZfZ Zix ["_law_rail","_law_posts","_law_bits","_law_wrong"] (a1A Zk CA))
include Zz Zae ZS Zu Zhx Zla Zb Zav Zce Zc0 ZaS in
theorem ZkZ (F0:GFm K mg "_law_borne" ZiO ZfZ Zix):type_of% Zbt:=by
 refine fbM ["_law_rail","_law_posts","_law_bits","_law_wrong","_law_said","_law_turn","_law_post","_law_heard"] F0 fun Sc0=>F0.F.ok Sc0 (fun vs H Q E h=>?_) fun cdv A outer s H vs Q E hr h=>?_
 ·obtain⟨r,R,o,w,ms,m,vt,t,ws,bl,wl,was,rfl,_⟩:=h
  rfl
 obtain⟨r,R,o,w,ms,m,vt,t,ws,bl,wl,was,rfl,hR,hI,ht,m1,m5,ebl,ewl,lwa,hwa,q⟩:=h
 have nd:=Sc0.nd
 refine⟨_,(aF (fZ (j:=4) nd rfl rfl rfl (ix:=[0]) (cV rfl ZS (aA (dv 1) aD)) (fun C fp s0 H0 at0=>fB) (fun C fp s0 H0 at0=>(bQ Zb Zce Zc0.1 (hr.mono (by decide)) Zc0.2 .nil gU (dv 1) (aA (dv 0) aD))) rfl rfl (by rfl) (show ([".0","_law_post","_law_rail"]:List Str).Nodup by decide +kernel)) (aF (dZ YW rfl (cV rfl ZS (aA (aZ cP rfl Zu bT (aA (dv 2) aD)) aD)) (cQ (i:=5) nd rfl (Or.inr rfl)) (aG (bH (aY nD (aZ (a2P rfl) rfl Zhx a6T (aA (gH rfl (ix:=[5]) (dC (dv 4)) (fun C fp s0 H0 at0=>fB) (fun C fp s0 H0 at0=>(bI (b1B (K:=K)) (dv 0) (dv 1) (fun _ _=>rfl))) rfl rfl (by rfl) (show ([".0","_law_row","_law_turn"]:List Str).Nodup by decide +kernel)) aD)) (bI cR (dv 2) (dv 5) (fun _ _=>rfl)) (aV _)) (aG (aM eQ)) aW))) (aF (dZ YW rfl (cV rfl ZS (aA (dv 1) aD)) (cQ (i:=6) nd rfl (Or.inl rfl)) (aF (bB (i:=7) nd rfl (Or.inl rfl) (bQ Zb Zav ZaS.1 (hr.mono (by decide)) ZaS.2 .nil gU (dv 0) (aA (dv 6) aD))) (aF (bH (PW.pt (oA (aY nD (aZ cP rfl Zu bT (aA (dv 7) aD)) (aZ cP rfl Zu bT (aA (dv 2) aD)) (aV _)) (lM (aY nD (aZ cP rfl Zu bT (aA (bI cR (dv 4) (dv 6) (fun _ _=>rfl)) aD)) (aZ cP rfl Zu bT (aA (dv 2) aD)) (aV _))))) (aG (aM eQ)) aW) (aG (dZ YW rfl (cV rfl ZS (aA (aZ cP rfl Zu bT (aA (dv 2) aD)) aD)) (cQ (i:=5) nd rfl (Or.inr rfl)) (aG (bH (aY nD (bI cR (dv 7) (dv 5) (fun _ _=>rfl)) (aR a9Y (bI cR (dv 2) (dv 5) (fun _ _=>rfl)) (cU b4P rfl Zla b4F (aA (eO b0A (dv 6) (bI cR (dv 3) (dv 5) (fun _ _=>rfl)) rfl) aD))) (aV _)) (aG (aM eQ)) aW))))))) (aG (aM eQ))))),?_⟩
 refine⟨⟨by omega,by omega⟩,?_⟩
 rw[YI]
 refine gC (lo:=0) (n:=m) (fun i ys H'=>∃sas:List Addr,ys=sas.map V.ref/\sas.length=i/\Same H H'/\∀(j:Nat)(b:Addr)(x:List Int),sas[j]? =some b->R.sa[j]? =some x->H' b=some (.lst (x.map V.int))) ?_ ?_ ?_ ?_
 ·rintro i ys H' hi ⟨sas,rfl,hl,_⟩
  rw[Ya,hl]
  exact bW (by omega)
 ·exact⟨[],rfl,rfl,Same.refl _,fun j b x h=>by simp at h⟩
 ·rintro i ys H' hi ⟨sas,rfl,hl,g,hall⟩
  have hR1:=hR.same g
  conv=>whnf
  refine⟨⟨w.dx,_,hR1.er,rfl⟩,r,R,o,w,_,rfl,hR1,fun i' x ei ex l1 hl1=>?_,fun no=>absurd ⟨by omega,by rw[hI.ln];omega⟩ no⟩
  have ei':i'=i:=by omega
  subst ei'
  have g1:=aJ hl1 (.lst (x.map V.int))
  have e1:=aB (H:=H') (a:=l1) (o:= .lst (x.map V.int))
  generalize upd H' l1 _=H1 at g1 e1
  refine⟨sas++[l1],by rw[Yn];rfl,by rw[Yc,hl];rfl,g.trans g1,fun j b y h1 h2=>?_⟩
  by_cases c:j<i'
  ·rw[Yx (by omega)]at h1
   exact g1 _ _ (hall j b y h1 h2)
  ·have hj:j=i':=by
    have:=(Ye.mp h1).1
    rw[Yc,hl]at this
    have:j<i'+1:=this
    omega
   subst hj
   rw[Yv (by omega),hl,XO]at h1
   cases h1
   rw[show R.sa[j]? =some x from ex]at h2
   cases h2
   exact e1
 rintro ys H1 ⟨sas,rfl,hsl,g1,hsas⟩ sl hsl1
 have g2:=aJ hsl1 (.lst (sas.map V.ref))
 have esl:=aB (H:=H1) (a:=sl) (o:= .lst (sas.map V.ref))
 have hsas2:∀(j:Nat)(b:Addr)(x:List Int),sas[j]? =some b->R.sa[j]? =some x->upd H1 sl (.lst (sas.map V.ref)) b=some (.lst (x.map V.int)):=fun j b x h1 h2=>g2 _ _ (hsas j b x h1 h2)
 generalize upd H1 sl _=H2 at g2 esl hsas2
 have g12:=g1.trans g2
 have lbo:=hI.bo
 refine⟨_,.inl (SqL.of (g12 _ _ ebl)),⟨by rw[Ya];omega,by rw[Ya];omega⟩,?_⟩
 rw[Ya,lbo,YI]
 refine gB (lo:=0) (n:=t) (fun k σ H'=>(∃x,σ= [some (.ref r),some (.int ((m:Nat):Int)),some (.ref bl),some (.ref wl),some (.ref sl),x,none,none])/\Same H2 H') ⟨⟨_,rfl⟩,Same.refl _⟩ ?_ ?_
 ·rintro k σ H3 hk ⟨⟨x,rfl⟩,g3⟩
  rw[Xn]
  refine⟨⟨_,SqL.of (g3 _ _ esl)⟩,dX (xs:=sas.map V.ref) (fun j ys H'=>H'=H3/\ys=((R.sa.take j).map fun x=>x.getD k 0).map V.int) ?_ ?_ ?_ ?_ ?_⟩
  ·rintro j ys H' hj ⟨_,rfl⟩
   rw[Ya,Ya,Yo]
   have:=hI.l2
   exact bW (by omega)
  ·exact⟨rfl,rfl⟩
  ·rintro j ys H' hj ⟨rfl,_⟩
   exact SqL.of (g3 _ _ esl)
  ·rintro j x ys H' hx ⟨rfl,rfl⟩
   rw[Yi]at hx
   obtain⟨b,hb,rfl⟩:=YO.mp hx
   have hj:j<R.sa.length:=by rw[hI.l2,<-hsl];exact(Ye.mp hb).1
   obtain⟨y,ey⟩:∃y,R.sa[j]? =some y:=⟨_,Yb hj⟩
   have ly:=hI.sl y (Yp ey)
   have eyj:R.sa[j]=y:=Yq ((Yb hj).symm.trans ey)
   conv=>whnf
   refine⟨_,_,SqL.of (g3 _ _ (hsas2 j b y hb ey)),iZ (by omega),rfl,?_⟩
   rw[Yh hj,eyj,Yn,Yn]
   rfl
  rintro ys H' ⟨rfl,rfl⟩ l4 hl4
  rw[Ya,hsl,Ym (by rw[hI.l2];exact Yd _)]
  have g4:=aJ hl4 (.lst ((R.sa.map fun x=>x.getD k 0).map V.int))
  have e4:=aB (H:=H') (a:=l4) (o:= .lst ((R.sa.map fun x=>x.getD k 0).map V.int))
  generalize upd H' l4 _=H4 at g4 e4
  refine⟨_,SqL.of e4,fun z=>?_,fun mn hmn hle=>?_⟩
  ·have:=YT List.length z
   rw[Ya,hI.l2]at this
   have:m=0:=this
   omega
  have emn:mn=R.bo.getD k 0:=(show nA _ mn from ⟨hmn,hle⟩).uniq (hI.ls k hk)
  subst emn
  refine⟨_,_,SqL.of (g4 _ _ (g3 _ _ (g12 _ _ ebl))),iZ (by omega),jW rfl ?_⟩
  exact⟨⟨_,rfl⟩,g3.trans g4⟩
 rintro σ H3 ⟨⟨x,rfl⟩,g3⟩
 refine⟨⟨by omega,by omega⟩,?_⟩
 rw[YI]
 refine gB (lo:=0) (n:=m) (fun i σ H'=>(∃x y z,σ= [some (.ref r),some (.int ((m:Nat):Int)),some (.ref bl),some (.ref wl),some (.ref sl),x,y,z])/\Same H2 H') ⟨⟨_,_,_,rfl⟩,g3⟩ ?_ ?_
 ·rintro i σ H4 hi ⟨⟨x,y,z,rfl⟩,g4⟩
  rw[Xn]
  have g14:=g12.trans g4
  have hR4:=hR.same g14
  refine⟨⟨w.dx,_,hR4.er,rfl⟩,r,R,o,w,_,rfl,hR4,fun i' he ei eh l5 hl5=>?_,fun no=>absurd ⟨by omega,by rw[hI.ln];omega⟩ no⟩
  have ei':i'=i:=by omega
  subst ei'
  have eh':R.he[i']? =some he:=eh
  have lh:=hI.hl he (Yp eh')
  have g5:=aJ hl5 (.lst (he.map V.int))
  have e5:=aB (H:=H4) (a:=l5) (o:= .lst (he.map V.int))
  generalize upd H4 l5 _=H5 at g5 e5
  have g25:=g4.trans g5
  have g15:=g12.trans g25
  obtain⟨sb,hsb⟩:∃b,sas[i']? =some b:=⟨_,Yb (by omega)⟩
  obtain⟨sx,hsx⟩:∃b,R.sa[i']? =some b:=⟨_,Yb (by rw[hI.l2];exact hi)⟩
  have lsx:=hI.sl sx (Yp hsx)
  refine⟨_,.inl (SqL.of e5),_,.inl (SqL.of (g15 _ _ ebl)),?_⟩
  rw[Ya,Ya,lh,lbo]
  refine jW rfl ?_
  have ats:atI (sas.map V.ref) ((i':Nat):Int)=some (.ref sb):=cX (by rw[Yi,hsb];rfl)
  refine⟨_,.ref sb,SqL.of (g25 _ _ esl),ats,_,.inl (SqL.of (g25 _ _ (hsas2 i' sb sx hsb hsx))),_,.inl (SqL.of (g15 _ _ ebl)),?_⟩
  rw[Ya,Ya,lsx,lbo]
  refine jW rfl ?_
  refine⟨_,.inl (SqL.of (g15 _ _ ebl)),⟨by rw[Ya];omega,by rw[Ya];omega⟩,?_⟩
  rw[Ya,lbo,YI]
  refine gB (lo:=0) (n:=t) (fun k σ H'=>(∃x,σ= [some (.ref r),some (.int ((m:Nat):Int)),some (.ref bl),some (.ref wl),some (.ref sl),x,some (.int ((i':Nat):Int)),some (.ref l5)])/\H'=H5) ⟨⟨_,rfl⟩,rfl⟩ ?_ ?_
  ·rintro k σ H' hk ⟨⟨x,rfl⟩,rfl⟩
   rw[Xn]
   obtain⟨wa,hwa1⟩:∃b,was[k]? =some b:=⟨_,Yb (by omega)⟩
   obtain⟨wx,hwx⟩:∃b,ws[k]? =some b:=⟨_,Yb (by rw[hI.lw];exact hk)⟩
   have atw:atI (was.map V.ref) ((k:Nat):Int)=some (.ref wa):=cX (by rw[Yi,hwa1];rfl)
   refine⟨_,_,SqL.of e5,iZ (by omega),_,_,SqL.of (g15 _ _ ebl),iZ (by omega),_,.ref wa,SqL.of (g15 _ _ ewl),atw,wx,.inl (SqL.of (g15 _ _ (hwa k wa wx hwa1 hwx))),?_⟩
   have hb:R.bo.getD k 0=0\/R.bo.getD k 0=1:=by rw[getD_get (by omega)];exact hI.bb _ (YL _)
   have ex:he.getD k 0=Builtin.bitXor (R.bo.getD k 0) (if decide (((i':Nat):Int)∈wx)=true then 1 else 0):=by
    rw[hI.hr i' he eh' k wx hwx]
    unfold wrB
    by_cases z:((i':Nat):Int)∈wx
    ·rw[Yl z,if_pos rfl,if_pos z]
     rcases hb with e | e <;> rw[e] <;> rfl
    ·rw[Yu z,if_neg z,if_neg (by decide)]
     rcases hb with e | e <;> rw[e] <;> rfl
   refine jW ex ?_
   exact⟨⟨_,rfl⟩,rfl⟩
  ·rintro σ H' ⟨⟨x,rfl⟩,rfl⟩
   exact⟨⟨_,_,_,rfl⟩,g25⟩
 rintro σ H4 ⟨⟨x,y,z,rfl⟩,g4⟩
 exact q _ (g12.trans g4)
variable (Zmd:FB P w K mg base (CX0) 15 "law" ZlX Zl9 ["_law_script"] (oW K))
include Zq Zc5 Zz Zae ZeN ZS Z3 Zb Zeq Zcd Zcf Zcc ZfG ZfH ZcZ ZcY Zc1 ZcX Zc Zba Za9 Zat ZbX Zbt in
theorem Zmb (F0:GFm K mg "law" Zma ZlX Zl9):type_of% Zmd:=by
 refine fbM ["_law_script","_law_posts","_law_votes","_law_frames_here","_law_choices","_law_rail","_law_share","_law_bits","_law_wrong","_law_turn","_law_one","_law_post"] F0 fun Sc0=>F0.F.ok Sc0 (fun vs H Q E h=>?_) fun cdv A outer s H vs Q E hr h=>?_
 ·obtain⟨a,ns,rfl,_⟩:=h
  rfl
 obtain⟨a,ns,rfl,hS,h63,hT,q⟩:=h
 have nd:=Sc0.nd
 refine⟨_,(aF (bB (i:=1) nd rfl (Or.inl rfl) (aR bV aH (aU Zc.1 (hr.mono (by decide)) rfl Zc.2.2.2 Zc.2.2.1 Zc.2.1 .nil aN (aA (dv 0) (aA aH (aA aH aD)))))) (aF (lN (bH (aY dW (aU Zc.1 (hr.mono (by decide)) rfl Zc.2.2.2 Zc.2.2.1 Zc.2.1 .nil aN (aA (dv 0) (aA aH (aA aH aD)))) aH (aV _)) (aG (bB (i:=1) nd rfl (Or.inl rfl) aH)) aW)) (aF (bB (i:=2) nd rfl (Or.inl rfl) (cG (aR bV aH (aR iD aH (aU Zc.1 (hr.mono (by decide)) rfl Zc.2.2.2 Zc.2.2.1 Zc.2.1 .nil aN (aA (dv 0) (aA aH (aA aH aD)))))))) (aF (bB (i:=3) nd rfl (Or.inl rfl) (aU Zba.1 (hr.mono (by decide)) rfl Zba.2.2.2 Zba.2.2.1 Zba.2.1 .nil aN (aA (dv 0) (aA (dv 1) aD)))) (aF (fZ (j:=4) nd rfl rfl rfl (ix:=[0]) (cV rfl ZS (aA (dv 1) aD)) (fun C fp s0 H0 at0=>fB) (fun C fp s0 H0 at0=>(aU Za9.1 (hr.mono (by decide)) rfl Za9.2.2.2 Za9.2.2.1 Za9.2.1 .nil aN (aA (dv 1) (aA (dv 0) aD)))) rfl rfl (by rfl) (show ([".0","_law_post","_law_script"]:List Str).Nodup by decide +kernel)) (aF (bB (i:=5) nd rfl (Or.inl rfl) (cD Zeq ZcZ.1 (hr.mono (by decide)) rfl Zae ZcZ.2 .nil gU (aA (cU dU rfl Z3 fQ (aA (dv 4) aD)) (aA (dv 2) aD)))) (aF (bB (i:=6) nd rfl (Or.inr rfl) (bI cR (eE (aA aH (aA aH (aA aH (aA aH aD))))) (aU Zc.1 (hr.mono (by decide)) rfl Zc.2.2.2 Zc.2.2.1 Zc.2.1 .nil aN (aA (dv 0) (aA aH (aA aH aD)))) (fun _ _=>rfl))) (aF (bB (i:=7) nd rfl (Or.inl rfl) (eE aD)) (aF (bB (i:=8) nd rfl (Or.inl rfl) (eE aD)) (aF (dZ YW rfl (cV rfl ZS (aA (aR bV aH (aU Zc.1 (hr.mono (by decide)) rfl Zc.2.2.2 Zc.2.2.1 Zc.2.1 .nil aN (aA (dv 0) (aA aH (aA aH aD))))) aD)) (cQ (i:=9) nd rfl (Or.inr rfl)) (aF (dZ YW rfl (dC (dv 3)) (cQ (i:=10) nd rfl (Or.inl rfl)) (aG (lN (bH (aY dW (bI fH (dv 10) aH (fun _ _=>rfl)) (dv 9) (aV _)) (aG (bC (bQ Zb Zcd ZcY.1 (hr.mono (by decide)) ZcY.2 .nil gU (dv 5) (aA (bI fH (dv 10) aH (fun _ _=>rfl)) (aA (bI fH (dv 10) aH (fun _ _=>rfl)) (aA (cU dU rfl Z3 fQ (aA (bI fH (dv 10) aH (fun _ _=>rfl)) aD)) aD)))))) aW)))) (aF (bC (cO (dv 8) (aA (gH rfl (ix:=[0,9,6]) (cV rfl ZS (aA (dv 1) aD)) (fun C fp s0 H0 at0=>(tM (aY dW (aU Zc.1 (hr.mono (by decide)) rfl Zc.2.2.2 Zc.2.2.1 Zc.2.1 .nil aN (aA (dv 1) (aA (aR bV (aR bV aH (aR iD aH (dv 2))) (dv 0)) (aA (aR bV (dv 3) aH) aD)))) aH (aV _)))) (fun C fp s0 H0 at0=>(dv 0)) rfl rfl (by rfl) (show ([".0","_law_post","_law_script","_law_turn","_law_share"]:List Str).Nodup by decide +kernel)) aD))) (aG (bC (cO (dv 7) (aA (bQ Zb Zcf Zc1.1 (hr.mono (by decide)) Zc1.2 .nil gU (dv 5) (aA (cU dU rfl Z3 fQ (aA (bI cR (dv 8) (dv 9) (fun _ _=>rfl)) aD)) aD)) aD))))))) (aF (bH (PW.pt (oA (aY (a2O hr.units) (bR Zb Zcc ZcX.1 (hr.mono (by decide)) ZcX.2 .nil aN (dv 5)) (dv 7) (aV _)) (lM (fK (cN (aU Zbt.1 (hr.mono (by decide)) rfl Zbt.2.2.2 Zbt.2.2.1 Zbt.2.1 .nil aN (aA (dv 5) (aA (dv 1) (aA (dv 7) (aA (dv 8) aD)))))))))) (aG (aM eQ)) aW) (aF (dZ YW rfl (cV rfl ZS (aA (dv 1) aD)) (cQ (i:=11) nd rfl (Or.inl rfl)) (aF (bH (PW.pt (jG (aY (b4Q hr.units) (bI cR (dv 4) (dv 11) (fun _ _=>rfl)) (cF (aA aH (aA aH aD))) (aV _)) (iV (fK (cN (aU Zat.1 (hr.mono (by decide)) rfl Zat.2.2.2 Zat.2.2.1 Zat.2.1 .nil aN (aA (dv 5) (aA (dv 11) (aA (dv 2) aD))))))))) (aG (aM eQ)) aW) (aG (bH (fK (cN (aU ZbX.1 (hr.mono (by decide)) rfl ZbX.2.2.2 ZbX.2.2.1 ZbX.2.1 .nil aN (aA (dv 5) (aA (dv 11) (aA (bI cR (dv 4) (dv 11) (fun _ _=>rfl)) aD)))))) (aG (aM eQ)) aW)))) (aG (aM eQ)))))))))))))),?_⟩
 refine⟨a,ns,0,2,rfl,hS,h63,by decide,by decide,by decide,fun z z0 z1=>?_⟩
 refine⟨fun σ' H'=>(∃m:Nat,σ'= [some (.ref a),some (.int ((m:Nat):Int)),none,none,none,none,none,none,none,none,none,none]/\1<=m/\m<=3)/\H=H',?_,?_⟩
 ·refine⟨a,ns,6,8,rfl,hS,h63,by decide,by decide,by decide,fun u u0 u1=>?_⟩
  conv=>whnf
  refine bN (fun c=>?_) (fun c=>?_)
  ·exact⟨⟨1,rfl,by decide,by decide⟩,rfl⟩
  ·obtain⟨z,rfl⟩:=YK z0
   exact⟨⟨2+z,rfl,by omega,by omega⟩,rfl⟩
 rintro σ' H0 ⟨⟨m,rfl,m1,m3⟩,rfl⟩
 refine⟨fun x H'=>∃v:Nat,x= .int ((v:Nat):Int)/\(v=1\/v=3\/v=5)/\H=H',?_,?_⟩
 ·refine⟨a,ns,1,3,rfl,hS,h63,by decide,by decide,by decide,fun u u0 u1=>⟨⟨by decide,gQ (by omega) (by omega)⟩,?_⟩⟩
  obtain⟨u,rfl⟩:=YK u0
  exact⟨1+2*u,YT V.int (by show (1:Int)+2*((u:Nat):Int)=((1+2*u:Nat):Int);omega),by omega,rfl⟩
 rintro x H0 ⟨v,rfl,hv,rfl⟩
 have v1:1<=v:=by omega
 have v5:v<=5:=by omega
 refine⟨a,ns,m,rfl,hS,h63,m1,by omega,fun fl ts fs H1 hfl g1 efl lt hts lf hok hcons=>?_⟩
 refine⟨⟨by omega,by omega⟩,?_⟩
 rw[YI]
 refine gC (lo:=0) (n:=m) (fun i ys H'=>∃(cts:List Addr)(ms:List (Nat×Nat)),ys=cts.map V.ref/\cts.length=i/\ms.length=i/\Same H1 H'/\(∀(j:Nat)(t:Addr)(c:Nat×Nat),cts[j]? =some t->ms[j]? =some c->H' t=some (.tup [.int ((c.1:Nat):Int),.int ((c.2:Nat):Int)]))/\∀c∈ms,c.1<256/\c.2<256) ?_ ?_ ?_ ?_
 ·rintro i ys H' hi ⟨cts,ms,rfl,hl,_⟩
  rw[Ya,hl]
  exact bW (by omega)
 ·exact⟨[], [],rfl,rfl,rfl,Same.refl _,fun j t c h=>by simp at h,fun c hc=>by cases hc⟩
 ·rintro i ys H' hi ⟨cts,ms,rfl,hl,hl2,g,hall,hb⟩
  conv=>whnf
  refine⟨a,ns,i,by rw[Xn];rfl,(g1.trans g).seq hS,h63,by omega,fun t c H2 ht g2 et hc=>?_⟩
  refine⟨cts++[t],ms++[c],by rw[Yn];rfl,by rw[Yc,hl];rfl,by rw[Yc,hl2];rfl,g.trans g2,fun j t' c' h1 h2=>?_,fun d hd=>?_⟩
  ·by_cases e:j<i
   ·rw[Yx (by omega)]at h1 h2
    exact g2 _ _ (hall j t' c' h1 h2)
   ·rw[Yv (by omega)]at h1 h2
    rw[hl]at h1
    rw[hl2]at h2
    cases ej:j-i with
    |zero=>rw[ej]at h1 h2;cases h1;cases h2;exact et
    |succ k=>rw[ej]at h1;cases h1
  ·rcases YA.mp hd with y | y
   ·exact hb d y
   ·rw[Yj.mp y];exact hc
 rintro ys H2 ⟨cts,ms,rfl,lc,lm,g2,hcts,hb⟩ cl hcl
 have g3:=aJ hcl (.lst (cts.map V.ref))
 have ecl:=aB (H:=H2) (a:=cl) (o:= .lst (cts.map V.ref))
 generalize upd H2 cl _=H3 at g3 ecl
 have g13:=(g1.trans g2).trans g3
 refine⟨_,.inl (SqL.of ecl),fun cl2 hcl2=>?_⟩
 have g4:=aJ hcl2 (.lst (cts.map V.ref))
 have ecl2:=aB (H:=H3) (a:=cl2) (o:= .lst (cts.map V.ref))
 generalize upd H3 cl2 _=H4 at g4 ecl2
 have g14:=g13.trans g4
 have lmm:(ms.map fun c=>(((c.1:Nat):Int),((c.2:Nat):Int))).length=m:=by rw[Ya,lm]
 have hC:wH H4 cl2 (ms.map fun c=>(((c.1:Nat):Int),((c.2:Nat):Int))):=⟨cts,ecl2,by rw[lmm,lc],fun i t c h1 h2=>by
  rw[Yi]at h2
  obtain⟨c',ec,rfl⟩:=YO.mp h2
  exact g4 _ _ (g3 _ _ (hcts i t c' h1 ec))⟩
 have okm:∀c∈ms.map (fun c=>(((c.1:Nat):Int),((c.2:Nat):Int))),a2K c.1 c.2 ((v:Nat):Int):=fun c hc=>by
  obtain⟨d,hd,rfl⟩:=Y1.mp hc
  have:=hb d hd
  exact⟨fG.mpr ⟨by show (0:Int)<=((d.1:Nat):Int);omega,by show ((d.1:Nat):Int)<=255;omega⟩,fG.mpr ⟨by show (0:Int)<=((d.2:Nat):Int);omega,by show ((d.2:Nat):Int)<=255;omega⟩,by omega⟩
 refine fun r dr hr hdr hne=>⟨r,dr,cl2,_,_,rfl,aB,hC.keep (fun x u _ e=>by rw[aK (aQ e hr),aK (aQ e hdr)];exact e),by omega,fun _ H5 o hR hin hk=>⟨rfl,?_⟩,fun no=>absurd ⟨⟨by omega,by omega⟩,okm⟩ no⟩
 obtain⟨no,g5⟩:=a5L hr hdr hin hk
 have g15:=g14.trans g5
 have j5:J95 Zk CA 965 (fun x=>if x=965 then none else H4 x) H5 r (R0 (ms.map fun c=>(((c.1:Nat):Int),((c.2:Nat):Int))) ((v:Nat):Int)) o:=by
  refine⟨hR,?_,fun x u e=>?_⟩
  ·obtain⟨ps,h1,h2,h3⟩:=hT
   have nx:∀x u,H x=some u->¬ o x:=fun x u e z=>by have y:=g14 _ _ e;rw[no x z]at y;cases y
   exact⟨nx _ _ h1,ps,g15 _ _ h1,h2,h3.imp id fun ⟨c',a',b'⟩=>⟨c',a',g15 _ _ b',nx _ _ b'⟩⟩
  ·by_cases z:x=965
   ·rw[if_pos z]at e;cases e
   ·rw[if_neg z]at e
    exact⟨g5 _ _ e,fun y=>(by rw[no x y]at e;cases e),z⟩
 have tP:∀{x u},H4 x=some u->(∀ps,u≠HO.tbl ps)->x≠965:=fun {x u} e n z=>by
  obtain⟨ps,h1,_⟩:=hT
  rw[z,g14 _ _ h1]at e
  cases e
  exact n _ rfl
 have f4:∀{x u},H4 x=some u->(∀ps,u≠HO.tbl ps)->(fun x=>if x=965 then none else H4 x) x=some u:=fun {x u} e n=>by dsimp only;rw[if_neg (tP e n)];exact e
 have gS:∀x u,H x=some u->x≠965->(fun x=>if x=965 then none else H4 x) x=some u:=fun x u e n=>by dsimp only;rw[if_neg n];exact g14 _ _ e
 have efl4:=f4 (g4 _ _ (g3 _ _ (g2 _ _ efl))) (fun ps=>by simp)
 have ecl4:=f4 (g4 _ _ ecl) (fun ps=>by simp)
 have hts4:∀(i:Nat)(t:Addr)(f:Nat×Nat×List Int×Nat),ts[i]? =some t->fs[i]? =some f->∃d,(fun x=>if x=965 then none else H4 x) t=some (.tup [.int ((f.1:Nat):Int),.int ((f.2.1:Nat):Int),.ref d,.int ((f.2.2.2:Nat):Int)])/\(fun x=>if x=965 then none else H4 x) d=some (.lst (f.2.2.1.map V.int)):=fun i t f h1 h2=>by
  obtain⟨d,a1,a2⟩:=hts i t f h1 h2
  exact⟨d,f4 (g4 _ _ (g3 _ _ (g2 _ _ a1))) (fun ps=>by simp),f4 (g4 _ _ (g3 _ _ (g2 _ _ a2))) (fun ps=>by simp)⟩
 have hct4:∀(i:Nat)(t:Addr)(c:Nat×Nat),cts[i]? =some t->ms[i]? =some c->(fun x=>if x=965 then none else H4 x) t=some (.tup [.int ((c.1:Nat):Int),.int ((c.2:Nat):Int)]):=fun i t c h1 h2=>f4 (g4 _ _ (g3 _ _ (hcts i t c h1 h2))) (fun ps=>by simp)
 generalize (fun x=>if x=965 then none else H4 x)=F0 at j5 gS efl4 ecl4 hts4 hct4
 have i5:=I95.start ms v lm
 have w5:W95 fs 0 (R0 (ms.map fun c=>(((c.1:Nat):Int),((c.2:Nat):Int))) ((v:Nat):Int)):=⟨fun S hS=>by
  obtain⟨c,_,rfl⟩:=Y1.mp (show S∈List.map _ (List.map _ ms) from hS)
  exact Yd _,Yd _,fun n u e=>by cases e⟩
 generalize R0 (ms.map fun c=>(((c.1:Nat):Int),((c.2:Nat):Int))) ((v:Nat):Int)=R5 at j5 i5 w5
 clear f4 tP okm hC hin hk no hne hr hdr hR ecl ecl2 efl hts hcts g4 g3 g2 hcl hcl2 hfl
 have sq:∀{F H':Hp}{R:RS}{o:Own},Same F0 F->J95 Zk CA 965 F H' r R o->SqL K H' a (ns.map V.int):=fun gF j=>SqL.keepT hS hT fun x u e n=>(j.kp x u (gF _ _ (gS x u e n))).1
 refine⟨aL rfl,fun l6 hl6=>?_⟩
 have g6:=aJ hl6 (.lst [.int 0,.int 150,.int 40,.int 5])
 have e6:=aB (H:=H5) (a:=l6) (o:= .lst [.int 0,.int 150,.int 40,.int 5])
 have j6:=j5.same g6
 generalize upd H5 l6 _=H6 at g6 e6 j6
 refine⟨a,ns,4,4,rfl,sq (Same.refl _) j6,h63,by decide,by decide,by decide,fun u u0 u1=>?_⟩
 obtain⟨sh,hat,hsh⟩:∃v:Nat,atI [V.int 0,.int 150,.int 40,.int 5] u=some (.int ((v:Nat):Int))/\v<=150:=by
  have:u=0\/u=1\/u=2\/u=3:=by omega
  rcases this with rfl | rfl | rfl | rfl
  ·exact⟨0,rfl,by decide⟩
  ·exact⟨150,rfl,by decide⟩
  ·exact⟨40,rfl,by decide⟩
  ·exact⟨5,rfl,by decide⟩
 refine⟨_,_,SqL.of e6,hat,?_⟩
 refine⟨aL rfl,fun bl hbl=>?_⟩
 obtain⟨j7,mb7⟩:=j6.new (vs:=[]) hbl
 generalize upd H6 bl _=H7 at j7 mb7
 refine⟨aL rfl,fun wl hwl=>?_⟩
 obtain⟨j8,mw8⟩:=j7.new (vs:=[]) hwl
 have mb8:=mb7.same (aJ hwl (.lst []))
 have nbw:bl≠wl:=fun z=>by rw[<-z,mb7.at_]at hwl;cases hwl
 generalize upd H7 wl _=H8 at j8 mw8 mb8
 clear j7 mb7 hbl hwl g6 e6 hl6 hat u0 u1 j5 j6
 refine⟨a,ns,5,80,rfl,sq (Same.refl _) j8,h63,by decide,by decide,by decide,fun tn t0 t1=>?_⟩
 obtain⟨tn,rfl⟩:=YK t0
 refine⟨⟨by omega,by omega⟩,?_⟩
 rw[show ((60:Int)+((tn:Nat):Int)).toNat=60+tn by omega]
 have bo5:R5.bo= []:=XA i5.bo
 refine gB (lo:=0) (n:=60+tn) (fun t σ H'=>(∃x y z,σ= [some (.ref a),some (.int ((m:Nat):Int)),some (.int ((v:Nat):Int)),some (.ref fl),some (.ref cl),some (.ref r),some (.int ((sh:Nat):Int)),some (.ref bl),some (.ref wl),x,y,z])/\∃(F:Hp)(R:RS)(o:Own)(ws:List (List Int))(was:List Addr),Same F0 F/\J95 Zk CA 965 F H' r R o/\Mu 965 F H' o bl (R.bo.map V.int)/\Mu 965 F H' o wl (was.map V.ref)/\was.length=t/\(∀(k:Nat)(b:Addr)(x:List Int),was[k]? =some b->ws[k]? =some x->F b=some (.lst (x.map V.int)))/\I95 ms m v t ws R/\W95 fs (4*t) R) ⟨⟨_,_,_,rfl⟩,F0,R5,o, [], [],Same.refl _,j8,by rw[bo5];exact mb8,mw8,rfl,fun k b x h=>by simp at h,i5,w5⟩ ?_ ?_
 ·rintro t σ H9 ht ⟨⟨x,y,z,rfl⟩,F,R,o,ws,was,gF,j,mb,mw,lwa,hwa,hI,hW⟩
  rw[Xn]
  refine⟨⟨_,SqL.of (j.sm _ _ (gF _ _ efl4))⟩,gP (xs:=ts.map V.ref) (fun i σ H'=>(∃y,σ= [some (.ref a),some (.int ((m:Nat):Int)),some (.int ((v:Nat):Int)),some (.ref fl),some (.ref cl),some (.ref r),some (.int ((sh:Nat):Int)),some (.ref bl),some (.ref wl),some (.int ((t:Nat):Int)),y,z])/\∃(R1:RS)(o:Own),R1.bo=R.bo/\J95 Zk CA 965 F H' r R1 o/\Mu 965 F H' o bl (R.bo.map V.int)/\Mu 965 F H' o wl (was.map V.ref)/\I95 ms m v t ws R1/\W95 fs (4*t+i) R1) ⟨⟨_,rfl⟩,R,o,rfl,j,mb,mw,hI,hW⟩ ?_ ?_ ?_⟩
  ·rintro i σ H' hi ⟨_,R1,o1,_,j1,_⟩
   exact SqL.of (j1.sm _ _ (gF _ _ efl4))
  ·rintro i x σ H' hx ⟨⟨y,rfl⟩,R1,o1,eb1,j1,mb1,mw1,hI1,hW1⟩
   rw[Yi]at hx
   obtain⟨tt,htt,rfl⟩:=YO.mp hx
   have hil:i<fs.length:=by rw[<-lt];exact(Ye.mp htt).1
   obtain⟨f,ef⟩:∃f,fs[i]? =some f:=⟨_,Yb hil⟩
   have fm:=Yp ef
   obtain⟨d,k1,k2⟩:=hts4 i tt f htt ef
   have k1':=j1.sm _ _ (gF _ _ k1)
   have k2':=j1.sm _ _ (gF _ _ k2)
   obtain⟨fp,fo⟩:=hok f fm
   refine⟨fun σ' H'=>(∃y,σ'= [some (.ref a),some (.int ((m:Nat):Int)),some (.int ((v:Nat):Int)),some (.ref fl),some (.ref cl),some (.ref r),some (.int ((sh:Nat):Int)),some (.ref bl),some (.ref wl),some (.int ((t:Nat):Int)),y,z])/\∃(R1:RS)(o:Own),R1.bo=R.bo/\J95 Zk CA 965 F H' r R1 o/\Mu 965 F H' o bl (R.bo.map V.int)/\Mu 965 F H' o wl (was.map V.ref)/\I95 ms m v t ws R1/\W95 fs (4*t+(i+1)) R1,?_,fun σ' H' z=>z⟩
   refine⟨_,_,SqT.of k1',rfl,bN (fun c=>?_) (fun c=>?_)⟩
   ·obtain⟨w,hR⟩:=j1.rl
    refine⟨⟨w.dx,_,hR.er,rfl⟩,_,_,SqT.of k1',rfl,_,_,SqT.of k1',rfl,_,.ref d,SqT.of k1',rfl,_,.inl (SqL.of k2'),fun l hl=>?_⟩
    have g1:=aJ hl (.lst (f.2.2.1.map V.int))
    have el:=aB (H:=H') (a:=l) (o:= .lst (f.2.2.1.map V.int))
    have j2:=j1.same g1
    have mb2:=mb1.same g1
    have mw2:=mw1.same g1
    generalize upd H' l _=H2 at g1 el j2 mb2 mw2
    obtain⟨w2,hR2⟩:=j2.rl
    have l7:f.2.2.1.length<=7:=fo.2.1
    refine⟨r,R1,o1,w2,_,_,l,f.2.2.1,rfl,hR2,SqL.of el,by omega,by have:=hW1.ol;omega,fun S hS=>by have:=hW1.wt S hS;omega,fun no=>absurd ⟨by omega,by rw[hI1.ln];omega⟩ no,fun _ no=>absurd fo.ok no,fun i' S ei eS _=>?_⟩
    have ei':i'=f.1:=by omega
    subst ei'
    refine⟨((f.1:Nat):Int),?_,fun no=>absurd rfl no,fun _ H3 o3 hR3 m3=>⟨⟨_,rfl⟩,{ R1 with ps:=R1.ps.set f.1 { S with wt:=S.wt++[(((f.2.1:Nat):Int).toNat,f.2.2.1)] },ow:=putK R1.ow (.inl ((f.2.1:Nat):Int)) (.int ((f.1:Nat):Int)) },o3,eb1,j2.mv hR3 m3,mb2.mv m3,mw2.mv m3,hI1.hand eS,hW1.hand fm eS⟩⟩
    cases e:iG R1.ow (.inl ((f.2.1:Nat):Int)) with
    |none=>rfl
    | some u=>
     obtain⟨g,hg,e1,e2⟩:=hW1.ow f.2.1 u e
     rw[e2,hcons g hg f fm e1]
     rfl
   ·exact⟨⟨_,rfl⟩,R1,o1,eb1,j1,mb1,mw1,hI1,⟨fun S hS=>by have:=hW1.wt S hS;omega,by have:=hW1.ol;omega,hW1.ow⟩⟩
  rintro σ H' ⟨⟨y,rfl⟩,R1,o1,eb1,j1,mb1,mw1,hI1,hW1⟩
  rw[Ya]at hW1
  refine⟨⟨_,SqL.of mw1.at_⟩,⟨by omega,by omega⟩,?_⟩
  rw[YI]
  refine gC (lo:=0) (n:=m) (fun i ys H2=>H2=H'/\∃xs:List Int,ys=xs.map V.int/\xs.length<=i/\∀x∈xs,0<=x/\x<((m:Nat):Int)) ?_ ?_ ?_ ?_
  ·rintro i ys H2 hi ⟨_,xs,rfl,hl,_⟩
   rw[Ya]
   exact bW (by omega)
  ·exact⟨rfl, [],rfl,Yd _,fun x hx=>by cases hx⟩
  ·rintro i ys H2 hi ⟨rfl,xs,rfl,hl,hx⟩
   conv=>whnf
   refine⟨⟨by decide,gQ (by omega) (by omega)⟩,a,ns,_,_,rfl,sq gF j1,h63,(by show 0<=200+3*((t:Nat):Int)+(0+((i:Nat):Int));omega),(by show 200+3*((t:Nat):Int)+(0+((i:Nat):Int))<=100000;omega),(by show 0<((sh:Nat):Int)+1;omega),fun u u0 u1=>?_⟩
   conv=>whnf
   refine bN (fun c=>?_) (fun c=>?_)
   ·refine⟨rfl,xs++[0+((i:Nat):Int)],by rw[Yn];rfl,by rw[Yc];exact Nat.succ_le_succ hl,fun x hx'=>?_⟩
    rcases YA.mp hx' with q | q
    ·exact hx x q
    ·rw[Yj.mp q];omega
   ·exact⟨rfl,xs,rfl,by omega,hx⟩
  rintro ys H2 ⟨rfl,wx,rfl,lwx,hwx⟩ nl hnl
  have g2:=aJ hnl (.lst (wx.map V.int))
  have enl:=aB (H:=H2) (a:=nl) (o:= .lst (wx.map V.int))
  obtain⟨F2,j3,gF2,nF2,nF3⟩:=j1.grow g2
  have mb3:=mb1.gr g2 nF3
  have mw3:=mw1.gr g2 nF3
  have enl3:=nF2 _ _ hnl enl
  generalize upd H2 nl _=H3 at g2 enl j3 mb3 mw3 nF2
  have j4:=j3.put (vs':=was.map V.ref++[.ref nl]) mw3
  have mb4:=mb3.other (v:= .lst (was.map V.ref++[.ref nl])) nbw
  have mw4:=mw3.put (vs':=was.map V.ref++[.ref nl])
  refine⟨_,mw3.at_,bW (by rw[Ya];omega),?_⟩
  generalize upd H3 wl _=H4 at j4 mb4 mw4
  rw[show was.map V.ref++[V.ref nl]=(was++[nl]).map V.ref by rw[Yn];rfl]at mw4
  clear j3 mb3 mw3 nF2 nF3 g2 enl hnl
  obtain⟨w4,hR4⟩:=j4.rl
  have atn:atI ((was++[nl]).map V.ref) ((t:Nat):Int)=some (.ref nl):=cX (by rw[Yi,Yv (by omega),lwa,XO];rfl)
  refine⟨⟨_,SqL.of mb4.at_⟩,⟨w4.dx,_,hR4.er,rfl⟩,_,.ref nl,SqL.of mw4.at_,atn,_,.inl (SqL.of (j4.sm _ _ enl3)),fun l5 hl5=>?_⟩
  have g5:=aJ hl5 (.lst (wx.map V.int))
  have e5:=aB (H:=H4) (a:=l5) (o:= .lst (wx.map V.int))
  have j5:=j4.same g5
  have mb5:=mb4.same g5
  have mw5:=mw4.same g5
  generalize upd H4 l5 _=H5 at g5 e5 j5 mb5 mw5
  obtain⟨w5',hR5⟩:=j5.rl
  have ne1:R1.ps≠ []:=fun z=>by have:=hI1.ln;rw[z]at this;have:0=m:=this;omega
  have hall:∀x∈wx,0<=x/\x<((R1.ps.length:Nat):Int):=by rw[hI1.ln];exact hwx
  refine⟨r,R1,o1,w5',l5,wx,fun _=>False,rfl,e5,by omega,hR5,ne1,hI1.szR (by omega),j5.tb.own (fun x hx=>hx.elim id False.elim),fun x hx=>hx.elim,fun _ b H6 o6 hb hR6 hT6 m6=>?_,fun no=>absurd hall no⟩
  have j6:=j5.turn hR6 (hT6.own fun x hx=> .inl hx) m6
  have mb6:=mb5.turn j5 m6
  have mw6:=mw5.turn j5 m6
  have b01:b=0\/b=1:=hR5.says hb.1
  have hI6:=hI1.turn (b1D ⟨_,hR5⟩) v1 (by omega) hb b01 wx
  have hW6:=hW1.turn (hs:=wrL wx R1.ps.length b) (b:=b)
  have eb6:(lQ R1 (wrL wx R1.ps.length b) b).bo=R.bo++[b]:=by show R1.bo++[b]=_;rw[eb1]
  generalize lQ R1 (wrL wx R1.ps.length b) b=R6 at j6 hI6 hW6 eb6
  have j7:=j6.put (vs':=R.bo.map V.int++[.int b]) mb6
  have mw7:=mw6.other (v:= .lst (R.bo.map V.int++[.int b])) (Ne.symm nbw)
  have mb7:=mb6.put (vs':=R.bo.map V.int++[.int b])
  have lb:R.bo.length=t:=hI.bo
  refine⟨_,mb6.at_,bW (by rw[Ya];omega),⟨_,_,_,rfl⟩,F2,R6,o6,ws++[wx],was++[nl],gF.trans gF2,j7,?_,mw7,by rw[Yc,lwa];rfl,fun k b' x h1 h2=>?_,hI6,⟨fun S hS=>by have:=hW6.wt S hS;omega,by have:=hW6.ol;omega,hW6.ow⟩⟩
  ·rw[eb6,Yn]
   exact mb7
  ·by_cases c:k<t
   ·rw[Yx (by omega)]at h1
    rw[Yx (by rw[hI.lw];exact c)]at h2
    exact gF2 _ _ (hwa k b' x h1 h2)
   ·rw[Yv (by omega),lwa]at h1
    rw[Yv (by rw[hI.lw];omega),hI.lw]at h2
    cases ej:k-t with
    |zero=>rw[ej]at h1 h2;cases h1;cases h2;exact enl3
    |succ k=>rw[ej]at h1;cases h1
 rintro σ H9 ⟨⟨x,y,z,rfl⟩,F,R,o,ws,was,gF,j,mb,mw,lwa,hwa,hI,hW⟩
 obtain⟨w,hR⟩:=j.rl
 refine⟨⟨w.dx,_,hR.er,rfl⟩,r,R,o,w,rfl,hR,fun l1 hl1=>?_⟩
 have k1:=aJ hl1 (.lst (R.bo.map V.int))
 have el1:=aB (H:=H9) (a:=l1) (o:= .lst (R.bo.map V.int))
 have mb1:=mb.same k1
 have mw1:=mw.same k1
 have j1:=j.same k1
 generalize upd H9 l1 _=H10 at k1 el1 mb1 mw1 j1
 refine⟨_,_,SqL.of el1,SqL.of mb1.at_,jW rfl ?_⟩
 refine⟨r,R,o,w,ms,m,v,60+tn,ws,bl,wl,was,rfl,hR.same k1,hI,by omega,m1,by omega,mb1.at_,mw1.at_,lwa,fun k b x h1 h2=>j1.sm _ _ (hwa k b x h1 h2),fun H11 k2=>?_⟩
 conv=>whnf
 have j2:=j1.same k2
 refine⟨⟨by omega,by omega⟩,?_⟩
 rw[YI]
 refine gB (lo:=0) (n:=m) (fun i σ H'=>(∃x y z,σ= [some (.ref a),some (.int ((m:Nat):Int)),some (.int ((v:Nat):Int)),some (.ref fl),some (.ref cl),some (.ref r),some (.int ((sh:Nat):Int)),some (.ref bl),some (.ref wl),x,y,z])/\Same H11 H') ⟨⟨_,_,_,rfl⟩,Same.refl _⟩ ?_ ?_
 ·rintro i σ H12 hi ⟨⟨x,y,z,rfl⟩,k3⟩
  rw[Xn]
  have j3:=j2.same k3
  obtain⟨ct,hct⟩:∃t,cts[i]? =some t:=⟨_,Yb (by omega)⟩
  obtain⟨c,hc⟩:∃t,ms[i]? =some t:=⟨_,Yb (by omega)⟩
  have ect:=hct4 i ct c hct hc
  have atc:atI (cts.map V.ref) ((i:Nat):Int)=some (.ref ct):=cX (by rw[Yi,hct];rfl)
  have hR3:=(hR.same k1).same (k2.trans k3)
  refine⟨_,.ref ct,SqL.of (j3.sm _ _ (gF _ _ ecl4)),atc,aL rfl,fun t0 ht0=>?_⟩
  have k4:=aJ ht0 (.tup [.int 0,.int 0])
  have et0:=aB (H:=H12) (a:=t0) (o:= .tup [.int 0,.int 0])
  have j4:=j3.same k4
  generalize upd H12 t0 _=H13 at k4 et0 j4
  have hR4:=hR3.same k4
  refine⟨prD (((c.1:Nat):Int),((c.2:Nat):Int)),prD (0,0),.tup (SqT.of (j4.sm _ _ (gF _ _ ect))) (.cons (.int _) (.cons (.int _) .nil)),.tup (SqT.of et0) (.cons (.int _) (.cons (.int _) .nil)),pW _,pW _,?_⟩
  rw[a8I]
  have fin:∀H14,Same H13 H14->cB Zk CA H14 r R o w/\J95 Zk CA 965 F H14 r R o/\Same H11 H14:=fun H14 k=>⟨hR4.same k,j4.same k,(k3.trans k4).trans k⟩
  refine bN (fun e=>?_) (fun e=>?_)
  ·have e1:=Prod.mk.inj (dec_true e)
   have c00:ms[i]? =some (0,0):=by
    rw[hc]
    obtain⟨c1,c2⟩:=c
    have x1:c1=0:=by have:((c1:Nat):Int)=0:=e1.1;omega
    have x2:c2=0:=by have:((c2:Nat):Int)=0:=e1.2;omega
    rw[x1,x2]
   refine⟨r,R,o,w,ms,m,v,60+tn,i,ws,rfl,hR4,hI,by omega,hi,v1,v5,c00,fun H14 k5=>?_⟩
   obtain⟨hR5,j5,k6⟩:=fin H14 k5
   conv=>whnf
   refine⟨_,.ref ct,SqL.of (j5.sm _ _ (gF _ _ ecl4)),atc,r,R,o,w,ms,m,v,60+tn,i,ws,ct,c,rfl,hR5,hI,by omega,hi,hc,j5.sm _ _ (gF _ _ ect),fun H15 k7=>?_⟩
   exact⟨⟨_,_,_,rfl⟩,k6.trans k7⟩
  ·obtain⟨hR5,j5,k6⟩:=fin H13 (Same.refl _)
   refine⟨_,.ref ct,SqL.of (j5.sm _ _ (gF _ _ ecl4)),atc,r,R,o,w,ms,m,v,60+tn,i,ws,ct,c,rfl,hR5,hI,by omega,hi,hc,j5.sm _ _ (gF _ _ ect),fun H15 k7=>?_⟩
   exact⟨⟨_,_,_,rfl⟩,k6.trans k7⟩
 rintro σ H12 ⟨⟨x,y,z,rfl⟩,k3⟩
 exact q _
set_option maxHeartbeats 0 in
include Zb7 ZaB ZdA ZI Zk7 Zby ZdB Zd4 Zq Zes Ze3 Ze4 ZaW Zdk Zbz Zct ZcR Zdl Zeu ZfE ZbO ZdW Zhw Zk8 ZcQ Ze2 Zb0 Zc5 Zz ZiT ZdG ZdV ZcC ZbA Zd3 Zc4 Zd2 ZfF Ze1 Ze5 Zae Zet Zj0 ZeN ZS Zk9 Z3 Zu Zlb Zhx Ze6 Zhy Zev ZiU Zla Zdz Zg Zf Zh Zbm Ze Zal Zd Zdy ZL Zi ZE Zr Zt ZU ZZ Za ZaY Zas ZdU ZaT Zax Zbl ZaK Zbk ZcP Zcv Zb6 Zb Zep Zeq ZT ZC ZaQ Zbf Za3 ZaX ZaR ZaC Zai ZW ZO Za6 ZbK Zer Zam ZbH Za7 Zbe Za2 ZaV Zaz ZaP Zbp Zbq ZbS ZaO Zbo Za1 ZaU ZbL ZbT ZbI Zbc Zbr ZbV Zcq Zb8 ZbM ZbU ZbJ Zbd Zbs ZbW Zcr Zl Zb9 Zcb Zca Za8 Zcs Zan ZaD Zav Zce Zcd Zcf Zcc ZfG Zak Zv Zy Zp ZG Zo Z6 ZH ZR ZB Z4 ZaE ZA Zaw Zad ZM Z5 Zau Zj Zn ZaA ZJ Z7 Zab ZF Zaj ZN ZX ZQ ZP Zdd Zdx Zaa Z0 Zde ZfH in
theorem all_mk {l:W.OpenLaw}{fa:Addr}(hfa:mg "law"=some (.ref fa))
 (Zib:GF K mg "bits_of" ZkJ Zih)
 (ZgM:GF K mg "number_of" ZjE ZgT)
 (ZgK:GF K mg "are_bytes" ZjC ZgR)
 (Zic:GF K mg "divided" ZkK Zii)
 (Zie:GF K mg "rest_of" ZkM Zik)
 (Zhr:GF K mg "check_of" Zkh Zhu)
 (Zid:GF K mg "is_name" ZkL Zij)
 (ZjH:GF K mg "put_in" ZlC ZjK)
 (Zfq:GF K mg "check_frame" Zh6 Zfv)
 (ZfU:GF K mg "frame_bits" ZiP Zf0)
 (Zif:GF K mg "wire_of" ZkN Zil)
 (ZgN:GF K mg "told_size" ZjF ZgU)
 (Zfs:GF K mg "is_complete" Zh8 Zfx)
 (ZfV:GF K mg "read_frame" ZiQ Zf1)
 (ZeI:GF K mg "begun_reader" Zhk ZeL)
 (ZgL:GF K mg "is_wanted" ZjD ZgS)
 (ZjG:GF K mg "copies" ZlB ZjJ)
 (ZfX:GF K mg "unless_off" ZiS Zf3)
 (Zhs:GF K mg "fault_of" Zki Zhv)
 (ZfW:GF K mg "refusal_of" ZiR Zf2)
 (Zhq:GF K mg "blame_of" Zkg Zht)
 (Zfr:GF K mg "check_votes" Zh7 Zfw)
 (ZeJ:GF K mg "check_choice" Zhl ZeM)
 (ZgH:GF K mg "_law_draw" Zjz ZgO)
 (ZgJ:GF K mg "_law_wire" ZjB ZgQ)
 (Zfp:GF K mg "_law_frames" Zh5 Zfu)
 (Zfo:GF K mg "_law_choice" Zh4 Zft)
 (Zdg:GF K mg "_law_heard_whole" Zfa Zdj)
 (ZgI:GF K mg "_law_some" ZjA ZgP)
 (ZfT:GF K mg "_law_borne" ZiO ZfZ)
 (ZjS:GF K mg "law" Zma ZlX)
 (Zfn:MF K CA.streak "__init__" "Streak.__init__" Zh3 ZdT)
 (ZdC:MF K CA.streak "lengthen" "Streak.lengthen" Zfz Zcu)
 (Zd1:MF K CA.streak "is_full" "Streak.is_full" Zgd ZcO)
 (ZcJ:MF K CA.streak "is_too_long" "Streak.is_too_long" Zey ZbR)
 (Zfj:MF K CA.reader "__init__" "Reader.__init__" ZhZ ZdP)
 (Zea:MF K CA.reader "judged" "Reader.judged" Zgq Zdc)
 (Zfi:MF K CA.reader "hear" "Reader.hear" ZhY ZdO)
 (ZeE:MF K CA.reader "plain" "Reader.plain" Zhg Zdt)
 (ZeD:MF K CA.reader "frame" "Reader.frame" Zhf Zds)
 (ZgF:MF K ZdD "__init__" "Tail.__init__" Zjx Ze0)
 (ZgG:MF K ZdD "says" "Tail.says" Zjy ZdF)
 (ZfS:MF K ZdD "place" "Tail.place" ZiN ZfY)
 (Zeb:MF K ZdD "is_fault" "Tail.is_fault" Zgr Zcp)
 (Zdf:MF K ZdD "judged_vote" "Tail.judged_vote" Ze9 Zbx)
 (ZgE:MF K ZdD "hear" "Tail.hear" Zjw ZdE)
 (Zd9:MF K CA.rtail "__init__" "ReadTail.__init__" Zgp Zdb)
 (Zd0:MF K CA.stail "__init__" "SpeakTail.__init__" Zgc ZcN)
 (ZfJ:MF K CA.count "__init__" "Count.__init__" ZiE Zed)
 (ZdX:MF K CA.count "is_quiet" "Count.is_quiet" Zf9 ZcK)
 (Zez:MF K CA.count "is_off" "Count.is_off" Zhb Zdp)
 (ZeA:MF K CA.count "number" "Count.number" Zhc ZeK)
 (ZfK:MF K CA.count "move" "Count.move" ZiF Zee)
 (Zfc:MF K CA.count "fault" "Count.fault" ZhS ZdI)
 (Zfb:MF K CA.count "blame" "Count.blame" ZhR ZdH)
 (ZfI:MF K CA.count "good" "Count.good" ZiD Zec)
 (Zgs:MF K CA.free "__init__" "Free.__init__" Zjl ZeO)
 (Zfk:MF K CA.speaks "__init__" "Speaks.__init__" Zh0 ZdQ)
 (ZfM:MF K CA.reads "__init__" "Reads.__init__" ZiH Zeg)
 (Zfd:MF K CA.intail "__init__" "InTail.__init__" ZhT ZdJ)
 (Zd5:MF K CA.flag "__init__" "Flagging.__init__" Zgl Zc7)
 (ZeF:MF K CA.settles "__init__" "Settles.__init__" Zhh Zdu)
 (ZfP:MF K CA.rests "__init__" "Rests.__init__" ZiK Zej)
 (Zd8:MF K CA.post "is_quiet" "Post.is_quiet" Zgo Zda)
 (Zfg:MF K CA.post "is_off" "Post.is_off" ZhW ZdM)
 (ZdY:MF K CA.post "has_frame" "Post.has_frame" Zga ZcL)
 (ZcI:MF K CA.post "foremost_wire" "Post.foremost_wire" Zex ZbQ)
 (ZcH:MF K CA.post "drop_foremost" "Post.drop_foremost" Zew ZbP)
 (ZeB:MF K CA.post "hand_up" "Post.hand_up" Zhd Zdq)
 (Zgv:MF K CA.post "hand" "Post.hand" Zjo ZeR)
 (Zho:MF K CA.post "got" "Post.got" Zke ZfC)
 (Zgx:MF K CA.post "__init__" "Post.__init__" Zjq ZeT)
 (Zgt:MF K CA.free "says" "Free.says" Zjm ZeP)
 (Zfl:MF K CA.speaks "says" "Speaks.says" Zh1 ZdR)
 (ZfN:MF K CA.reads "says" "Reads.says" ZiI Zeh)
 (Zfe:MF K CA.intail "says" "InTail.says" ZhU ZdK)
 (Zd6:MF K CA.flag "says" "Flagging.says" Zgm Zc8)
 (ZeG:MF K CA.settles "says" "Settles.says" Zhi Zdv)
 (ZfQ:MF K CA.rests "says" "Rests.says" ZiL Zek)
 (Zhm:MF K CA.off "says" "Off.says" Zkc ZfA)
 (Zhn:MF K CA.off "step" "Off.step" Zkd ZfB)
 (Zd7:MF K CA.flag "step" "Flagging.step" Zgn Zc9)
 (ZeH:MF K CA.settles "step" "Settles.step" Zhj Zdw)
 (ZfR:MF K CA.rests "step" "Rests.step" ZiM Zel)
 (Zgu:MF K CA.free "step" "Free.step" Zjn ZeQ)
 (ZfO:MF K CA.reads "step" "Reads.step" ZiJ Zei)
 (Zfm:MF K CA.speaks "step" "Speaks.step" Zh2 ZdS)
 (Zff:MF K CA.intail "step" "InTail.step" ZhV ZdL)
 (Zgy:MF K CA.post "says" "Post.says" Zjr ZeU)
 (Zgw:MF K CA.post "hear" "Post.hear" Zjp ZeS)
 (ZeC:MF K Zk "post_at" "Rail.post_at" Zhe Zdr)
 (ZgB:MF K Zk "__init__" "Rail.__init__" Zju ZeX)
 (ZgA:MF K Zk "hand" "Rail.hand" Zjt ZeW)
 (ZdZ:MF K Zk "make_turn" "Rail.make_turn" Zgb ZcM)
 (ZgD:MFc K Zk "turn" "Rail.turn" Zc6 ZeZ 969)
 (Zfh:MF K Zk "events" "Rail.events" ZhX ZdN)
 (Zhp:MF K Zk "got" "Rail.got" Zkf ZfD)
 (ZgC:MF K Zk "said" "Rail.said" Zjv ZeY)
 (ZfL:MF K Zk "heard" "Rail.heard" ZiG Zef)
 (Zgz:MF K Zk "bits" "Rail.bits" Zjs ZeV)
 :∃fd:FuncData,(∀(s:Shared)(v:Value),BindsTo s fd ⟨[v], []⟩ [("_law_script",v)])/\∀base:Heap,K.In base->base.Ns mainGlobals mg->fM l.prog w K mg base CX0 15 fa fd ["_law_script"] (oW K):=by
 obtain⟨_,Zib⟩:=Zib
 obtain⟨_,ZgM⟩:=ZgM
 obtain⟨_,ZgK⟩:=ZgK
 obtain⟨_,Zic⟩:=Zic
 obtain⟨_,Zie⟩:=Zie
 obtain⟨_,Zhr⟩:=Zhr
 obtain⟨_,Zid⟩:=Zid
 obtain⟨_,ZjH⟩:=ZjH
 obtain⟨_,Zfq⟩:=Zfq
 obtain⟨_,ZfU⟩:=ZfU
 obtain⟨_,Zif⟩:=Zif
 obtain⟨_,ZgN⟩:=ZgN
 obtain⟨_,Zfs⟩:=Zfs
 obtain⟨_,ZfV⟩:=ZfV
 obtain⟨_,ZeI⟩:=ZeI
 obtain⟨_,ZgL⟩:=ZgL
 obtain⟨_,ZjG⟩:=ZjG
 obtain⟨_,ZfX⟩:=ZfX
 obtain⟨_,Zhs⟩:=Zhs
 obtain⟨_,ZfW⟩:=ZfW
 obtain⟨_,Zhq⟩:=Zhq
 obtain⟨_,Zfr⟩:=Zfr
 obtain⟨_,ZeJ⟩:=ZeJ
 obtain⟨_,ZgH⟩:=ZgH
 obtain⟨_,ZgJ⟩:=ZgJ
 obtain⟨_,Zfp⟩:=Zfp
 obtain⟨_,Zfo⟩:=Zfo
 obtain⟨_,Zdg⟩:=Zdg
 obtain⟨_,ZgI⟩:=ZgI
 obtain⟨_,ZfT⟩:=ZfT
 obtain⟨d0,ZjS⟩:=ZjS
 obtain⟨_,_,Zfn⟩:=Zfn
 obtain⟨_,_,ZdC⟩:=ZdC
 obtain⟨_,_,Zd1⟩:=Zd1
 obtain⟨_,_,ZcJ⟩:=ZcJ
 obtain⟨_,_,Zfj⟩:=Zfj
 obtain⟨_,_,Zea⟩:=Zea
 obtain⟨_,_,Zfi⟩:=Zfi
 obtain⟨_,_,ZeE⟩:=ZeE
 obtain⟨_,_,ZeD⟩:=ZeD
 obtain⟨_,_,ZgF⟩:=ZgF
 obtain⟨_,_,ZgG⟩:=ZgG
 obtain⟨_,_,ZfS⟩:=ZfS
 obtain⟨_,_,Zeb⟩:=Zeb
 obtain⟨_,_,Zdf⟩:=Zdf
 obtain⟨_,_,ZgE⟩:=ZgE
 obtain⟨_,_,Zd9⟩:=Zd9
 obtain⟨_,_,Zd0⟩:=Zd0
 obtain⟨_,_,ZfJ⟩:=ZfJ
 obtain⟨_,_,ZdX⟩:=ZdX
 obtain⟨_,_,Zez⟩:=Zez
 obtain⟨_,_,ZeA⟩:=ZeA
 obtain⟨_,_,ZfK⟩:=ZfK
 obtain⟨_,_,Zfc⟩:=Zfc
 obtain⟨_,_,Zfb⟩:=Zfb
 obtain⟨_,_,ZfI⟩:=ZfI
 obtain⟨_,_,Zgs⟩:=Zgs
 obtain⟨_,_,Zfk⟩:=Zfk
 obtain⟨_,_,ZfM⟩:=ZfM
 obtain⟨_,_,Zfd⟩:=Zfd
 obtain⟨_,_,Zd5⟩:=Zd5
 obtain⟨_,_,ZeF⟩:=ZeF
 obtain⟨_,_,ZfP⟩:=ZfP
 obtain⟨_,_,Zd8⟩:=Zd8
 obtain⟨_,_,Zfg⟩:=Zfg
 obtain⟨_,_,ZdY⟩:=ZdY
 obtain⟨_,_,ZcI⟩:=ZcI
 obtain⟨_,_,ZcH⟩:=ZcH
 obtain⟨_,_,ZeB⟩:=ZeB
 obtain⟨_,_,Zgv⟩:=Zgv
 obtain⟨_,_,Zho⟩:=Zho
 obtain⟨_,_,Zgx⟩:=Zgx
 obtain⟨_,_,Zgt⟩:=Zgt
 obtain⟨_,_,Zfl⟩:=Zfl
 obtain⟨_,_,ZfN⟩:=ZfN
 obtain⟨_,_,Zfe⟩:=Zfe
 obtain⟨_,_,Zd6⟩:=Zd6
 obtain⟨_,_,ZeG⟩:=ZeG
 obtain⟨_,_,ZfQ⟩:=ZfQ
 obtain⟨_,_,Zhm⟩:=Zhm
 obtain⟨_,_,Zhn⟩:=Zhn
 obtain⟨_,_,Zd7⟩:=Zd7
 obtain⟨_,_,ZeH⟩:=ZeH
 obtain⟨_,_,ZfR⟩:=ZfR
 obtain⟨_,_,Zgu⟩:=Zgu
 obtain⟨_,_,ZfO⟩:=ZfO
 obtain⟨_,_,Zfm⟩:=Zfm
 obtain⟨_,_,Zff⟩:=Zff
 obtain⟨_,_,Zgy⟩:=Zgy
 obtain⟨_,_,Zgw⟩:=Zgw
 obtain⟨_,_,ZeC⟩:=ZeC
 obtain⟨_,_,ZgB⟩:=ZgB
 obtain⟨_,_,ZgA⟩:=ZgA
 obtain⟨_,_,ZdZ⟩:=ZdZ
 obtain⟨_,_,ZgD,hc_Rail_turn⟩:=ZgD
 obtain⟨_,_,Zfh⟩:=Zfh
 obtain⟨_,_,Zhp⟩:=Zhp
 obtain⟨_,_,ZgC⟩:=ZgC
 obtain⟨_,_,ZfL⟩:=ZfL
 obtain⟨_,_,Zgz⟩:=Zgz
 cases hfa.symm.trans ZjS.m
 refine⟨d0,fun s v=>?_,fun base _ _=>?_⟩
 ·obtain⟨_,_,_,_,_,_,_,_,_,rfl,_⟩:=ZjS.F.ex
  exact .of_eq rfl
 have ZaJ:=Zkw l.prog w mg base (CA:=CA) Zh Zak Zv Zfn
 have ZV:=ZiC l.prog w mg base (CA:=CA) Zh Zak Zv ZdC
 have ZK:=ZiZ l.prog w mg base (CA:=CA) Zb7 Zh Zv Zd1
 have ZaN:=Zha l.prog w mg base (CA:=CA) Zb7 Zh Zv ZcJ
 have Z1:=ZlY l.prog w mg base ZaB ZS Zdd Zib
 have Zw:=Zlz l.prog w mg base  ZgM
 have Zaq:=Zlx l.prog w mg base ZdA Zk9 ZgK
 have ZcD:=ZlZ l.prog w mg base ZI Zdx Zic
 have Zac:=Zl1 l.prog w mg base ZI Zk7 Zw ZcD Zie
 have Zco:=ZlO l.prog w mg base ZaB ZI Zby Z3 Z1 Zac Zhr
 have ZcE:=Zl0 l.prog w mg base ZdB Zid
 have Zdi:=Zl6 l.prog w mg base (CA:=CA) Zd4 Zh Zbm ZT ZC ZaJ ZV ZK ZjH
 have Zx:=Zkz l.prog w mg base Zq Zes Zu Zaa Zaq ZcE Zfq
 have Zbu:=Zk0 l.prog w mg base ZaB ZI Zq Ze3 Ze4 ZaW Zu Z1 Zco Zx ZfU
 have ZcF:=Zl2 l.prog w mg base ZaB ZI Zq Zdi Zbu Zif
 have Zar:=ZlA l.prog w mg base Zdk Zbz Zw ZgN
 have Z9:=ZkB l.prog w mg base Zby ZaW Zbz Zu Zar Zfs
 have Zbv:=Zk1 l.prog w mg base ZI Zq ZaW Zdk Zbz ZS Zaa Zw Zac Zar Z9 ZfV
 have Zck:=Zks l.prog w mg base (CA:=CA) Zd4 Zbm Ze Zy Zp ZG ZaJ Zfj
 have ZbF:=ZjQ l.prog w mg base (CA:=CA) ZI Zh Ze ZC ZaQ Zy Zp ZK ZaN Zac Z9 Zea
 have Z8:=Zkr l.prog w mg base (CA:=CA) ZI Zh Ze ZT ZC Zbf Zy Zp ZG ZV ZK ZbF Zfi
 have Zb3:=Zj6 l.prog w mg base (CA:=CA) Z3 Ze Zp ZeE
 have Zb2:=Zj5 l.prog w mg base (CA:=CA) ZI Zq Ze Zp ZG Zbv ZeD
 have Za5:=Zls l.prog w mg base (CA:=CA) Zg Zf ZgF
 have Zc3:=Zlt l.prog w mg base (CA:=CA) Zct Zg Zf ZgG
 have Zig:=ZkY l.prog w mg base (CA:=CA) Zg Zf ZfS
 have ZbG:=ZjR l.prog w mg base (CA:=CA) Zct Zg Zf Zeb
 have ZaZ:=Zh9 l.prog w mg base (CA:=CA) ZcR Zg Zf Zdf
 have Zc2:=Zlr l.prog w mg base (CA:=CA) ZcR Zg Zf Za3 ZaX ZaR ZaC ZbG ZaZ ZgE
 have ZbE:=ZjP l.prog w mg base (CA:=CA) Zdl Zg Zf Zal Za5 Zd9
 have Zbj:=ZiY l.prog w mg base (CA:=CA) Zdl Zg Zf Zal Za5 Zd0
 have Zcx:=ZkP l.prog w mg base (CA:=CA) Zd Zo ZfJ
 have Zbg:=ZiV l.prog w mg base (CA:=CA) Zeu Zd Zo ZdX
 have Zay:=Zj1 l.prog w mg base (CA:=CA) ZfE Zd Zo Zez
 have ZgW:=Zj2 l.prog w mg base (CA:=CA) Zd Zo ZeA
 have Zag:=ZkQ l.prog w mg base (CA:=CA) Zlb Zd Zai Zo Zay ZfK
 have ZaF:=Zkl l.prog w mg base (CA:=CA) ZbO ZdW Zd ZW Zag Zfc
 have Zcg:=Zkk l.prog w mg base (CA:=CA) ZbO Zd ZW Zag Zfb
 have Zcw:=ZkO l.prog w mg base (CA:=CA) Zd ZW Zag ZfI
 have Zaf:=Zka l.prog w mg base (CA:=CA) ZI Zq Zhw Ze Zdy ZO Zck Z8 ZeI
 have Zap:=Zlf l.prog w mg base (CA:=CA) ZL Z6 Zgs
 have ZaI:=Zkt l.prog w mg base (CA:=CA) Zi ZH ZR ZB Zfk
 have Zah:=ZkS l.prog w mg base (CA:=CA) ZE Z4 ZaE ZfM
 have ZaG:=Zkm l.prog w mg base (CA:=CA) Zr ZA Zaw Zfd
 have Zao:=ZjL l.prog w mg base (CA:=CA) Zt Zad ZM Zd5
 have ZY:=Zj7 l.prog w mg base (CA:=CA) ZU Z5 ZeF
 have Z2:=ZkV l.prog w mg base (CA:=CA) ZZ Zau ZfP
 have ZbD:=ZjO l.prog w mg base (CA:=CA) Zd Za Za6 Zj Zbg Zd8
 have Zcj:=Zkp l.prog w mg base (CA:=CA) Zd Za Zai Zj Zay Zfg
 have Zbh:=ZiW l.prog w mg base (CA:=CA) Zu Za Zn ZdY
 have ZaM:=Zg9 l.prog w mg base (CA:=CA) ZaB ZI Zq Za Zn ZcF ZcI
 have ZaL:=Zg8 l.prog w mg base (CA:=CA) Za Zn ZcH
 have ZbZ:=Zly l.prog w mg base  ZgL
 have Zb1:=Zj3 l.prog w mg base (CA:=CA) Za ZaA ZJ ZbZ ZeB
 have ZcT:=Zli l.prog w mg base (CA:=CA) Zq Z3 Za Zn Zx Zgv
 have Zdh:=Zl5 l.prog w mg base Z3 ZjG
 have Zdo:=ZlL l.prog w mg base (CA:=CA) Za ZJ Zdh Zho
 have ZD:=Zk3 l.prog w mg base (CA:=CA) Zk8 Za ZbK Zer Zcj ZfX
 have Zm:=ZlP l.prog w mg base (CA:=CA) ZcQ Ze2 Zd Za ZaY Zam Zj ZaF Zao ZD Zhs
 have Zbw:=Zk2 l.prog w mg base (CA:=CA) Zb0 Zd Za Zas Zam Zj ZaF ZY ZD ZfW
 have Zcn:=ZlN l.prog w mg base (CA:=CA) Zb0 Zd Za Zas ZbH Zj Zcg ZY ZD Zhq
 have Zbb:=ZkA l.prog w mg base Zc5 Zz Zdz Z0 Zfr
 have Za0:=Zkb l.prog w mg base Zz Z0 Zaq ZeJ
 have ZcV:=Zlk l.prog w mg base (CA:=CA) Zc5 Zz ZiT ZdG Za ZdU ZaT Zj Zn ZaA ZJ Z7 Zab Zcx Zap Zbb Za0 Zgx
 have Za4:=Zlg l.prog w mg base (CA:=CA) ZdV ZL Za Za7 Zbe Z6 ZbD Zbh Zgt
 have Zcl:=Zku l.prog w mg base (CA:=CA) Zi ZH ZB Zfl
 have Zcy:=ZkT l.prog w mg base (CA:=CA)  ZfN
 have Zch:=Zkn l.prog w mg base (CA:=CA) Zg Zf Zr Za2 ZaV ZA Zc3 Zfe
 have ZbB:=ZjM l.prog w mg base (CA:=CA)  Zd6
 have Zb4:=Zj8 l.prog w mg base (CA:=CA)  ZeG
 have ZcA:=ZkW l.prog w mg base (CA:=CA)  ZfQ
 have Zdm:=ZlJ l.prog w mg base (CA:=CA)  Zhm
 have Zdn:=ZlK l.prog w mg base (CA:=CA)  Zhn
 have ZbC:=ZjN l.prog w mg base (CA:=CA) ZcQ Zb0 Zt ZaY Zas Zad ZM Zao ZY Zd7
 have Zb5:=Zj9 l.prog w mg base (CA:=CA) ZcC ZbA ZU Zax Z5 Z2 Zcn ZeH
 have ZcB:=ZkX l.prog w mg base (CA:=CA) ZdG ZcC ZZ ZaT Zax Zau Zap Z2 Zm ZfR
 have ZcS:=Zlh l.prog w mg base (CA:=CA) ZaB ZI Zq ZdG Zd3 Zc4 ZL Za ZaT Zbl ZaK Zaz ZaP Z6 Zaf Zap ZaI Zah ZaM Zm Za4 Zgu
 have Zcz:=ZkU l.prog w mg base (CA:=CA) ZI Zq Zdl Zc4 Zd2 ZfF Ze ZE Za ZaK Zbk ZcP ZO Zbp Z4 ZaE Z7 Z8 Zb2 ZbE Zah ZaG Zm ZfO
 have Zcm:=Zkv l.prog w mg base (CA:=CA) ZI Zq Zdl Zd3 Zc4 Zd2 Ze1 Ze5 Zu Ze Zi Za Zbl ZaK Zbk Zcv ZO Zbq ZH ZR ZB Z7 Z8 Zb3 Zbj ZaI Zah ZaG Zm Zfm
 have Zci:=Zko l.prog w mg base (CA:=CA) ZcC ZbA Zg Zf Zd Zr Za Zax ZbS ZaO Zbo Za1 ZaU ZA Zaw Zj Zc2 Zcw Z2 ZaL Zb1 Zm Zbw Zff
 have ZcW:=Zll l.prog w mg base (CA:=CA) ZL Zi ZE Zr Zt ZU ZZ Za Zb6 Zaz ZbL ZbT ZbI Zbc Zbr ZbV Zcq Zab Za4 Zcl Zcy Zch ZbB Zb4 ZcA Zdm Zgy
 have ZcU:=Zlj l.prog w mg base (CA:=CA) ZaB ZI Zq ZL Zi ZE Zr Zt ZU ZZ Za Zb6 Zb8 ZbM ZbU ZbJ Zbd Zbs ZbW Zcr Zab Zdn ZbC Zb5 ZcB ZcS Zcz Zcm Zci Zgw
 have Zs:=Zj4 l.prog w mg base (CA:=CA) Zz Zae Zu Zb ZF Z0 ZeC
 have ZcZ:=Zlo l.prog w mg base (CA:=CA) Zc5 Zz Zae Zet Zj0 Zu Zb Zep ZF Zaj ZN ZX ZQ ZP Z0 ZcV ZgB
 have ZcY:=Zln l.prog w mg base (CA:=CA) Zq Zz Zae ZeN Za Zb Zl Zb9 Zaj Zde Zx ZcT Zs ZgA
 have Zbi:=ZiX l.prog w mg base (CA:=CA) ZaB ZI Zq Zae ZS Zu Zhx Ze6 Za Zb Zcb Zca ZF ZN ZX ZQ ZP ZcW ZcU ZdZ
 have Zc1:=Zlq l.prog w mg base (CA:=CA) Zz Zae Z3 Zb Zl Za8 ZfG ZfH hc_Rail_turn Zs Zbi ZgD
 have ZaH:=Zkq l.prog w mg base (CA:=CA) Zae Z3 Zb ZP Zfh
 have Zbn:=ZlM l.prog w mg base (CA:=CA) Zz Zae Za Zb Zl Zcs Zdo Zs Zhp
 have Zc0:=Zlp l.prog w mg base (CA:=CA) Zz Zae Z3 Zb Zl ZX Zs ZgC
 have ZaS:=ZkR l.prog w mg base (CA:=CA) Zz Zae Z3 Zb Zl ZQ Zs ZfL
 have ZcX:=Zlm l.prog w mg base (CA:=CA) Zae Z3 Zb ZN Zgz
 have Zc:=Zlu l.prog w mg base Zu ZgH
 have ZbY:=Zlw l.prog w mg base ZS Zu Zhy ZgJ
 have Zba:=Zky l.prog w mg base ZS Zc Zfp
 have Za9:=Zkx l.prog w mg base Zc Zfo
 have Zat:=Zia l.prog w mg base (CA:=CA) Zz Zae ZS Zu Zhy Zev ZiU Zb Zan ZaD Zav ZaH Zbn ZaS ZbY Zdg
 have ZbX:=Zlv l.prog w mg base (CA:=CA) Zz Zae Zu Zb Zan ZaD ZaH Zbn ZgI
 have Zbt:=ZkZ l.prog w mg base (CA:=CA) Zz Zae ZS Zu Zhx Zla Zb Zav Zce Zc0 ZaS ZfT
 exact(Zmb l.prog w mg base (CA:=CA) Zq Zc5 Zz Zae ZeN ZS Z3 Zb Zeq Zcd Zcf Zcc ZfG ZfH ZcZ ZcY Zc1 ZcX Zc Zba Za9 Zat ZbX Zbt ZjS).1
end
theorem tupI_VOTES {K:W.Frag}{a:Addr}{od:Option Addr}{sl:Array (Option Value)}{n:Nat}{t0 t1 t2:Tok}(h:K.lookup a=some ⟨.type "tuple",od,.seq #[.int 1 t0,.int 3 t1,.int 5 t2] n,sl⟩):yF K a [1,3,5]:=yF.of h (aL rfl) (.cons ⟨_,rfl⟩ (.cons ⟨_,rfl⟩ (.cons ⟨_,rfl⟩ .nil)))
abbrev csI {x_post x_count x_free x_speaks x_reads x_intail x_flag x_settles x_rests x_off x_reader x_streak x_rtail x_stail:Addr}:Cs:=⟨x_post,x_count,x_free,x_speaks,x_reads,x_intail,x_flag,x_settles,x_rests,x_off,x_reader,x_streak,x_rtail,x_stail⟩
theorem walk {l:W.OpenLaw}{q:Program}{loose:List Str}{XP:(Str->Option Value)->Heap->Prop}{YP:World->Heap->Prop}{d:DefRec}{K:Params->W.Frag}{tc:List (Addr×Addr)}(htc:tc= [(969,965)])(hn:l.most=some 63)(hdf:d.params.defaults= [])
  (hY:∀(w:World)(h:Heap),YP w h->(K w.params).In h/\∀q∈tc,(K w.params).lookup q.2=none/\h.get? q.2=some (W.tabObj #[])/\W.codeHdIn (K w.params) q.1 q.2=true)
  (F :∀(w:World)(mg:Str->Option Value)(fa:Addr)(h:Heap),(K w.params).In h->h.Ns mainGlobals mg->mg d.name=some (.ref fa)->
   ∃fd:FuncData,(∀(s:Shared)(u:Value),BindsTo s fd ⟨[u], []⟩ [("_law_script",u)])/\∀base:Heap,(K w.params).In base->base.Ns mainGlobals mg->fM l.prog w (K w.params) mg base CX0 15 fa fd ["_law_script"] (oW (K w.params))) :
  W.WalkO q loose XP YP l.row.toRowW d [] (fun f vs=>PySem.call f vs):=by
 subst htc
 exact L2.walk_ofT (n:=63) (k:=15) (x:="_law_script") (CX:=fun _=>CX0) (sp:=fun w=>oW (K w.params)) hn (by decide) hdf ⟨rfl,by decide,by decide⟩ hY F (fun _ H a ns hl hO hS=>⟨a,ns,rfl,hS,hl,⟨#[],hO.1 965 (by simp),trivial,.inl rfl⟩,fun _=>rfl⟩) fun _ _ _ _ _ z=>z
end My
open PySem PySem.W PyProof.Rows
set_option maxRecDepth 100000 in
set_option maxHeartbeats 0 in
theorem PySem.Challenge.cw_bitrail_k95_whole_taken_is_heard_holds : PySem.Challenge.rw_bitrail_k95_whole_taken_is_heard.Holds := by
 w_on;o_law
 refine holds_open (q:=Hd.qv) (loose:=Hd.loose) (XP:=XL Hd.qv []) (YP:=InK Hd.KA) (d:=Hd.dl) (kwd:=[]) Hd.left (InK.of Hd.K_as) InK.keeps (fun s e=>xl_of s e) XL.keeps Hd.dl_1 Hd.dl_2 rfl (fun s _=>recFacts_nil rfl) rfl
  (by assumption) (by decide +kernel) ⟨rfl,rfl,rfl,rfl,rfl,by decide +kernel⟩ ?hw ?hc
 case hw=>w_witness2
 refine My.walk (l:=PySem.Challenge.rw_bitrail_k95_whole_taken_is_heard) (K:=Hd.K) (tc:=Hd.tc) rfl rfl rfl Hd.tabs ?F
 k_fill
 case F=>
  intro w mg fa h KX G hmg
  refine' My.all_mk w mg (CA:=My.csI) ?m0 ?m1 ?m2 ?m3 ?m4 ?m5 ?m6 ?m7 ?m8 ?m9 ?m10 ?m11 ?m12 ?m13 ?m14 ?m15 ?m16 ?m17 ?m18 ?m19 ?m20 ?m21 ?m22 ?m23 ?m24 ?m25 ?m26 ?m27 ?m28 ?m29 ?m30 ?m31 ?m32 ?m33 ?m34 ?m35 ?m36 ?m37 ?m38 ?m39 ?m40 ?m41 ?m42 ?m43 ?m44 ?m45 ?m46 ?m47 ?m48 ?m49 ?m50 ?m51 ?m52 ?m53 ?m54 ?m55 ?m56 ?m57 ?m58 ?m59 ?m60 ?m61 ?m62 ?m63 ?m64 ?m65 ?m66 ?m67 ?m68 ?m69 ?m70 ?m71 ?m72 ?m73 ?m74 ?m75 ?m76 ?m77 ?m78 ?m79 ?m80 ?m81 ?m82 ?m83 ?m84 ?m85 ?m86 ?m87 ?m88 ?m89 ?m90 ?m91 ?m92 ?m93 ?m94 ?m95 ?m96 ?m97 ?m98 ?m99 ?m100 ?m101 ?m102 ?m103 ?m104 ?m105 ?m106 ?m107 ?m108 ?m109 ?m110 ?m111 ?m112 ?m113 ?m114 ?m115 ?m116 ?m117 ?m118 ?m119 ?m120 ?m121 ?m122 ?m123 ?m124 ?m125 ?m126 ?m127 ?m128 ?m129 ?m130 ?m131 ?m132 ?m133 ?m134 ?m135 ?m136 ?m137 ?m138 ?m139 ?m140 ?m141 ?m142 ?m143 ?m144 ?m145 ?m146 ?m147 ?m148 ?m149 ?m150 ?m151 ?m152 ?m153 ?m154 ?m155 ?m156 ?m157 ?m158 ?m159 ?m160 ?m161 ?m162 ?m163 ?m164 ?m165 ?m166 ?m167 ?m168 ?m169 ?m170 ?m171 ?m172 ?m173 ?m174 ?m175 ?m176 ?m177 ?m178 ?m179 hmg ?f4 ?f5 ?f6 ?f7 ?f8 ?f9 ?f10 ?f11 ?f12 ?f13 ?f14 ?f15 ?f16 ?f17 ?f39 ?f52 ?f55 ?f57 ?f58 ?f59 ?f60 ?f61 ?f62 ?f92 ?f93 ?f94 ?f95 ?f96 ?f97 ?f98 ?f99 ?f0 ?f1 ?f2 ?f3 ?f18 ?f19 ?f20 ?f21 ?f22 ?f23 ?f24 ?f25 ?f26 ?f27 ?f28 ?f29 ?f30 ?f31 ?f32 ?f33 ?f34 ?f35 ?f36 ?f37 ?f38 ?f40 ?f41 ?f42 ?f43 ?f44 ?f45 ?f46 ?f47 ?f48 ?f49 ?f50 ?f51 ?f53 ?f54 ?f56 ?f63 ?f64 ?f65 ?f66 ?f67 ?f68 ?f69 ?f70 ?f71 ?f72 ?f73 ?f74 ?f75 ?f76 ?f77 ?f78 ?f79 ?f80 ?f81 ?f82 ?f83 ?f84 ?f85 ?f86 ?f87 ?f88 ?f89 ?f90 ?f91
  all_goals try dsimp only[My.csI]
  case m0 | m1 | m2 | m3 | m4 | m5 | m6 | m7 | m8 | m9 | m10 | m11 | m12 | m13 | m14 | m15 | m16 | m17 | m18 | m19 | m20 | m21 | m22 | m23 | m24 | m25 | m26 | m27 | m28 | m29 | m30 | m31 | m32 | m33 | m34 | m35 | m36 | m37 | m38 | m39 | m40 | m41 | m42 | m43=>refine' PySem.W.mg_of KX G ?_;k_is
  case m44 | m45 | m46 | m47 | m48 | m49 | m50 | m51 | m52 | m53 | m54=>refine' PySem.W.mg_none_of KX G ?_;k_is
  case f4 | f5 | f6 | f7 | f8 | f9 | f10 | f11 | f12 | f13 | f14 | f15 | f16 | f17 | f39 | f52 | f55 | f57 | f58 | f59 | f60 | f61 | f62 | f92 | f93 | f94 | f95 | f96 | f97 | f98 | f99=>(refine' My.gf_mk KX G ?a ?l ?c ?k;(case a=>show _=_;k_is);(case l=>show _=_;k_is);(case c=>show _=_;k_is);(case k=>show _=_;k_is))
  case f86=>(refine' My.mfc_mk ?a ?l ?c ?k;(case a=>show _=_;k_is);(case l=>show _=_;k_is);(case c=>show _=_;k_is);(case k=>show _=_;k_is))
  case f0 | f1 | f2 | f3 | f18 | f19 | f20 | f21 | f22 | f23 | f24 | f25 | f26 | f27 | f28 | f29 | f30 | f31 | f32 | f33 | f34 | f35 | f36 | f37 | f38 | f40 | f41 | f42 | f43 | f44 | f45 | f46 | f47 | f48 | f49 | f50 | f51 | f53 | f54 | f56 | f63 | f64 | f65 | f66 | f67 | f68 | f69 | f70 | f71 | f72 | f73 | f74 | f75 | f76 | f77 | f78 | f79 | f80 | f81 | f82 | f83 | f84 | f85 | f87 | f88 | f89 | f90 | f91=>(refine' My.mf_mk ?a ?l ?c ?k;(case a=>show _=_;k_is);(case l=>show _=_;k_is);(case c=>show _=_;k_is);(case k=>show _=_;k_is))
  case m55=>(refine' My.tupI_VOTES ?a;(case a=>k_is))
  case m56 | m57=>(refine⟨?_,?_,?_,?_,?_⟩;(refine⟨?_,?_,?_,?_⟩ <;> k_is);all_goals (show PySem.W.findIn _ _ _=_;k_is))
  case m58 | m59 | m60 | m61 | m62 | m63 | m64 | m65 | m66 | m67 | m68 | m69 | m70 | m71 | m72 | m73 | m74 | m75 | m76 | m77 | m78 | m79 | m80 | m81 | m82 | m83 | m84 | m85=>(refine⟨?_,?_,?_,?_⟩ <;> k_is)
  case m86 | m87 | m88 | m89 | m90 | m91 | m92 | m93 | m94 | m95 | m96 | m97 | m98 | m99 | m100 | m101 | m102 | m103 | m104 | m105 | m106 | m107 | m108 | m109 | m110 | m111 | m112 | m113 | m114 | m115 | m116 | m117 | m118 | m119 | m120 | m121 | m122 | m123 | m124 | m125 | m126 | m127 | m128 | m129 | m130 | m131 | m132 | m133 | m134 | m135 | m136 | m137 | m138 | m139 | m140 | m141 | m142=>(refine⟨?_,?_,?_⟩ <;> k_is)
  case m143=>(refine' My.BmK.bm KX G ?_;(refine⟨?_,by decide,by decide, #[],?_⟩ <;> k_is))
  case m144 | m145 | m146 | m147 | m148 | m149 | m150 | m151 | m152 | m153 | m154 | m155 | m156 | m157 | m158 | m159 | m160 | m161 | m162 | m163 | m164 | m165 | m166 | m167 | m168 | m169 | m170 | m171 | m172 | m173=>(show PySem.W.findIn _ _ _=_;k_is)
  case m174 | m175 | m176 | m177 | m178=>k_exc
  case m179=>kernel_rfl
#print axioms PySem.Challenge.cw_bitrail_k95_whole_taken_is_heard_holds
