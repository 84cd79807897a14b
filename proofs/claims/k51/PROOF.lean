import PyProof.Rows.All
import Wide.All
import OpenK.AllK
import Wide.FinOn
import PyProof.EqAt
import PyProof.EqKinds
import PyProof.TupleCall
import Lean
import PySem.Challenge.RW_bitrail_k51_the_rails_tape
set_option Elab.async false
def Va:=@Ne.symm
def Ya:=@List.length_map
def Yb:=@List.getElem?_eq_getElem
def Yc:=@List.length_append
def Yd:=@List.getElem?_eq_some_iff
def Ye:=@Nat.lt_of_lt_of_le
def Yf:=@Nat.le_refl
def Yg:=@PySem.Heap.get?_push_of_some
def Yh:=@List.take_succ_eq_append_getElem
def Yi:=@List.mem_of_getElem?
def Yj:=@List.mem_singleton
def Yk:=@List.map_append
def Yl:=@List.getElem?_map
def Ym:=@PySem.Heap.lt_size
def Yn:=@List.getD_eq_getElem?_getD
def Yo:=@Option.some.inj
def Yp:=@decide_eq_true
def Yq:=@Bool.false_ne_true
def Yr:=@decide_eq_false
def Ys:=@List.take_of_length_le
def Yt:=@List.mem_cons
def Yu:=@PySem.Heap.get?_push_size
def Yv:=@List.size_toArray
def Yw:=@Nat.pow_le_pow_right
def Yx:=@List.length_take
def Yy:=@Nat.ne_of_lt
def Yz:=@List.mem_cons_of_mem
def YA:=@List.getElem?_append_right
def YB:=@List.mem_append
def YC:=@List.getElem?_append_left
def YD:=@List.mem_map
def YE:=@Decidable.byContradiction
def YF:=@PySem.PassesOwn.never
def YG:=@List.length_singleton
def YH:=@List.mem_cons_self
def YI:=@List.map_cons
def YJ:=@congrArg
def YK:=@List.length_range
def YL:=@of_decide_eq_true
def YM:=@Option.map_eq_some_iff
def YN:=@Nat.le_trans
def YO:=@Nat.zero_le
def YQ:=@List.append_nil
def YR:=@Int.toNat_natCast
def YS:=@List.mem_append_right
def YT:=@List.getElem_of_mem
def YU:=@List.length_cons
def YV:=@List.getElem_mem
def YW:=@Nat.lt_irrefl
def YX:=@List.length_replicate
def YY:=@PySem.wpAny_bind
def YZ:=@beq_eq_false_iff_ne
def Y0:=@PySem.mem_of_lookup
def Y1:=@Nat.testBit_eq_decide_div_mod_eq
def Y2:=@List.getElem?_set_ne
def Y3:=@Nat.testBit_lt_two_pow
def Y4:=@PySem.wpAny_mono
def Y5:=@List.head?_append
def Y6:=@Nat.le_of_lt
def Y7:=@List.nodup_cons
def Y8:=@Int.zero_add
def Y9:=@List.lookup_cons
def Xa:=@Int.eq_ofNat_of_zero_le
def Xb:=@List.forall_mem_cons
def Xc:=@PySem.wpAny_truthy_bool
def Xd:=@PySem.wpAny_pure
def Xe:=@PySem.W.methodCall_KW
def Xf:=@PySem.wpAny_Call_Name_kw
def Xg:=@List.append_assoc
def Xh:=@List.foldl_append
def Xi:=@List.getElem?_set
def Xj:=@List.any_cons
def Xk:=@List.replicate_succ
def Xl:=@Nat.lt_succ_self
def Xm:=@Nat.shiftLeft_eq
def Xn:=@List.take_append_of_le_length
def Xo:=@List.of_mem_zip
def Xp:=@List.foldl_cons
def Xq:=@List.length_set
def Xr:=@List.range_succ
def Xs:=@List.flatten_cons
def Xu:=@PySem.wpAny_passesOwn
def Xv:=@Nat.le_succ
def Xw:=@Nat.mod_two_eq_zero_or_one
def Xx:=@Bool.and_eq_true
def Xy:=@Array.length_toList
def Xz:=@List.all_cons
def XA:=@Nat.xor_assoc
def XB:=@Bool.eq_iff_iff
def XC:=@List.find?_cons
def XD:=@Option.map_some
def XE:=@PySem.wpAny_execs_cons
def XF:=@PySem.W.kia_one
def XG:=@PySem.W.callWith_K
def XH:=@decide_eq_true_iff
def XI:=@PySem.F.plainAttrs_list
def XJ:=@Nat.ne_of_gt
def XM:=@List.not_mem_nil
def XN:=@beq_iff_eq
def XO:=@PySem.codeAny_mono
def XQ:=@PySem.SeqAt.canLay_of_shaped
def XR:=@List.mem_of_mem_take
def XS:=@Nat.testBit_xor
def XT:=@PySem.codeAny_call_function
def XU:=@Nat.div_eq_of_lt_le
def XV:=@Array.toList_append
def XW:=@List.getElem?_range
def XX:=@Nat.pow_succ
def XY:=@Nat.xor_zero
def XZ:=@PySem.W.callWith_K0
def X0:=@Nat.lt_of_le_of_lt
def X1:=@Int.emod_lt_of_pos
def X2:=@List.take_zero
namespace Hd
open PySem PyProof.Rows
open PySem.W PySem.Calls
def c0V (t:Thread):(endAt 0 t).isSome=through t:=by
 obtain⟨cur,code,pos,st⟩:=t
 cases st with
 | nil=>cases cur with
  |pure f=>cases f <;> rfl
  |_=>rfl
 |cons a l=>cases cur <;> rfl
theorem qC {tb:String->Option Builtin}{p:Program}{w:World}{m:Nat}{ann:Option Value}:∀{n:Nat}{s s':Shared}{t:Thread}{f:Flow}{c:Code}{x:Pos},
  segRun tb p w m ann 0 n s t=some (f,s',c,x)->topRun tb p w m ann n s t=some s'
 |0,_,_,_,_,_,_,h=>by simp[segRun]at h
 | n + 1,s,s',t,f,c,x,h=>by
  unfold segRun at h
  unfold topRun
  rw[<-c0V t]
  cases he:endAt 0 t with
  |some g=>rw[he]at h;cases h;rfl
  | none=>
   rw[he]at h
   dsimp only[Option.isSome]at h ⊢
   cases k:stepOk m ann t with
   |false=>rw[k]at h;cases h
   | true=>
    rw[k]at h
    dsimp only at h ⊢
    cases g:step (denote tb) p w s t with
    |halt o z=>rw[g]at h;cases h
    |go z t'=>rw[g]at h;exact qC h
def a0U (T:BT)(n a:Nat):Option Obj:=match Nat.blt a n with
 |true=>(match T.get a with | some o=>alive o | none=>none)
 |false=>none
def a3C {T:BT}{n a:Nat}{life:Life}{o:Obj}(h:a0U T n a=some o):(absHeap T n life).get? a=some o:=by
 unfold a0U at h
 cases c:Nat.blt a n with
 |false=>rw[c]at h;cases h
 | true=>
  rw[c]at h
  dsimp only at h
  cases g:T.get a with
  |none=>rw[g]at h;cases h
  | some x=>
   rw[g]at h
   rw[abs_get (Nat.le_of_ble_eq_true c) g]
   exact h
theorem sV {T:BT}{n:Nat}{life:Life}:∀{as:List Addr}{os:List Obj},as.map (a0U T n)=os.map some->as.map (absHeap T n life).get? =os.map some
 |[], [],_=>rfl
 |[],_::_,h=>by cases h
 |_::_, [],h=>by cases h
 | a::as,o::os,h=>by
  rw[YI,YI]at h
  injection h with h1 h2
  rw[YI,YI,sV h2]
  exact YJ (·::os.map some) (a3C h1)
abbrev look (p q:Program)(loose:List Str)(Xt:Shared->Bool)(as:List Addr)(h:Heap)(s:SharedT):=
 (staticsOk (importedModules p.main.body) h s.abs.heap && namesBound p s.abs.heap && gensDone s.abs && laidKept h s.abs.heap,openSeen q loose (importedModules p.main.body) Xt true s.abs,as.map (a0U s.tree s.n))
theorem zA {p q:Program}{loose:List Str}{Xt:Shared->Bool}{as:List Addr}{os_:World->List Obj}{N m:Nat}{ann:Option Value}(S:World->OsState->SharedT)
  (op:∀w:World,(fencedOpening treeTable p w N).map (fun s=>(s.heap,s.gens,s.drawn,s.toks))=some (boot_heap w.params,Array.mk [],boot_drawn,boot_toks))
  (size : ∀ w : World, ((boot_heap w.params).isNs mainGlobals, (boot_heap w.params).objs.size, (boot_heap w.params).nsMap mainGlobals "__annotations__") = (true, m, ann))
  (abs:∀w os,(S w os).abs=⟨boot_heap w.params,Array.mk [],boot_drawn,boot_toks,os⟩)
  (whole:∀w:World,(fun os=>(segRunT treeTable p w m ann 0 N (S w os) (topStub p)).map fun r=>look p q loose Xt as (boot_heap w.params) r.2.1)=fun _=>some (true,openGood q loose,(os_ w).map some)):LeftO p q loose Xt (fun s=>as.map s.heap.get?) (fun w=>(os_ w).map some) N:=fun w=>by
 obtain⟨⟨h,gs,d,k,os⟩,e,e'⟩:=YM.mp (op w)
 obtain⟨rfl,rfl,rfl,rfl⟩:h=boot_heap w.params/\gs=Array.mk []/\d=boot_drawn/\k=boot_toks:=by simpa using e'
 obtain⟨y1,y2,y3⟩:_/\_/\_:=by simpa only[Prod.mk.injEq] using size w
 obtain⟨⟨f,s',c,x⟩,r1,r2⟩:=YM.mp (congrFun (whole w) os)
 obtain⟨l1,l2,l3⟩:_/\_/\_:=by simpa only[look,Prod.mk.injEq] using r2
 have l4:as.map s'.abs.heap.get? =(os_ w).map some:=sV l3
 have r:=qC (segRun_of r1)
 rw[abs]at r
 have t:topFrom treeTable p w N ⟨boot_heap w.params,Array.mk [],boot_drawn,boot_toks,os⟩=some s'.abs:=by
  unfold topFrom
  dsimp only
  rw[y1,y2,y3,r]
  show (match staticsOk (importedModules p.main.body) (boot_heap w.params) s'.abs.heap && namesBound p s'.abs.heap && gensDone s'.abs && laidKept (boot_heap w.params) s'.abs.heap with | true=>_ | false=>_)=_
  rw[l1]
 unfold openEnds
 rw[e]
 refine(YJ (Option.map _) t).trans ?_
 exact YJ some (by show (_,as.map s'.abs.heap.get?)=(_,(os_ w).map some);rw[l2,l4])
abbrev r (a:Addr):Value:= .ref a
abbrev s (x:Str)(t:Tok):Value:= .str x t
abbrev i (x:Int)(t:Tok):Value:= .int x t
abbrev t (x:String):Value:= .type x
abbrev b (x:String):Value:= .builtin x
abbrev tp (l:List Value):Obj:=⟨.type "tuple",none,.seq l.toArray 0, #[]⟩
abbrev co (l:List Value):Obj:=⟨.type "code",none,.fields l.toArray, #[]⟩
abbrev fi (c:Value)(l:List Value):Obj:=⟨c,none,.fields l.toArray, #[]⟩
abbrev di (c:Value)(l:List DictEntry)(n:Nat):Obj:=⟨c,none,.dict l.toArray n, #[]⟩
abbrev e (P:Params)(x:Str)(t:Tok)(v:Value):DictEntry:=⟨PyData.keyHash P x,.str x t,v⟩
abbrev cl (c:ClassData)(l:List (Option Value)):Obj:=⟨.type "type",none,.cls c,l.toArray⟩
abbrev o (v:Value):Option Value:=some v
abbrev sf (p:Program)(k:Nat):Stmt:=p.main.body.getD k default
def sub (k:Nat):Stmt->Stmt
 |.ClassDef _ _ _ b _ _ _ _ _ _ _=>b.getD k default
 |x=>x
def fn (q:Str)(d kw doc md:Value)(c bl:Addr):Stmt->Obj
 |.FunctionDef n a b _ _ _ sc _ _ _=>⟨.type "function",none,.func { name:=n,qualname:=q,params:=a,body:= .stmts b,scope:=sc,globals:=3,closure:=[],defaults:=d,kwdefaults:=kw,doc:=doc,pyModule:=md,code:= .ref c,builtins:=bl }, #[]⟩
 |_=>default
def dr:Stmt->DefRec
 |.FunctionDef n a b _ _ _ sc _ _ x=>⟨n,a,b,sc,x⟩
 |_=>⟨"",⟨[], [],none, [], [],none, []⟩, [],default,default⟩
abbrev cc (nm qn:Str)(t l a fl x tb:Nat)(d v f:Value)(z n t':Nat):Obj:=co [s nm t,s qn (t+1),s "/claim/cut.py" (t+2),i l 0,i a 0,i 0 0,i 0 0,i fl 0,r x,.bool true,i 181 0,r tb,d,v,f,r z,i n 0,i l 0,s "/claim/cut.py" t']
abbrev fo (q md:Str)(t:Tok)(c:Addr)(x:Stmt):Obj:=fn q .none .none .none (s md t) c 0 x
noncomputable def tree (P:Params):BT:=(.node (boot_o_0 P) (.node (boot_o_1 P) (.node (boot_o_3 P) (.node (boot_o_7 P) .nil .nil) .nil) (.node (boot_o_5 P) (.node (boot_o_9 P) .nil .nil) .nil)) (.node (boot_o_2 P) (.node (boot_o_4 P) (.node (boot_o_8 P) .nil .nil) .nil) (.node (boot_o_6 P) (.node (boot_o_10 P) .nil .nil) .nil)))
noncomputable def S (w:World)(os:OsState):SharedT:=⟨tree w.params,11,(boot_heap w.params).life,Array.mk [],boot_drawn,boot_toks,os⟩
def b9A (w:World)(os:OsState):(S w os).abs=⟨boot_heap w.params,Array.mk [],boot_drawn,boot_toks,os⟩:=by kernel_rfl
set_option maxRecDepth 100000
noncomputable section
abbrev p:Program:=PySem.Challenge.pw_bitrail_k51_the_rails_tape
noncomputable def K (P : Params) : Frag := (nat_lit 2, di .none [] 0) :: (nat_lit 3, di (t "dict") [e P "__name__" 165 (s "law_bitrail_k51_the_rails_tape" 1586), e P "__doc__" 166 .none, e P "__package__" 167 .none, e P "__loader__" 168 (b "__main__.__loader__#opaque"), e P "__spec__" 169 .none, e P "__annotations__" 170 (r 6), e P "__builtins__" 171 (r 4), e P "__file__" 173 (s "/claim/cut.py" 172), e P "__cached__" 174 .none, e P "RailError" 206 (r 24), e P "NoBits" 222 (r 37), e P "NoName" 238 (r 49), e P "NoKey" 254 (r 61), e P "NoFrame" 270 (r 73), e P "NoPost" 286 (r 85), e P "HIGHEST_BYTE" 290 (i 255 289), e P "bits_of" 296 (r 92), e P "number_of" 305 (r 99), e P "are_bytes" 311 (r 104), e P "divided" 324 (r 111), e P "KEY" 328 (i 64647 327), e P "CHECK_BITS" 330 (i 15 329), e P "rest_of" 337 (r 118), e P "check_of" 344 (r 125), e P "NAME_BITS" 348 (i 8 347), e P "HIGHEST_NAME" 350 (i 255 349), e P "is_name" 357 (r 132), e P "is_wanted" 365 (r 139), e P "MOST_ALIKE" 369 (i 5 368), e P "Streak" 420 (r 177), e P "put_in" 430 (r 188), e P "SIZE_AT" 434 (i 9 433), e P "SIZE_BITS" 436 (i 3 435), e P "DATA_AT" 438 (i 12 437), e P "BYTE_BITS" 440 (i 8 439), e P "MOST_BYTES" 442 (i 7 441), e P "check_frame" 450 (r 195), e P "frame_bits" 460 (r 202), e P "is_complete" 467 (r 209), e P "told_size" 474 (r 216), e P "read_frame" 480 (r 221), e P "wire_of" 488 (r 228), e P "GREAT_FAULT" 492 (i 8 491), e P "SMALL_FAULT" 494 (i 1 493), e P "QUIET_FROM" 496 (i 12 495), e P "OFF_FROM" 498 (i 18 497), e P "Count" 577 (r 294), e P "Reader" 639 (r 343), e P "ANSWER_AT" 643 (i 1 642), e P "VOTES_AT" 645 (i 9 644), e P "Tail" 718 (r 399), e P "ReadTail" 742 (r 420), e P "SpeakTail" 766 (r 439), e P "FLAG_BITS" 770 (i 6 769), e P "REST_TURNS" 772 (i 3 771), e P "QUIET_TURNS" 774 (i 8 773), e P "DUEL_BITS" 776 (i 9 775), e P "begun_reader" 783 (r 448), e P "unless_off" 792 (r 455), e P "fault_of" 800 (r 462), e P "refusal_of" 808 (r 469), e P "blame_of" 815 (r 476), e P "Free" 869 (r 514), e P "Speaks" 928 (r 556), e P "Reads" 984 (r 598), e P "InTail" 1040 (r 640), e P "Flagging" 1095 (r 682), e P "Settles" 1148 (r 724), e P "Rests" 1201 (r 766), e P "Off" 1245 (r 801), e P "VOTES" 1251 (r 806), e P "check_votes" 1258 (r 813), e P "check_choice" 1265 (r 820), e P "copies" 1271 (r 825), e P "Post" 1402 (r 933), e P "MOST_POSTS" 1406 (i 5 1405), e P "Rail" 1564 (r 1060), e P "heard_well" 1573 (r 1071), e P "ear" 1585 (r 1078), e P "_law_draw" 1598 (r 1085), e P "_law_choices" 1609 (r 1092), e P "_law_frames" 1622 (r 1099), e P "_law_wrong" 1634 (r 1106), e P "_law_bits" 1643 (r 1113), e P "_law_tape" 1649 (r 1118), e P "_law_events" 1661 (r 1125), e P "_law_whole" 1671 (r 1132), e P "_law_ran" 1689 (r 1139), e P "_law_turned" 1705 (r 1146), e P "law" 1711 (r 1151)] 90) :: (nat_lit 4, ⟨.type "module", some builtinsNs, .plain, #[]⟩) :: (nat_lit 23, di (t "dict") [e P "__module__" 196 (s "bitrail.errors" 187), e P "__firstlineno__" 200 (i 2 199), e P "__static_attributes__" 201 (r 22), e P "__weakref__" 203 (r 25), e P "__doc__" 204 .none] 3) :: (nat_lit 24, cl { name := "RailError", bases := [t "ValueError"], mro := [r 24, t "ValueError", t "Exception", t "BaseException", t "object"], ns := 23, qualname := "RailError", hasDict := true, subclasses := [r 37, r 49, r 61, r 73, r 85] } [o (r 15), .none, o (s "RailError" 189), o (s "RailError" 197), o (b "ValueError.__new__"), o (.bool true)]) :: (nat_lit 36, di (t "dict") [e P "__module__" 214 (s "bitrail.errors" 187), e P "__firstlineno__" 218 (i 4 217), e P "__static_attributes__" 219 (r 35), e P "__doc__" 220 .none] 2) :: (nat_lit 37, cl { name := "NoBits", bases := [r 24], mro := [r 37, r 24, t "ValueError", t "Exception", t "BaseException", t "object"], ns := 36, qualname := "NoBits", hasDict := true, subclasses := [] } [o (r 28), .none, o (s "NoBits" 207), o (s "NoBits" 215), o (b "ValueError.__new__"), o (.bool true)]) :: (nat_lit 48, di (t "dict") [e P "__module__" 230 (s "bitrail.errors" 187), e P "__firstlineno__" 234 (i 6 233), e P "__static_attributes__" 235 (r 47), e P "__doc__" 236 .none] 2) :: (nat_lit 49, cl { name := "NoName", bases := [r 24], mro := [r 49, r 24, t "ValueError", t "Exception", t "BaseException", t "object"], ns := 48, qualname := "NoName", hasDict := true, subclasses := [] } [o (r 40), .none, o (s "NoName" 223), o (s "NoName" 231), o (b "ValueError.__new__"), o (.bool true)]) :: (nat_lit 60, di (t "dict") [e P "__module__" 246 (s "bitrail.errors" 187), e P "__firstlineno__" 250 (i 8 249), e P "__static_attributes__" 251 (r 59), e P "__doc__" 252 .none] 2) :: (nat_lit 61, cl { name := "NoKey", bases := [r 24], mro := [r 61, r 24, t "ValueError", t "Exception", t "BaseException", t "object"], ns := 60, qualname := "NoKey", hasDict := true, subclasses := [] } [o (r 52), .none, o (s "NoKey" 239), o (s "NoKey" 247), o (b "ValueError.__new__"), o (.bool true)]) :: (nat_lit 72, di (t "dict") [e P "__module__" 262 (s "bitrail.errors" 187), e P "__firstlineno__" 266 (i 10 265), e P "__static_attributes__" 267 (r 71), e P "__doc__" 268 .none] 2) :: (nat_lit 73, cl { name := "NoFrame", bases := [r 24], mro := [r 73, r 24, t "ValueError", t "Exception", t "BaseException", t "object"], ns := 72, qualname := "NoFrame", hasDict := true, subclasses := [] } [o (r 64), .none, o (s "NoFrame" 255), o (s "NoFrame" 263), o (b "ValueError.__new__"), o (.bool true)]) :: (nat_lit 84, di (t "dict") [e P "__module__" 278 (s "bitrail.errors" 187), e P "__firstlineno__" 282 (i 12 281), e P "__static_attributes__" 283 (r 83), e P "__doc__" 284 .none] 2) :: (nat_lit 85, cl { name := "NoPost", bases := [r 24], mro := [r 85, r 24, t "ValueError", t "Exception", t "BaseException", t "object"], ns := 84, qualname := "NoPost", hasDict := true, subclasses := [] } [o (r 76), .none, o (s "NoPost" 271), o (s "NoPost" 279), o (b "ValueError.__new__"), o (.bool true)]) :: (nat_lit 91, cc "bits_of" "bits_of" 291 16 2 3 88 89 .none .none .none 90 294 295) :: (nat_lit 92, fo "bits_of" "bitrail.bits" 287 91 (sf p 9)) :: (nat_lit 98, cc "number_of" "number_of" 297 20 1 3 93 94 .none (r 95) (r 96) 97 303 304) :: (nat_lit 99, fo "number_of" "bitrail.bits" 287 98 (sf p 10)) :: (nat_lit 103, cc "are_bytes" "are_bytes" 306 25 1 3 100 101 .none .none .none 102 309 310) :: (nat_lit 104, fo "are_bytes" "bitrail.bits" 287 103 (sf p 11)) :: (nat_lit 110, cc "divided" "divided" 314 28 2 3 105 106 .none (r 107) (r 108) 109 322 323) :: (nat_lit 111, fo "divided" "bitrail.keys" 312 110 (sf p 13)) :: (nat_lit 117, cc "rest_of" "rest_of" 331 41 1 3 112 113 .none (r 114) (r 115) 116 335 336) :: (nat_lit 118, fo "rest_of" "bitrail.checks" 325 117 (sf p 17)) :: (nat_lit 124, cc "check_of" "check_of" 338 43 1 3 119 120 .none (r 121) (r 122) 123 342 343) :: (nat_lit 125, fo "check_of" "bitrail.checks" 325 124 (sf p 18)) :: (nat_lit 131, cc "is_name" "is_name" 351 48 1 3 126 127 .none (r 128) (r 129) 130 355 356) :: (nat_lit 132, fo "is_name" "bitrail.names" 345 131 (sf p 22)) :: (nat_lit 138, cc "is_wanted" "is_wanted" 358 50 2 3 133 134 .none (r 135) (r 136) 137 363 364) :: (nat_lit 139, fo "is_wanted" "bitrail.names" 345 138 (sf p 23)) :: (nat_lit 152, cc "__init__" "Streak.__init__" 382 56 1 3 147 148 .none (r 149) (r 150) 151 386 387) :: (nat_lit 153, fo "Streak.__init__" "bitrail.putting" 366 152 (sub 0 (sf p 26))) :: (nat_lit 159, cc "lengthen" "Streak.lengthen" 389 60 2 3 154 155 .none (r 156) (r 157) 158 394 395) :: (nat_lit 160, fo "Streak.lengthen" "bitrail.putting" 366 159 (sub 1 (sf p 26))) :: (nat_lit 166, cc "is_full" "Streak.is_full" 397 64 1 3 161 162 .none (r 163) (r 164) 165 401 402) :: (nat_lit 167, fo "Streak.is_full" "bitrail.putting" 366 166 (sub 2 (sf p 26))) :: (nat_lit 173, cc "is_too_long" "Streak.is_too_long" 404 67 1 3 168 169 .none (r 170) (r 171) 172 408 409) :: (nat_lit 174, fo "Streak.is_too_long" "bitrail.putting" 366 173 (sub 3 (sf p 26))) :: (nat_lit 176, di (t "dict") [e P "__module__" 377 (s "bitrail.putting" 366), e P "__firstlineno__" 381 (i 54 380), e P "__init__" 388 (r 153), e P "lengthen" 396 (r 160), e P "is_full" 403 (r 167), e P "is_too_long" 410 (r 174), e P "__static_attributes__" 413 (r 175), e P "__dict__" 415 (r 178), e P "__weakref__" 417 (r 179), e P "__doc__" 418 .none] 4) :: (nat_lit 177, cl { name := "Streak", bases := [t "object"], mro := [r 177, t "object"], ns := 176, qualname := "Streak", hasDict := true, subclasses := [] } [.none, .none, o (s "Streak" 370), o (s "Streak" 378), o (b "object.__new__"), o (.bool true)]) :: (nat_lit 187, cc "put_in" "put_in" 421 69 1 3 182 183 .none (r 184) (r 185) 186 428 429) :: (nat_lit 188, fo "put_in" "bitrail.putting" 366 187 (sf p 27)) :: (nat_lit 194, cc "check_frame" "check_frame" 443 85 2 3 189 190 .none (r 191) (r 192) 193 448 449) :: (nat_lit 195, fo "check_frame" "bitrail.frames" 431 194 (sf p 34)) :: (nat_lit 201, cc "frame_bits" "frame_bits" 451 92 2 3 196 197 .none (r 198) (r 199) 200 458 459) :: (nat_lit 202, fo "frame_bits" "bitrail.frames" 431 201 (sf p 35)) :: (nat_lit 208, cc "is_complete" "is_complete" 461 98 1 3 203 204 .none (r 205) (r 206) 207 465 466) :: (nat_lit 209, fo "is_complete" "bitrail.frames" 431 208 (sf p 36)) :: (nat_lit 215, cc "told_size" "told_size" 468 100 1 3 210 211 .none (r 212) (r 213) 214 472 473) :: (nat_lit 216, fo "told_size" "bitrail.frames" 431 215 (sf p 37)) :: (nat_lit 220, cc "read_frame" "read_frame" 475 102 1 3 217 218 .none .none .none 219 478 479) :: (nat_lit 221, fo "read_frame" "bitrail.frames" 431 220 (sf p 38)) :: (nat_lit 227, cc "wire_of" "wire_of" 481 111 2 3 222 223 .none (r 224) (r 225) 226 486 487) :: (nat_lit 228, fo "wire_of" "bitrail.frames" 431 227 (sf p 39)) :: (nat_lit 241, cc "__init__" "Count.__init__" 511 120 1 3 236 237 .none (r 238) (r 239) 240 515 516) :: (nat_lit 242, fo "Count.__init__" "bitrail.counts" 489 241 (sub 0 (sf p 45))) :: (nat_lit 248, cc "fault" "Count.fault" 518 123 2 3 243 244 .none (r 245) (r 246) 247 523 524) :: (nat_lit 249, fo "Count.fault" "bitrail.counts" 489 248 (sub 1 (sf p 45))) :: (nat_lit 255, cc "blame" "Count.blame" 526 126 1 3 250 251 .none (r 252) (r 253) 254 530 531) :: (nat_lit 256, fo "Count.blame" "bitrail.counts" 489 255 (sub 2 (sf p 45))) :: (nat_lit 262, cc "good" "Count.good" 533 129 1 3 257 258 .none (r 259) (r 260) 261 537 538) :: (nat_lit 263, fo "Count.good" "bitrail.counts" 489 262 (sub 3 (sf p 45))) :: (nat_lit 269, cc "move" "Count.move" 540 132 2 3 264 265 .none (r 266) (r 267) 268 545 546) :: (nat_lit 270, fo "Count.move" "bitrail.counts" 489 269 (sub 4 (sf p 45))) :: (nat_lit 276, cc "number" "Count.number" 548 136 1 3 271 272 .none (r 273) (r 274) 275 552 553) :: (nat_lit 277, fo "Count.number" "bitrail.counts" 489 276 (sub 5 (sf p 45))) :: (nat_lit 283, cc "is_quiet" "Count.is_quiet" 555 139 1 3 278 279 .none (r 280) (r 281) 282 559 560) :: (nat_lit 284, fo "Count.is_quiet" "bitrail.counts" 489 283 (sub 6 (sf p 45))) :: (nat_lit 290, cc "is_off" "Count.is_off" 562 142 1 3 285 286 .none (r 287) (r 288) 289 566 567) :: (nat_lit 291, fo "Count.is_off" "bitrail.counts" 489 290 (sub 7 (sf p 45))) :: (nat_lit 293, di (t "dict") [e P "__module__" 506 (s "bitrail.counts" 489), e P "__firstlineno__" 510 (i 118 509), e P "__init__" 517 (r 242), e P "fault" 525 (r 249), e P "blame" 532 (r 256), e P "good" 539 (r 263), e P "move" 547 (r 270), e P "number" 554 (r 277), e P "is_quiet" 561 (r 284), e P "is_off" 568 (r 291), e P "__static_attributes__" 570 (r 292), e P "__dict__" 572 (r 295), e P "__weakref__" 574 (r 296), e P "__doc__" 575 .none] 4) :: (nat_lit 294, cl { name := "Count", bases := [t "object"], mro := [r 294, t "object"], ns := 293, qualname := "Count", hasDict := true, subclasses := [] } [.none, .none, o (s "Count" 499), o (s "Count" 507), o (b "object.__new__"), o (.bool true)]) :: (nat_lit 311, cc "__init__" "Reader.__init__" 592 147 1 3 306 307 .none (r 308) (r 309) 310 596 597) :: (nat_lit 312, fo "Reader.__init__" "bitrail.readers" 578 311 (sub 0 (sf p 47))) :: (nat_lit 318, cc "hear" "Reader.hear" 599 152 2 3 313 314 .none (r 315) (r 316) 317 605 606) :: (nat_lit 319, fo "Reader.hear" "bitrail.readers" 578 318 (sub 1 (sf p 47))) :: (nat_lit 325, cc "judged" "Reader.judged" 608 160 1 3 320 321 .none (r 322) (r 323) 324 612 613) :: (nat_lit 326, fo "Reader.judged" "bitrail.readers" 578 325 (sub 2 (sf p 47))) :: (nat_lit 332, cc "plain" "Reader.plain" 615 167 1 3 327 328 .none (r 329) (r 330) 331 619 620) :: (nat_lit 333, fo "Reader.plain" "bitrail.readers" 578 332 (sub 3 (sf p 47))) :: (nat_lit 339, cc "frame" "Reader.frame" 622 170 1 3 334 335 .none (r 336) (r 337) 338 626 627) :: (nat_lit 340, fo "Reader.frame" "bitrail.readers" 578 339 (sub 4 (sf p 47))) :: (nat_lit 342, di (t "dict") [e P "__module__" 587 (s "bitrail.readers" 578), e P "__firstlineno__" 591 (i 145 590), e P "__init__" 598 (r 312), e P "hear" 607 (r 319), e P "judged" 614 (r 326), e P "plain" 621 (r 333), e P "frame" 628 (r 340), e P "__static_attributes__" 632 (r 341), e P "__dict__" 634 (r 344), e P "__weakref__" 636 (r 345), e P "__doc__" 637 .none] 4) :: (nat_lit 343, cl { name := "Reader", bases := [t "object"], mro := [r 343, t "object"], ns := 342, qualname := "Reader", hasDict := true, subclasses := [] } [.none, .none, o (s "Reader" 580), o (s "Reader" 588), o (b "object.__new__"), o (.bool true)]) :: (nat_lit 360, cc "__init__" "Tail.__init__" 658 177 3 3 355 356 .none (r 357) (r 358) 359 664 665) :: (nat_lit 361, fo "Tail.__init__" "bitrail.tails" 640 360 (sub 0 (sf p 51))) :: (nat_lit 367, cc "says" "Tail.says" 667 183 1 3 362 363 .none (r 364) (r 365) 366 671 672) :: (nat_lit 368, fo "Tail.says" "bitrail.tails" 640 367 (sub 1 (sf p 51))) :: (nat_lit 374, cc "hear" "Tail.hear" 674 186 2 3 369 370 .none (r 371) (r 372) 373 680 681) :: (nat_lit 375, fo "Tail.hear" "bitrail.tails" 640 374 (sub 2 (sf p 51))) :: (nat_lit 381, cc "is_fault" "Tail.is_fault" 683 193 3 3 376 377 .none (r 378) (r 379) 380 689 690) :: (nat_lit 382, fo "Tail.is_fault" "bitrail.tails" 640 381 (sub 3 (sf p 51))) :: (nat_lit 388, cc "judged_vote" "Tail.judged_vote" 692 198 2 3 383 384 .none (r 385) (r 386) 387 697 698) :: (nat_lit 389, fo "Tail.judged_vote" "bitrail.tails" 640 388 (sub 4 (sf p 51))) :: (nat_lit 395, cc "place" "Tail.place" 700 205 1 3 390 391 .none (r 392) (r 393) 394 704 705) :: (nat_lit 396, fo "Tail.place" "bitrail.tails" 640 395 (sub 5 (sf p 51))) :: (nat_lit 398, di (t "dict") [e P "__module__" 653 (s "bitrail.tails" 640), e P "__firstlineno__" 657 (i 175 656), e P "__init__" 666 (r 361), e P "says" 673 (r 368), e P "hear" 682 (r 375), e P "is_fault" 691 (r 382), e P "judged_vote" 699 (r 389), e P "place" 706 (r 396), e P "__static_attributes__" 711 (r 397), e P "__dict__" 713 (r 400), e P "__weakref__" 715 (r 401), e P "__doc__" 716 .none] 4) :: (nat_lit 399, cl { name := "Tail", bases := [t "object"], mro := [r 399, t "object"], ns := 398, qualname := "Tail", hasDict := true, subclasses := [r 420, r 439] } [.none, .none, o (s "Tail" 646), o (s "Tail" 654), o (b "object.__new__"), o (.bool true)]) :: (nat_lit 416, cc "__init__" "ReadTail.__init__" 731 209 2 3 411 412 .none (r 413) (r 414) 415 736 737) :: (nat_lit 417, fo "ReadTail.__init__" "bitrail.tails" 640 416 (sub 0 (sf p 52))) :: (nat_lit 419, di (t "dict") [e P "__module__" 726 (s "bitrail.tails" 640), e P "__firstlineno__" 730 (i 207 729), e P "__init__" 738 (r 417), e P "__static_attributes__" 739 (r 418), e P "__doc__" 740 .none] 2) :: (nat_lit 420, cl { name := "ReadTail", bases := [r 399], mro := [r 420, r 399, t "object"], ns := 419, qualname := "ReadTail", hasDict := true, subclasses := [] } [o (r 404), .none, o (s "ReadTail" 719), o (s "ReadTail" 727), o (b "object.__new__"), o (.bool true)]) :: (nat_lit 435, cc "__init__" "SpeakTail.__init__" 755 213 2 3 430 431 .none (r 432) (r 433) 434 760 761) :: (nat_lit 436, fo "SpeakTail.__init__" "bitrail.tails" 640 435 (sub 0 (sf p 53))) :: (nat_lit 438, di (t "dict") [e P "__module__" 750 (s "bitrail.tails" 640), e P "__firstlineno__" 754 (i 211 753), e P "__init__" 762 (r 436), e P "__static_attributes__" 763 (r 437), e P "__doc__" 764 .none] 2) :: (nat_lit 439, cl { name := "SpeakTail", bases := [r 399], mro := [r 439, r 399, t "object"], ns := 438, qualname := "SpeakTail", hasDict := true, subclasses := [] } [o (r 423), .none, o (s "SpeakTail" 743), o (s "SpeakTail" 751), o (b "object.__new__"), o (.bool true)]) :: (nat_lit 447, cc "begun_reader" "begun_reader" 777 220 0 3 442 443 .none (r 444) (r 445) 446 781 782) :: (nat_lit 448, fo "begun_reader" "bitrail.stances" 767 447 (sf p 59)) :: (nat_lit 454, cc "unless_off" "unless_off" 784 224 3 3 449 450 .none (r 451) (r 452) 453 790 791) :: (nat_lit 455, fo "unless_off" "bitrail.stances" 767 454 (sf p 60)) :: (nat_lit 461, cc "fault_of" "fault_of" 793 226 2 3 456 457 .none (r 458) (r 459) 460 798 799) :: (nat_lit 462, fo "fault_of" "bitrail.stances" 767 461 (sf p 61)) :: (nat_lit 468, cc "refusal_of" "refusal_of" 801 229 2 3 463 464 .none (r 465) (r 466) 467 806 807) :: (nat_lit 469, fo "refusal_of" "bitrail.stances" 767 468 (sf p 62)) :: (nat_lit 475, cc "blame_of" "blame_of" 809 232 1 3 470 471 .none (r 472) (r 473) 474 813 814) :: (nat_lit 476, fo "blame_of" "bitrail.stances" 767 475 (sf p 63)) :: (nat_lit 489, cc "__init__" "Free.__init__" 828 237 2 3 484 485 .none (r 486) (r 487) 488 833 834) :: (nat_lit 490, fo "Free.__init__" "bitrail.stances" 767 489 (sub 0 (sf p 64))) :: (nat_lit 496, cc "shown" "Free.shown" 836 240 1 3 491 492 .none (r 493) (r 494) 495 840 841) :: (nat_lit 497, fo "Free.shown" "bitrail.stances" 767 496 (sub 1 (sf p 64))) :: (nat_lit 503, cc "says" "Free.says" 843 243 2 3 498 499 .none (r 500) (r 501) 502 848 849) :: (nat_lit 504, fo "Free.says" "bitrail.stances" 767 503 (sub 2 (sf p 64))) :: (nat_lit 510, cc "step" "Free.step" 851 248 3 3 505 506 .none (r 507) (r 508) 509 858 859) :: (nat_lit 511, fo "Free.step" "bitrail.stances" 767 510 (sub 3 (sf p 64))) :: (nat_lit 513, di (t "dict") [e P "__module__" 823 (s "bitrail.stances" 767), e P "__firstlineno__" 827 (i 235 826), e P "__init__" 835 (r 490), e P "shown" 842 (r 497), e P "says" 850 (r 504), e P "step" 860 (r 511), e P "__static_attributes__" 862 (r 512), e P "__dict__" 864 (r 515), e P "__weakref__" 866 (r 516), e P "__doc__" 867 .none] 4) :: (nat_lit 514, cl { name := "Free", bases := [t "object"], mro := [r 514, t "object"], ns := 513, qualname := "Free", hasDict := true, subclasses := [] } [.none, .none, o (s "Free" 816), o (s "Free" 824), o (b "object.__new__"), o (.bool true)]) :: (nat_lit 531, cc "__init__" "Speaks.__init__" 882 259 4 3 526 527 .none (r 528) (r 529) 530 889 890) :: (nat_lit 532, fo "Speaks.__init__" "bitrail.stances" 767 531 (sub 0 (sf p 65))) :: (nat_lit 538, cc "shown" "Speaks.shown" 892 264 1 3 533 534 .none (r 535) (r 536) 537 896 897) :: (nat_lit 539, fo "Speaks.shown" "bitrail.stances" 767 538 (sub 1 (sf p 65))) :: (nat_lit 545, cc "says" "Speaks.says" 899 267 2 3 540 541 .none (r 542) (r 543) 544 904 905) :: (nat_lit 546, fo "Speaks.says" "bitrail.stances" 767 545 (sub 2 (sf p 65))) :: (nat_lit 552, cc "step" "Speaks.step" 907 270 3 3 547 548 .none (r 549) (r 550) 551 915 916) :: (nat_lit 553, fo "Speaks.step" "bitrail.stances" 767 552 (sub 3 (sf p 65))) :: (nat_lit 555, di (t "dict") [e P "__module__" 877 (s "bitrail.stances" 767), e P "__firstlineno__" 881 (i 257 880), e P "__init__" 891 (r 532), e P "shown" 898 (r 539), e P "says" 906 (r 546), e P "step" 917 (r 553), e P "__static_attributes__" 921 (r 554), e P "__dict__" 923 (r 557), e P "__weakref__" 925 (r 558), e P "__doc__" 926 .none] 4) :: (nat_lit 556, cl { name := "Speaks", bases := [t "object"], mro := [r 556, t "object"], ns := 555, qualname := "Speaks", hasDict := true, subclasses := [] } [.none, .none, o (s "Speaks" 870), o (s "Speaks" 878), o (b "object.__new__"), o (.bool true)]) :: (nat_lit 573, cc "__init__" "Reads.__init__" 941 284 3 3 568 569 .none (r 570) (r 571) 572 947 948) :: (nat_lit 574, fo "Reads.__init__" "bitrail.stances" 767 573 (sub 0 (sf p 66))) :: (nat_lit 580, cc "shown" "Reads.shown" 950 288 1 3 575 576 .none (r 577) (r 578) 579 954 955) :: (nat_lit 581, fo "Reads.shown" "bitrail.stances" 767 580 (sub 1 (sf p 66))) :: (nat_lit 587, cc "says" "Reads.says" 957 291 2 3 582 583 .none (r 584) (r 585) 586 962 963) :: (nat_lit 588, fo "Reads.says" "bitrail.stances" 767 587 (sub 2 (sf p 66))) :: (nat_lit 594, cc "step" "Reads.step" 965 294 3 3 589 590 .none (r 591) (r 592) 593 972 973) :: (nat_lit 595, fo "Reads.step" "bitrail.stances" 767 594 (sub 3 (sf p 66))) :: (nat_lit 597, di (t "dict") [e P "__module__" 936 (s "bitrail.stances" 767), e P "__firstlineno__" 940 (i 282 939), e P "__init__" 949 (r 574), e P "shown" 956 (r 581), e P "says" 964 (r 588), e P "step" 974 (r 595), e P "__static_attributes__" 977 (r 596), e P "__dict__" 979 (r 599), e P "__weakref__" 981 (r 600), e P "__doc__" 982 .none] 4) :: (nat_lit 598, cl { name := "Reads", bases := [t "object"], mro := [r 598, t "object"], ns := 597, qualname := "Reads", hasDict := true, subclasses := [] } [.none, .none, o (s "Reads" 929), o (s "Reads" 937), o (b "object.__new__"), o (.bool true)]) :: (nat_lit 615, cc "__init__" "InTail.__init__" 997 303 3 3 610 611 .none (r 612) (r 613) 614 1003 1004) :: (nat_lit 616, fo "InTail.__init__" "bitrail.stances" 767 615 (sub 0 (sf p 67))) :: (nat_lit 622, cc "shown" "InTail.shown" 1006 307 1 3 617 618 .none (r 619) (r 620) 621 1010 1011) :: (nat_lit 623, fo "InTail.shown" "bitrail.stances" 767 622 (sub 1 (sf p 67))) :: (nat_lit 629, cc "says" "InTail.says" 1013 310 2 3 624 625 .none (r 626) (r 627) 628 1018 1019) :: (nat_lit 630, fo "InTail.says" "bitrail.stances" 767 629 (sub 2 (sf p 67))) :: (nat_lit 636, cc "step" "InTail.step" 1021 313 3 3 631 632 .none (r 633) (r 634) 635 1028 1029) :: (nat_lit 637, fo "InTail.step" "bitrail.stances" 767 636 (sub 3 (sf p 67))) :: (nat_lit 639, di (t "dict") [e P "__module__" 992 (s "bitrail.stances" 767), e P "__firstlineno__" 996 (i 301 995), e P "__init__" 1005 (r 616), e P "shown" 1012 (r 623), e P "says" 1020 (r 630), e P "step" 1030 (r 637), e P "__static_attributes__" 1033 (r 638), e P "__dict__" 1035 (r 641), e P "__weakref__" 1037 (r 642), e P "__doc__" 1038 .none] 4) :: (nat_lit 640, cl { name := "InTail", bases := [t "object"], mro := [r 640, t "object"], ns := 639, qualname := "InTail", hasDict := true, subclasses := [] } [.none, .none, o (s "InTail" 985), o (s "InTail" 993), o (b "object.__new__"), o (.bool true)]) :: (nat_lit 657, cc "__init__" "Flagging.__init__" 1053 329 3 3 652 653 .none (r 654) (r 655) 656 1059 1060) :: (nat_lit 658, fo "Flagging.__init__" "bitrail.stances" 767 657 (sub 0 (sf p 68))) :: (nat_lit 664, cc "shown" "Flagging.shown" 1062 333 1 3 659 660 .none (r 661) (r 662) 663 1066 1067) :: (nat_lit 665, fo "Flagging.shown" "bitrail.stances" 767 664 (sub 1 (sf p 68))) :: (nat_lit 671, cc "says" "Flagging.says" 1069 336 2 3 666 667 .none (r 668) (r 669) 670 1074 1075) :: (nat_lit 672, fo "Flagging.says" "bitrail.stances" 767 671 (sub 2 (sf p 68))) :: (nat_lit 678, cc "step" "Flagging.step" 1077 339 3 3 673 674 .none (r 675) (r 676) 677 1083 1084) :: (nat_lit 679, fo "Flagging.step" "bitrail.stances" 767 678 (sub 3 (sf p 68))) :: (nat_lit 681, di (t "dict") [e P "__module__" 1048 (s "bitrail.stances" 767), e P "__firstlineno__" 1052 (i 327 1051), e P "__init__" 1061 (r 658), e P "shown" 1068 (r 665), e P "says" 1076 (r 672), e P "step" 1085 (r 679), e P "__static_attributes__" 1088 (r 680), e P "__dict__" 1090 (r 683), e P "__weakref__" 1092 (r 684), e P "__doc__" 1093 .none] 4) :: (nat_lit 682, cl { name := "Flagging", bases := [t "object"], mro := [r 682, t "object"], ns := 681, qualname := "Flagging", hasDict := true, subclasses := [] } [.none, .none, o (s "Flagging" 1041), o (s "Flagging" 1049), o (b "object.__new__"), o (.bool true)]) :: (nat_lit 699, cc "__init__" "Settles.__init__" 1108 345 2 3 694 695 .none (r 696) (r 697) 698 1113 1114) :: (nat_lit 700, fo "Settles.__init__" "bitrail.stances" 767 699 (sub 0 (sf p 69))) :: (nat_lit 706, cc "shown" "Settles.shown" 1116 348 1 3 701 702 .none (r 703) (r 704) 705 1120 1121) :: (nat_lit 707, fo "Settles.shown" "bitrail.stances" 767 706 (sub 1 (sf p 69))) :: (nat_lit 713, cc "says" "Settles.says" 1123 351 2 3 708 709 .none (r 710) (r 711) 712 1128 1129) :: (nat_lit 714, fo "Settles.says" "bitrail.stances" 767 713 (sub 2 (sf p 69))) :: (nat_lit 720, cc "step" "Settles.step" 1131 354 3 3 715 716 .none (r 717) (r 718) 719 1137 1138) :: (nat_lit 721, fo "Settles.step" "bitrail.stances" 767 720 (sub 3 (sf p 69))) :: (nat_lit 723, di (t "dict") [e P "__module__" 1103 (s "bitrail.stances" 767), e P "__firstlineno__" 1107 (i 343 1106), e P "__init__" 1115 (r 700), e P "shown" 1122 (r 707), e P "says" 1130 (r 714), e P "step" 1139 (r 721), e P "__static_attributes__" 1141 (r 722), e P "__dict__" 1143 (r 725), e P "__weakref__" 1145 (r 726), e P "__doc__" 1146 .none] 4) :: (nat_lit 724, cl { name := "Settles", bases := [t "object"], mro := [r 724, t "object"], ns := 723, qualname := "Settles", hasDict := true, subclasses := [] } [.none, .none, o (s "Settles" 1096), o (s "Settles" 1104), o (b "object.__new__"), o (.bool true)]) :: (nat_lit 741, cc "__init__" "Rests.__init__" 1161 362 2 3 736 737 .none (r 738) (r 739) 740 1166 1167) :: (nat_lit 742, fo "Rests.__init__" "bitrail.stances" 767 741 (sub 0 (sf p 70))) :: (nat_lit 748, cc "shown" "Rests.shown" 1169 365 1 3 743 744 .none (r 745) (r 746) 747 1173 1174) :: (nat_lit 749, fo "Rests.shown" "bitrail.stances" 767 748 (sub 1 (sf p 70))) :: (nat_lit 755, cc "says" "Rests.says" 1176 368 2 3 750 751 .none (r 752) (r 753) 754 1181 1182) :: (nat_lit 756, fo "Rests.says" "bitrail.stances" 767 755 (sub 2 (sf p 70))) :: (nat_lit 762, cc "step" "Rests.step" 1184 371 3 3 757 758 .none (r 759) (r 760) 761 1190 1191) :: (nat_lit 763, fo "Rests.step" "bitrail.stances" 767 762 (sub 3 (sf p 70))) :: (nat_lit 765, di (t "dict") [e P "__module__" 1156 (s "bitrail.stances" 767), e P "__firstlineno__" 1160 (i 360 1159), e P "__init__" 1168 (r 742), e P "shown" 1175 (r 749), e P "says" 1183 (r 756), e P "step" 1192 (r 763), e P "__static_attributes__" 1194 (r 764), e P "__dict__" 1196 (r 767), e P "__weakref__" 1198 (r 768), e P "__doc__" 1199 .none] 4) :: (nat_lit 766, cl { name := "Rests", bases := [t "object"], mro := [r 766, t "object"], ns := 765, qualname := "Rests", hasDict := true, subclasses := [] } [.none, .none, o (s "Rests" 1149), o (s "Rests" 1157), o (b "object.__new__"), o (.bool true)]) :: (nat_lit 783, cc "shown" "Off.shown" 1214 377 1 3 778 779 .none (r 780) (r 781) 782 1218 1219) :: (nat_lit 784, fo "Off.shown" "bitrail.stances" 767 783 (sub 0 (sf p 71))) :: (nat_lit 790, cc "says" "Off.says" 1221 380 2 3 785 786 .none (r 787) (r 788) 789 1226 1227) :: (nat_lit 791, fo "Off.says" "bitrail.stances" 767 790 (sub 1 (sf p 71))) :: (nat_lit 797, cc "step" "Off.step" 1229 383 3 3 792 793 .none (r 794) (r 795) 796 1235 1236) :: (nat_lit 798, fo "Off.step" "bitrail.stances" 767 797 (sub 2 (sf p 71))) :: (nat_lit 800, di (t "dict") [e P "__module__" 1209 (s "bitrail.stances" 767), e P "__firstlineno__" 1213 (i 375 1212), e P "shown" 1220 (r 784), e P "says" 1228 (r 791), e P "step" 1237 (r 798), e P "__static_attributes__" 1238 (r 799), e P "__dict__" 1240 (r 802), e P "__weakref__" 1242 (r 803), e P "__doc__" 1243 .none] 4) :: (nat_lit 801, cl { name := "Off", bases := [t "object"], mro := [r 801, t "object"], ns := 800, qualname := "Off", hasDict := true, subclasses := [] } [.none, .none, o (s "Off" 1202), o (s "Off" 1210), o (b "object.__new__"), o (.bool true)]) :: (nat_lit 806, tp [i 1 1248, i 3 1249, i 5 1250]) :: (nat_lit 812, cc "check_votes" "check_votes" 1252 387 1 3 807 808 .none (r 809) (r 810) 811 1256 1257) :: (nat_lit 813, fo "check_votes" "bitrail.posts" 1246 812 (sf p 74)) :: (nat_lit 819, cc "check_choice" "check_choice" 1259 390 1 3 814 815 .none (r 816) (r 817) 818 1263 1264) :: (nat_lit 820, fo "check_choice" "bitrail.posts" 1246 819 (sf p 75)) :: (nat_lit 824, cc "copies" "copies" 1266 393 1 3 821 822 .none .none .none 823 1269 1270) :: (nat_lit 825, fo "copies" "bitrail.posts" 1246 824 (sf p 76)) :: (nat_lit 838, cc "__init__" "Post.__init__" 1284 397 3 3 833 834 .none (r 835) (r 836) 837 1290 1291) :: (nat_lit 839, fo "Post.__init__" "bitrail.posts" 1246 838 (sub 0 (sf p 77))) :: (nat_lit 845, cc "hand" "Post.hand" 1293 407 3 3 840 841 .none (r 842) (r 843) 844 1299 1300) :: (nat_lit 846, fo "Post.hand" "bitrail.posts" 1246 845 (sub 1 (sf p 77))) :: (nat_lit 852, cc "says" "Post.says" 1302 411 1 3 847 848 .none (r 849) (r 850) 851 1306 1307) :: (nat_lit 853, fo "Post.says" "bitrail.posts" 1246 852 (sub 2 (sf p 77))) :: (nat_lit 859, cc "hear" "Post.hear" 1309 414 2 3 854 855 .none (r 856) (r 857) 858 1315 1316) :: (nat_lit 860, fo "Post.hear" "bitrail.posts" 1246 859 (sub 3 (sf p 77))) :: (nat_lit 866, cc "stance" "Post.stance" 1318 419 1 3 861 862 .none (r 863) (r 864) 865 1322 1323) :: (nat_lit 867, fo "Post.stance" "bitrail.posts" 1246 866 (sub 4 (sf p 77))) :: (nat_lit 873, cc "waits" "Post.waits" 1325 422 1 3 868 869 .none (r 870) (r 871) 872 1329 1330) :: (nat_lit 874, fo "Post.waits" "bitrail.posts" 1246 873 (sub 5 (sf p 77))) :: (nat_lit 880, cc "got" "Post.got" 1332 425 1 3 875 876 .none (r 877) (r 878) 879 1336 1337) :: (nat_lit 881, fo "Post.got" "bitrail.posts" 1246 880 (sub 6 (sf p 77))) :: (nat_lit 887, cc "faults" "Post.faults" 1339 428 1 3 882 883 .none (r 884) (r 885) 886 1343 1344) :: (nat_lit 888, fo "Post.faults" "bitrail.posts" 1246 887 (sub 7 (sf p 77))) :: (nat_lit 894, cc "is_quiet" "Post.is_quiet" 1346 431 1 3 889 890 .none (r 891) (r 892) 893 1350 1351) :: (nat_lit 895, fo "Post.is_quiet" "bitrail.posts" 1246 894 (sub 8 (sf p 77))) :: (nat_lit 901, cc "is_off" "Post.is_off" 1353 434 1 3 896 897 .none (r 898) (r 899) 900 1357 1358) :: (nat_lit 902, fo "Post.is_off" "bitrail.posts" 1246 901 (sub 9 (sf p 77))) :: (nat_lit 908, cc "has_frame" "Post.has_frame" 1360 437 1 3 903 904 .none (r 905) (r 906) 907 1364 1365) :: (nat_lit 909, fo "Post.has_frame" "bitrail.posts" 1246 908 (sub 10 (sf p 77))) :: (nat_lit 915, cc "foremost_wire" "Post.foremost_wire" 1367 440 1 3 910 911 .none (r 912) (r 913) 914 1371 1372) :: (nat_lit 916, fo "Post.foremost_wire" "bitrail.posts" 1246 915 (sub 11 (sf p 77))) :: (nat_lit 922, cc "drop_foremost" "Post.drop_foremost" 1374 443 1 3 917 918 .none (r 919) (r 920) 921 1378 1379) :: (nat_lit 923, fo "Post.drop_foremost" "bitrail.posts" 1246 922 (sub 12 (sf p 77))) :: (nat_lit 929, cc "hand_up" "Post.hand_up" 1381 446 2 3 924 925 .none (r 926) (r 927) 928 1386 1387) :: (nat_lit 930, fo "Post.hand_up" "bitrail.posts" 1246 929 (sub 13 (sf p 77))) :: (nat_lit 932, di (t "dict") [e P "__module__" 1279 (s "bitrail.posts" 1246), e P "__firstlineno__" 1283 (i 395 1282), e P "__init__" 1292 (r 839), e P "hand" 1301 (r 846), e P "says" 1308 (r 853), e P "hear" 1317 (r 860), e P "stance" 1324 (r 867), e P "waits" 1331 (r 874), e P "got" 1338 (r 881), e P "faults" 1345 (r 888), e P "is_quiet" 1352 (r 895), e P "is_off" 1359 (r 902), e P "has_frame" 1366 (r 909), e P "foremost_wire" 1373 (r 916), e P "drop_foremost" 1380 (r 923), e P "hand_up" 1388 (r 930), e P "__static_attributes__" 1395 (r 931), e P "__dict__" 1397 (r 934), e P "__weakref__" 1399 (r 935), e P "__doc__" 1400 .none] 4) :: (nat_lit 933, cl { name := "Post", bases := [t "object"], mro := [r 933, t "object"], ns := 932, qualname := "Post", hasDict := true, subclasses := [] } [.none, .none, o (s "Post" 1272), o (s "Post" 1280), o (b "object.__new__"), o (.bool true)]) :: (nat_lit 948, cc "__init__" "Rail.__init__" 1419 453 3 3 945 946 .none .none .none 947 1422 1423) :: (nat_lit 949, fo "Rail.__init__" "bitrail.rails" 1403 948 (sub 0 (sf p 80))) :: (nat_lit 955, cc "hand" "Rail.hand" 1425 463 4 3 950 951 .none (r 952) (r 953) 954 1433 1434) :: (nat_lit 956, fo "Rail.hand" "bitrail.rails" 1403 955 (sub 1 (sf p 80))) :: (nat_lit 962, cc "turn" "Rail.turn" 1436 471 2 3 957 958 .none (r 959) (r 960) 961 1443 1444) :: (nat_lit 963, fo "Rail.turn" "bitrail.rails" 1403 962 (sub 2 (sf p 80))) :: (nat_lit 967, cc "run" "Rail.run" 1446 477 3 3 964 965 .none .none .none 966 1449 1450) :: (nat_lit 968, fo "Rail.run" "bitrail.rails" 1403 967 (sub 3 (sf p 80))) :: (nat_lit 972, cc "make_turn" "Rail.make_turn" 1452 481 2 3 969 970 .none .none .none 971 1455 1456) :: (nat_lit 973, fo "Rail.make_turn" "bitrail.rails" 1403 972 (sub 4 (sf p 80))) :: (nat_lit 979, cc "post_at" "Rail.post_at" 1458 494 2 3 974 975 .none (r 976) (r 977) 978 1463 1464) :: (nat_lit 980, fo "Rail.post_at" "bitrail.rails" 1403 979 (sub 5 (sf p 80))) :: (nat_lit 986, cc "turns" "Rail.turns" 1466 499 1 3 981 982 .none (r 983) (r 984) 985 1470 1471) :: (nat_lit 987, fo "Rail.turns" "bitrail.rails" 1403 986 (sub 6 (sf p 80))) :: (nat_lit 993, cc "bits" "Rail.bits" 1473 502 1 3 988 989 .none (r 990) (r 991) 992 1477 1478) :: (nat_lit 994, fo "Rail.bits" "bitrail.rails" 1403 993 (sub 7 (sf p 80))) :: (nat_lit 1000, cc "said" "Rail.said" 1480 505 2 3 995 996 .none (r 997) (r 998) 999 1485 1486) :: (nat_lit 1001, fo "Rail.said" "bitrail.rails" 1403 1000 (sub 8 (sf p 80))) :: (nat_lit 1007, cc "heard" "Rail.heard" 1488 509 2 3 1002 1003 .none (r 1004) (r 1005) 1006 1493 1494) :: (nat_lit 1008, fo "Rail.heard" "bitrail.rails" 1403 1007 (sub 9 (sf p 80))) :: (nat_lit 1014, cc "events" "Rail.events" 1496 513 1 3 1009 1010 .none (r 1011) (r 1012) 1013 1500 1501) :: (nat_lit 1015, fo "Rail.events" "bitrail.rails" 1403 1014 (sub 10 (sf p 80))) :: (nat_lit 1021, cc "stance" "Rail.stance" 1503 516 2 3 1016 1017 .none (r 1018) (r 1019) 1020 1508 1509) :: (nat_lit 1022, fo "Rail.stance" "bitrail.rails" 1403 1021 (sub 11 (sf p 80))) :: (nat_lit 1028, cc "waits" "Rail.waits" 1511 519 2 3 1023 1024 .none (r 1025) (r 1026) 1027 1516 1517) :: (nat_lit 1029, fo "Rail.waits" "bitrail.rails" 1403 1028 (sub 12 (sf p 80))) :: (nat_lit 1035, cc "got" "Rail.got" 1519 522 2 3 1030 1031 .none (r 1032) (r 1033) 1034 1524 1525) :: (nat_lit 1036, fo "Rail.got" "bitrail.rails" 1403 1035 (sub 13 (sf p 80))) :: (nat_lit 1042, cc "faults" "Rail.faults" 1527 525 2 3 1037 1038 .none (r 1039) (r 1040) 1041 1532 1533) :: (nat_lit 1043, fo "Rail.faults" "bitrail.rails" 1403 1042 (sub 14 (sf p 80))) :: (nat_lit 1049, cc "is_quiet" "Rail.is_quiet" 1535 528 2 3 1044 1045 .none (r 1046) (r 1047) 1048 1540 1541) :: (nat_lit 1050, fo "Rail.is_quiet" "bitrail.rails" 1403 1049 (sub 15 (sf p 80))) :: (nat_lit 1056, cc "is_off" "Rail.is_off" 1543 531 2 3 1051 1052 .none (r 1053) (r 1054) 1055 1548 1549) :: (nat_lit 1057, fo "Rail.is_off" "bitrail.rails" 1403 1056 (sub 16 (sf p 80))) :: (nat_lit 1059, di (t "dict") [e P "__module__" 1414 (s "bitrail.rails" 1403), e P "__firstlineno__" 1418 (i 451 1417), e P "__init__" 1424 (r 949), e P "hand" 1435 (r 956), e P "turn" 1445 (r 963), e P "run" 1451 (r 968), e P "make_turn" 1457 (r 973), e P "post_at" 1465 (r 980), e P "turns" 1472 (r 987), e P "bits" 1479 (r 994), e P "said" 1487 (r 1001), e P "heard" 1495 (r 1008), e P "events" 1502 (r 1015), e P "stance" 1510 (r 1022), e P "waits" 1518 (r 1029), e P "got" 1526 (r 1036), e P "faults" 1534 (r 1043), e P "is_quiet" 1542 (r 1050), e P "is_off" 1550 (r 1057), e P "__static_attributes__" 1557 (r 1058), e P "__dict__" 1559 (r 1061), e P "__weakref__" 1561 (r 1062), e P "__doc__" 1562 .none] 4) :: (nat_lit 1060, cl { name := "Rail", bases := [t "object"], mro := [r 1060, t "object"], ns := 1059, qualname := "Rail", hasDict := true, subclasses := [] } [.none, .none, o (s "Rail" 1407), o (s "Rail" 1415), o (b "object.__new__"), o (.bool true)]) :: (nat_lit 1070, cc "heard_well" "heard_well" 1565 533 3 3 1065 1066 .none (r 1067) (r 1068) 1069 1571 1572) :: (nat_lit 1071, fo "heard_well" "bitrail.rails" 1403 1070 (sf p 81)) :: (nat_lit 1077, cc "ear" "ear" 1576 536 1 3 1072 1073 .none (r 1074) (r 1075) 1076 1583 1584) :: (nat_lit 1078, fo "ear" "bitrail.ears" 1574 1077 (sf p 83)) :: (nat_lit 1084, cc "_law_draw" "_law_draw" 1588 545 3 3 1079 1080 .none (r 1081) (r 1082) 1083 1596 1597) :: (nat_lit 1085, fo "_law_draw" "law_bitrail_k51_the_rails_tape" 1586 1084 (sf p 85)) :: (nat_lit 1091, cc "_law_choices" "_law_choices" 1599 549 2 3 1086 1087 .none (r 1088) (r 1089) 1090 1607 1608) :: (nat_lit 1092, fo "_law_choices" "law_bitrail_k51_the_rails_tape" 1586 1091 (sf p 86)) :: (nat_lit 1098, cc "_law_frames" "_law_frames" 1610 555 3 3 1093 1094 .none (r 1095) (r 1096) 1097 1620 1621) :: (nat_lit 1099, fo "_law_frames" "law_bitrail_k51_the_rails_tape" 1586 1098 (sf p 87)) :: (nat_lit 1105, cc "_law_wrong" "_law_wrong" 1623 562 2 3 1100 1101 .none (r 1102) (r 1103) 1104 1632 1633) :: (nat_lit 1106, fo "_law_wrong" "law_bitrail_k51_the_rails_tape" 1586 1105 (sf p 88)) :: (nat_lit 1112, cc "_law_bits" "_law_bits" 1635 573 2 3 1107 1108 .none (r 1109) (r 1110) 1111 1641 1642) :: (nat_lit 1113, fo "_law_bits" "law_bitrail_k51_the_rails_tape" 1586 1112 (sf p 89)) :: (nat_lit 1117, cc "_law_tape" "_law_tape" 1644 580 3 3 1114 1115 .none .none .none 1116 1647 1648) :: (nat_lit 1118, fo "_law_tape" "law_bitrail_k51_the_rails_tape" 1586 1117 (sf p 90)) :: (nat_lit 1124, cc "_law_events" "_law_events" 1650 594 3 3 1119 1120 .none (r 1121) (r 1122) 1123 1659 1660) :: (nat_lit 1125, fo "_law_events" "law_bitrail_k51_the_rails_tape" 1586 1124 (sf p 91)) :: (nat_lit 1131, cc "_law_whole" "_law_whole" 1662 606 2 3 1126 1127 .none (r 1128) (r 1129) 1130 1669 1670) :: (nat_lit 1132, fo "_law_whole" "law_bitrail_k51_the_rails_tape" 1586 1131 (sf p 92)) :: (nat_lit 1138, cc "_law_ran" "_law_ran" 1672 612 4 3 1133 1134 .none (r 1135) (r 1136) 1137 1687 1688) :: (nat_lit 1139, fo "_law_ran" "law_bitrail_k51_the_rails_tape" 1586 1138 (sf p 93)) :: (nat_lit 1145, cc "_law_turned" "_law_turned" 1690 629 5 3 1140 1141 .none (r 1142) (r 1143) 1144 1703 1704) :: (nat_lit 1146, fo "_law_turned" "law_bitrail_k51_the_rails_tape" 1586 1145 (sf p 94)) :: (nat_lit 1150, cc "law" "law" 1706 645 1 3 1147 1148 .none .none .none 1149 1709 1710) :: (nat_lit 1151, fo "law" "law_bitrail_k51_the_rails_tape" 1586 1150 (sf p 95)) :: []
noncomputable def KA (P:Params):Frag:=(nat_lit 958,fi .none [])::(nat_lit 1073,fi .none [])::(nat_lit 1134,fi .none [])::K P
noncomputable def as:List Addr:=958::1073::1134::2::3::4::23::24::36::37::48::49::60::61::72::73::84::85::91::92::98::99::103::104::110::111::117::118::124::125::131::132::138::139::152::153::159::160::166::167::173::174::176::177::187::188::194::195::201::202::208::209::215::216::220::221::227::228::241::242::248::249::255::256::262::263::269::270::276::277::283::284::290::291::293::294::311::312::318::319::325::326::332::333::339::340::342::343::360::361::367::368::374::375::381::382::388::389::395::396::398::399::416::417::419::420::435::436::438::439::447::448::454::455::461::462::468::469::475::476::489::490::496::497::503::504::510::511::513::514::531::532::538::539::545::546::552::553::555::556::573::574::580::581::587::588::594::595::597::598::615::616::622::623::629::630::636::637::639::640::657::658::664::665::671::672::678::679::681::682::699::700::706::707::713::714::720::721::723::724::741::742::748::749::755::756::762::763::765::766::783::784::790::791::797::798::800::801::806::812::813::819::820::824::825::838::839::845::846::852::853::859::860::866::867::873::874::880::881::887::888::894::895::901::902::908::909::915::916::922::923::929::930::932::933::948::949::955::956::962::963::967::968::972::973::979::980::986::987::993::994::1000::1001::1007::1008::1014::1015::1021::1022::1028::1029::1035::1036::1042::1043::1049::1050::1056::1057::1059::1060::1070::1071::1077::1078::1084::1085::1091::1092::1098::1099::1105::1106::1112::1113::1117::1118::1124::1125::1131::1132::1138::1139::1145::1146::1150::1151::[]
noncomputable def L (P:Params):List (Nat×Obj):=KA P
def K_L (P:Params):KA P=L P:=rfl
def K_as (P:Params):as=(KA P).map (·.1):=by kernel_rfl
def qv:Program:=view p [95]
def loose:List Str:="RailError"::"NoBits"::"NoName"::"NoKey"::"NoFrame"::"NoPost"::"HIGHEST_BYTE"::"bits_of"::"number_of"::"are_bytes"::"divided"::"KEY"::"CHECK_BITS"::"rest_of"::"check_of"::"NAME_BITS"::"HIGHEST_NAME"::"is_name"::"is_wanted"::"MOST_ALIKE"::"Streak"::"put_in"::"SIZE_AT"::"SIZE_BITS"::"DATA_AT"::"BYTE_BITS"::"MOST_BYTES"::"check_frame"::"frame_bits"::"is_complete"::"told_size"::"read_frame"::"wire_of"::"GREAT_FAULT"::"SMALL_FAULT"::"QUIET_FROM"::"OFF_FROM"::"Count"::"Reader"::"ANSWER_AT"::"VOTES_AT"::"Tail"::"ReadTail"::"SpeakTail"::"FLAG_BITS"::"REST_TURNS"::"QUIET_TURNS"::"DUEL_BITS"::"begun_reader"::"unless_off"::"fault_of"::"refusal_of"::"blame_of"::"Free"::"Speaks"::"Reads"::"InTail"::"Flagging"::"Settles"::"Rests"::"Off"::"VOTES"::"check_votes"::"check_choice"::"copies"::"Post"::"MOST_POSTS"::"Rail"::"heard_well"::"ear"::"_law_draw"::"_law_choices"::"_law_frames"::"_law_wrong"::"_law_bits"::"_law_tape"::"_law_events"::"_law_whole"::"_law_ran"::"_law_turned"::[]
abbrev N:Nat:=8599
def b4M:∀w:World,(fencedOpening treeTable p w N).map (fun s=>(s.heap,s.gens,s.drawn,s.toks))=some (boot_heap w.params,Array.mk [],boot_drawn,boot_toks):=boot_open (by kernel_rfl) (by decide) (fun s=>by kernel_rfl)
def ann:Option Value:=some (.ref 6)
def whole (w:World)(os:OsState):=(segRunT treeTable p w 11 ann 0 N (S w os) (topStub p)).map fun r=>look p qv loose (xlAt qv []) as (boot_heap w.params) r.2.1
def good (w:World)(_:OsState):=some (true,openGood qv loose,((L w.params).map fun p=>p.2).map some)
def sz (w : World) := ((boot_heap w.params).isNs mainGlobals, (boot_heap w.params).objs.size, (boot_heap w.params).nsMap mainGlobals "__annotations__")
def sg (_:World):=(true,11,ann)
def a8Y:whole=whole:=rfl
def b5M:good=good:=rfl
def b9X:sz=sz:=rfl
noncomputable def _root_.PySem.W.Fast.tw3526825323137609506:Program:=PySem.Challenge.pw_bitrail_k51_the_rails_tape
theorem _root_.PySem.W.Fast.te3526825323137609506:PySem.Challenge.pw_bitrail_k51_the_rails_tape=PySem.W.Fast.tw3526825323137609506:=rfl
noncomputable def _root_.PySem.W.Fast.tw9140266817696972190:Params->List (Nat×Obj):=Hd.L
def _root_.PySem.W.Fast.te9140266817696972190:Hd.L=PySem.W.Fast.tw9140266817696972190:=rfl
noncomputable def _root_.PySem.W.Fast.tw7625976266985363445:List Str:=Hd.loose
def _root_.PySem.W.Fast.te7625976266985363445:Hd.loose=PySem.W.Fast.tw7625976266985363445:=rfl
name_quick wq for whole by a8Y
name_quick gq for good by b5M
name_quick zq for sz by b9X
def z_g (w:World):PySem.W.Fast.zq w=sg w:=by kernel_rfl
def w_g (w:World):PySem.W.Fast.wq w=PySem.W.Fast.gq w:=by kernel_rfl
def b8J:LeftO p qv loose (xlAt qv []) (fun s=>as.map s.heap.get?) (fun w=>((L w.params).map fun p=>p.2).map some) N:=zA S b4M (fun w=>(congrFun PySem.W.Fast.zq_eq w).trans (z_g w)) b9A fun w=>((congrFun PySem.W.Fast.wq_eq w).trans (w_g w)).trans (congrFun PySem.W.Fast.gq_eq w).symm
def left:LeftO p qv loose (xlAt qv []) (fun s=>as.map s.heap.get?) (fun w=>(KA w.params).map fun p=>some p.2) N:=fun w=>(b8J w).trans (by show some (_,((L w.params).map _).map _)=some (_,(KA w.params).map _);rw[K_L,List.map_map];rfl)
def tc:List (Addr×Addr):=[(962,958),(1077,1073),(1138,1134)]
def tabs (w:World)(h:Heap)(Y:InK KA w h):(K w.params).In h/\∀q∈tc,(K w.params).lookup q.2=none/\h.get? q.2=some (tabObj #[])/\codeHdIn (K w.params) q.1 q.2=true:=by
 have n958:(K w.params).lookup 958=none:=by kernel_rfl
 have n1073:(K w.params).lookup 1073=none:=by kernel_rfl
 have n1134:(K w.params).lookup 1134=none:=by kernel_rfl
 have t958:h.get? 958=some (tabObj #[]):=Y 958 _ (by kernel_rfl)
 have t1073:h.get? 1073=some (tabObj #[]):=Y 1073 _ (by kernel_rfl)
 have t1134:h.get? 1134=some (tabObj #[]):=Y 1134 _ (by kernel_rfl)
 have c958:codeHdIn (K w.params) 962 958=true:=by kernel_rfl
 have c1073:codeHdIn (K w.params) 1077 1073=true:=by kernel_rfl
 have c1134:codeHdIn (K w.params) 1138 1134=true:=by kernel_rfl
 refine⟨fun a o e=>Y a o ?_,fun q hq=>?_⟩
 ·show List.lookup a (((958:Nat),fi .none [])::((1073:Nat),fi .none [])::((1134:Nat),fi .none [])::K w.params)=some o
  rw[Y9]
  have e958:(a == 958)=false:=YZ.mpr fun z=>by rw[z,n958]at e;cases e
  rw[e958]
  rw[Y9]
  have e1073:(a == 1073)=false:=YZ.mpr fun z=>by rw[z,n1073]at e;cases e
  rw[e1073]
  rw[Y9]
  have e1134:(a == 1134)=false:=YZ.mpr fun z=>by rw[z,n1134]at e;cases e
  rw[e1134]
  exact e
 ·have hq:q∈([(962,958),(1077,1073),(1138,1134)]:List (Addr×Addr)):=hq
  simp only[Yt,XM,or_false]at hq
  rcases hq with rfl | rfl | rfl
  ·exact⟨n958,t958,c958⟩
  ·exact⟨n1073,t1073,c1073⟩
  ·exact⟨n1134,t1134,c1134⟩
def dl:DefRec:=dr (sf p 95)
def da:=(defOf qv "law",p.theDef "law")
def db:=(some (dl,([]:List (Str×PySem.Expr))),some (dl.params,dl.body,dl.scope))
def c0X:da=da:=rfl
def c0W:db=db:=rfl
name_quick daq for da by c0X
name_quick dbq for db by c0W
def d_q:PySem.W.Fast.daq=PySem.W.Fast.dbq:=by kernel_rfl
def d_e:da=db:=PySem.W.Fast.daq_eq.trans (d_q.trans PySem.W.Fast.dbq_eq.symm)
def dl_1:defOf qv "law"=some (dl, []):=YJ Prod.fst d_e
def dl_2:p.theDef "law"=some (dl.params,dl.body,dl.scope):=YJ Prod.snd d_e
end
end Hd
set_option Elab.async false
set_option linter.all false
set_option maxRecDepth 100000
namespace L2
open PySem PySem.Spec PyProof.Rows
variable {us:List Value}{x:Str}{u:Value}{a:Addr}{b:Addr}{P:Program}{w:World}{h:Heap}{t':Nat}{i:Nat}{j:Nat}{e:Expr}{A:Around}{E:Value->Shared->Prop}{s:Shared}{pos:Pos}{v:Value}{op:CmpOp}{c:Expr}{K:W.Frag}{pins:List (Addr×Obj)}{tg:Expr}{p:Pos}{fp:List Addr}{dx:Addr}{mA:Str->Option Value}{C:Addr}{f:Addr}{k:Nat}{fd:FuncData}{ps:List Str}{kindOf:Str->Option NameKind}{h':Heap}{es:List Expr}
abbrev Key:=Sum Int Str
def sX:Key->Value->Bool
 |.inl k,v=>Value.isInt k v
 |.inr x,v=>Value.isStrOf x v
def c0O (w:World):Key->Int
 |.inl k=>hashInt k
 |.inr x=>hashStr w x
theorem dR:∀{k:Key}{v:Value},sX k v=true->(∃i t,k=Sum.inl i/\v=Value.int i t)\/(∃x t,k=Sum.inr x/\v=Value.str x t)
 | .inl i,v,h=>by
  obtain⟨t,e⟩:=Value.isInt_shape (k:=i) (v:=v) h
  exact .inl ⟨i,t,rfl,e⟩
 | .inr x,v,h=>by
  obtain⟨t,e⟩:=Value.isStrOf_shape (x:=x) (v:=v) h
  exact .inr ⟨x,t,rfl,e⟩
def a3H (i:Int)(t:Tok):sX (.inl i) (.int i t)=true:=by simp[sX,Value.isInt]
def a3G (x:Str)(t:Tok):sX (.inr x) (.str x t)=true:=by simp[sX,Value.isStrOf]
def b5I (a b:Int):decide ((Sum.inl a:Key)=Sum.inl b)=(a == b):=by
 by_cases e:a=b
 ·subst e;simp
 ·have h:¬ (Sum.inl a:Key)=Sum.inl b:=fun q=>e (Sum.inl.inj q)
  rw[Yr h]
  exact(YZ.mpr e).symm
def b5F (a b:Str):decide ((Sum.inr a:Key)=Sum.inr b)=decide (a=b):=by
 by_cases e:a=b
 ·subst e;simp
 ·have h:¬ (Sum.inr a:Key)=Sum.inr b:=fun q=>e (Sum.inr.inj q)
  rw[Yr h,Yr e]
def b5H (a:Int)(b:Str):decide ((Sum.inl a:Key)=Sum.inr b)=false:=Yr (fun q=>nomatch q)
def b5G (a:Str)(b:Int):decide ((Sum.inr a:Key)=Sum.inl b)=false:=Yr (fun q=>nomatch q)
def eZ (prog:Program)(w:World):PySem.KeyKind prog w Key where
 is:=sX
 hash:=c0O w
 inj :=fun v a b ha hb=>by
  rcases dR ha with ⟨i,t,rfl,rfl⟩ | ⟨x,t,rfl,rfl⟩
  ·rcases dR hb with ⟨j,u,rfl,e⟩ | ⟨y,u,rfl,e⟩
   ·injection e with e1 _;rw[e1]
   ·exact nomatch e
  ·rcases dR hb with ⟨j,u,rfl,e⟩ | ⟨y,u,rfl,e⟩
   ·exact nomatch e
   ·injection e with e1 _;rw[e1]
 byValue:=fun k v h=>by
  rcases dR h with ⟨i,t,rfl,rfl⟩ | ⟨x,t,rfl,rfl⟩ <;> rfl
 pyHash:=fun hv h=>by
  rcases dR hv with ⟨i,t,rfl,rfl⟩ | ⟨x,t,rfl,rfl⟩
  ·exact wpAny_pyHash_int h
  ·exact wpAny_pyHash_str h
 eqBool:=fun hu hv h=>by
  rcases dR hu with ⟨i,t,rfl,rfl⟩ | ⟨x,t,rfl,rfl⟩
  ·rcases dR hv with ⟨j,u,rfl,rfl⟩ | ⟨y,u,rfl,rfl⟩
   ·rw[b5I]at h;exact wpAny_eqBool_int h
   ·rw[b5H]at h;exact SeqAt.EqAt.int_str i t y u _ _ _ _ h
  ·rcases dR hv with ⟨j,u,rfl,rfl⟩ | ⟨y,u,rfl,rfl⟩
   ·rw[b5G]at h;exact SeqAt.EqAt.str_int x t j u _ _ _ _ h
   ·rw[b5F]at h;exact wpAny_eqBool_str h
 «strs»:=fun k x t v h=>by
  rcases dR h with ⟨i,u,rfl,e⟩ | ⟨y,u,rfl,e⟩
  ·exact nomatch e
  ·injection e with e1 _
   subst e1
   cases v <;> rfl
def wL (prog:Program)(w:World)(i:Int)(t:Tok):(eZ prog w).is (.inl i) (.int i t)=true:=a3H i t
def wK (prog:Program)(w:World)(x:Str)(t:Tok):(eZ prog w).is (.inr x) (.str x t)=true:=a3G x t
inductive V where
 |non | bl (b:Bool) | int (i:Int) | str (x:Str) | byt (b:Array UInt8) | flt (b:UInt64) | ref (a:Addr) | ty (n:String)
 deriving DecidableEq
def RelV:V->Value->Prop
 |.non,u=>u=Value.none
 |.bl b,u=>u=Value.bool b
 |.int i,u=>∃t,u=Value.int i t
 |.str x,u=>∃t,u=Value.str x t
 |.byt b,u=>∃t,u=Value.bytes b t
 |.flt b,u=>∃t,u=Value.float b t
 |.ref a,u=>u=Value.ref a
 |.ty n,u=>u=Value.type n
abbrev Vals:List V->List Value->Prop:=Paired RelV
def Vals.length {xs:List V}(r:Vals xs us):xs.length=us.length:=Paired.length r
theorem Vals.get:∀{xs:List V}{us:List Value}{i:Nat}{x:V},Vals xs us->xs[i]? =some x->∃u,us[i]? =some u/\RelV x u
 |_,_,_,_,.nil,e=>by simp at e
 |_,_,0,_,.cons r _,e=>by simp at e;subst e;exact⟨_,rfl,r⟩
 | _,_,i+1,x,.cons _ t,e=>by
  obtain⟨u,h1,h2⟩:=Vals.get (i:=i) (x:=x) t (by simpa using e)
  exact⟨u,by simpa using h1,h2⟩
theorem Vals.set {x:V}(r:RelV x u):∀{xs:List V}{us:List Value}(i:Nat),Vals xs us->Vals (xs.set i x) (us.set i u)
 |_,_,_,.nil=> .nil
 |_,_,0,.cons _ t=> .cons r t
 |_,_,i+1,.cons q t=> .cons q (Vals.set r i t)
theorem Vals.append:∀{xs ys:List V}{us ws:List Value},Vals xs us->Vals ys ws->Vals (xs++ys) (us++ws)
 |_,_,_,_,.nil,s=>s
 |_,_,_,_,.cons r t,s=> .cons r (Vals.append t s)
theorem Vals.take:∀{xs:List V}{us:List Value}(n:Nat),Vals xs us->Vals (xs.take n) (us.take n)
 |_,_,0,_=> .nil
 |_,_,_+1,.nil=> .nil
 |_,_,n+1,.cons r t=> .cons r (Vals.take n t)
theorem Vals.drop:∀{xs:List V}{us:List Value}(n:Nat),Vals xs us->Vals (xs.drop n) (us.drop n)
 |_,_,0,r=>r
 |_,_,_+1,.nil=> .nil
 |_,_,n+1,.cons _ t=>Vals.drop n t
def lY:Option V->Option Value->Prop
 |some v,some u=>RelV v u
 |none,none=>True
 |_,_=>False
def KV {κ:Type}:List (κ×V)->List (κ×Value)->Prop:=Paired fun (p:κ×V) (q:κ×Value)=>p.1=q.1/\RelV p.2 q.2
def kV:Key->V
 |.inl i=> .int i
 |.inr x=> .str x
inductive HO where
  |lst (xs:List V)
  |tup (xs:List V)
  |dK (kvs:List (Key×V)) | dT (kvs:List (List Key×V))
  |set (S:Int->Bool) (n:Nat)
  |ins (C dx:Addr) (fs:List (Str×V))
  |own (x:Addr)
  |xd (fs:List (Str×V))
  |met (f x:Addr)
  |rng (lo hi:Int)
  |frz (o:Obj) (u:HO)
  |tbl (ps:Array Value)
  |ext (φ:Heap->Prop)
variable {o:HO}
abbrev Hp:=Addr->Option HO
variable {H:Hp}{H':Hp}
def upd (H:Hp)(a:Addr)(o:HO):Hp:=fun b=>if b=a then some o else H b
def aB:upd H a o a=some o:=by unfold upd;rw[if_pos rfl]
def aH (h:b≠a):upd H a o b=H b:=by unfold upd;rw[if_neg h]
def b7Z {u:HO}(h:H a=some o)(h':H b=some u)(d:o≠u):a≠b:=by
 intro e;subst e;rw[h]at h';exact d (Yo h')
def aJ (h:H a=some o)(h':H b=none):a≠b:=by
 intro e;subst e;rw[h]at h';cases h'
section
variable (P:Program)(w:World)
def eE (H:Hp)(h:Heap)(a:Addr):HO->Prop
  |.lst xs=>xs.length<=sizeLine/\∃(its:List Value)(n:Nat),Vals xs its/\h.get? a=some { cls:= .type "list",data:= .seq its.toArray n }
  |.tup xs=>xs.length<=sizeLine/\∃its:List Value,Vals xs its/\IsTup h a its.toArray
  |.dK kvs=>kvs.length<=sizeLine/\(a == sysModules)=false/\∃vs,KV kvs vs/\h.DictOf (eZ P w) a vs
  | .dT kvs=>kvs.length<=sizeLine/\(a == sysModules)=false/\∃xs:List (List Key×Addr×Value),
      Paired (fun (p:List Key×V) (q:List Key×Addr×Value)=>p.1=q.1/\H q.2.1=some (.tup (p.1.map kV))/\RelV p.2 q.2.2) kvs xs/\
      ∃o es ep,h.get? a=some o/\o.ExactDict/\o.data= .dict es ep/\es.toList=xs.map (entryOfKey (tupleKind (eZ P w)))/\(xs.map (·.1)).Nodup
  |.set S n=>h.SetOf (intKind P w) a S n
  | .ins C dx fs=>H dx=some (.own a)/\fs.length<=1000/\dx≠a/\h.get? a=some (W.instObj C dx)/\
      ∃mA,h.Ns1 dx mA/\(∀f,lY (fs.lookup f) (mA f))/\PySem.Within mA (fs.map (·.1))
  |.own _=>∃o,h.get? a=some o
  |.xd fs=>∃mA,h.Ns1 a mA/\∀f,lY (fs.lookup f) (mA f)
  |.rng lo hi=>∃t u v,h.get? a=some { cls:= .type "range",data:= .fields #[.int lo t,.int hi u,.int 1 v] }
  |.frz o u=>h.get? a=some o/\eE H h a u
  |.tbl ps=>h.get? a=some { cls:= .none,data:= .fields ps }
  |.met f x=>h.get? a=some (W.methodObj (.ref f) (.ref x))
  |.ext φ=>φ h/\(∃o,h.get? a=some o)/\∀h1 h2:Heap,φ h1->(∀o,h1.get? a=some o->h2.get? a=some o)->φ h2
def HOk (H:Hp)(h:Heap):Prop:=∀a o,H a=some o->eE P w H h a o
end
section
def eE.lt (x:eE P w H h a o):a<h.objs.size:=by
 cases o with
 |lst xs=>obtain⟨_,_,_,_,e⟩:=x;exact Ym e
 |tup xs=>obtain⟨_,_,_,p⟩:=x;exact p.lt
 |dK kvs=>obtain⟨_,_,_,_,o,_,_,e,_⟩:=x;exact Ym e
 |dT kvs=>obtain⟨_,_,_,_,o,_,_,e,_⟩:=x;exact Ym e
 |set S n=>obtain⟨o,_,_,_,e,_⟩:=x;exact Ym e
 |ins C dx fs=>obtain⟨_,_,_,e,_⟩:=x;exact Ym e
 |own y=>obtain⟨_,e⟩:=x;exact Ym e
 |xd fs=>obtain⟨_,⟨_,_,_,e,_⟩,_⟩:=x;exact Ym e
 |rng lo hi=>obtain⟨_,_,_,e⟩:=x;exact Ym e
 |frz ob u=>obtain⟨e,_⟩:=x;exact Ym e
 |tbl ps=>exact Ym (show h.get? a=some _ from x)
 |met f y=>exact Ym (show h.get? a=some _ from x)
 |ext φ=>obtain⟨_,⟨_,e⟩,_⟩:=x;exact Ym e
theorem Paired.mapP {α β:Type}{F G:α->β->Prop}:∀{l₁:List α}{l₂:List β},Paired F l₁ l₂->(∀a b,F a b->G a b)->Paired G l₁ l₂
 |_,_,.nil,_=> .nil
 |_,_,.cons r t,f=> .cons (f _ _ r) (Paired.mapP t f)
theorem eE.stay (x:eE P w H h a o)(k:∀b u,(b=a\/H b=some (.own a))->h.get? b=some u->h'.get? b=some u)
  (ho:∀b,H b=some (.own a)->H' b=some (.own a)) (ht:∀b xs,H b=some (.tup xs)->H' b=some (.tup xs)):eE P w H' h' a o:=by
 induction o with
 |lst xs=>obtain⟨z,its,n,r,e⟩:=x;exact⟨z,its,n,r,k _ _ (.inl rfl) e⟩
 |tup xs=>obtain⟨z,its,r,ob,e,c⟩:=x;exact⟨z,its,r,ob,k _ _ (.inl rfl) e,c⟩
 |dK kvs=>obtain⟨z,y,vs,r,ob,es,ep,e,c⟩:=x;exact⟨z,y,vs,r,ob,es,ep,k _ _ (.inl rfl) e,c⟩
 | dT kvs=>
  obtain⟨z,y,xs,r,ob,es,ep,e,c⟩:=x
  exact⟨z,y,xs,Paired.mapP r fun p q z=>⟨z.1,ht _ _ z.2.1,z.2.2⟩,ob,es,ep,k _ _ (.inl rfl) e,c⟩
 |set S n=>obtain⟨ob,es,ep,t,e,c⟩:=x;exact⟨ob,es,ep,t,k _ _ (.inl rfl) e,c⟩
 | ins C dx fs=>
  obtain⟨d,z,ne,e,mA,⟨od,es,ep,e2,c⟩,r⟩:=x
  exact⟨ho _ d,z,ne,k _ _ (.inl rfl) e,mA,⟨od,es,ep,k _ _ (.inr d) e2,c⟩,r⟩
 |own y=>obtain⟨ob,e⟩:=x;exact⟨ob,k _ _ (.inl rfl) e⟩
 |xd fs=>obtain⟨mA,⟨od,es,ep,e,c⟩,r⟩:=x;exact⟨mA,⟨od,es,ep,k _ _ (.inl rfl) e,c⟩,r⟩
 |rng lo hi=>obtain⟨t,u,v,e⟩:=x;exact⟨t,u,v,k _ _ (.inl rfl) e⟩
 |frz ob u ih=>obtain⟨e,q⟩:=x;exact⟨k _ _ (.inl rfl) e,ih q⟩
 | tbl ps=>
  have e:h.get? a=some { cls:= .none,data:= .fields ps }:=x
  show h'.get? a=some { cls:= .none,data:= .fields ps }
  exact k a _ (.inl rfl) e
 | met f y=>
  have e:h.get? a=some (W.methodObj (.ref f) (.ref y)):=x
  show h'.get? a=some (W.methodObj (.ref f) (.ref y))
  exact k a _ (.inl rfl) e
 |ext φ=>obtain⟨p,⟨o,e⟩,st⟩:=x;exact⟨st _ _ p fun o q=>k _ _ (.inl rfl) q,⟨o,k _ _ (.inl rfl) e⟩,st⟩
def HOk.lt (x:HOk P w H h)(e:H a=some o):a<h.objs.size:=(x a o e).lt
def HOk.fresh (x:HOk P w H h)(e:h.objs.size<=a):H a=none:=by
 cases q:H a with
 |none=>rfl
 |some u=>exact absurd (Ye (x.lt q) e) (YW _)
def HOk.kept (x:HOk P w H h)(k:∀b u,h.get? b=some u->h'.get? b=some u):HOk P w H h':=fun a o e=>
 (x a o e).stay (fun b u _ q=>k b u q) (fun _ q=>q) fun _ _ q=>q
def HOk.laid (x:HOk P w H h)(k:∀b u,h.get? b=some u->h'.get? b=some u)(hp:h.objs.size<=a)(new:eE P w (upd H a o) h' a o):HOk P w (upd H a o) h':=fun b u e=>by
 have hn:=x.fresh hp
 by_cases hb:b=a
 ·subst hb;rw[aB]at e;cases e;exact new
 ·rw[aH hb]at e
  exact(x b u e).stay (fun c v _ q=>k c v q) (fun c q=>by rw[aH (aJ q hn)];exact q) fun c xs q=>by rw[aH (aJ q hn)];exact q
end
def Rd (H:Hp)(a:Addr)(u:HO):Prop:=H a=some u\/∃o,H a=some (.frz o u)
def Rd.ok {u:HO}(r:Rd H a u)(x:HOk P w H h):eE P w H h a u:=by
 rcases r with r | ⟨o,r⟩
 ·exact x a u r
 ·obtain⟨_,q⟩:=x a _ r
  exact q
def Mut:Option HO->Prop
 |some (.lst _)=>True
 |some (.dK _)=>True
 |some (.dT _)=>True
 |some (.set _ _)=>True
 |some (.ins _ _ _)=>True
 |some (.ext _)=>True
 |_=>False
section
variable {x e:Addr}{o':HO}
theorem HOk.write (ok:HOk P w H h)(mu:Mut (H x))(he:e=x\/H e=some (.own x))(k:∀b u,b≠e->h.get? b=some u->h'.get? b=some u)(heo:∃u,h'.get? e=some u)
  (new:eE P w (upd H x o') h' x o'):HOk P w (upd H x o') h':=fun b u q=>by
 have nown:∀c y,H c=some (.own y)->c≠x:=fun c y r z=>by subst z;rw[r]at mu;exact mu
 have ntup:∀c xs,H c=some (.tup xs)->c≠x:=fun c xs r z=>by subst z;rw[r]at mu;exact mu
 by_cases hb:b=x
 ·subst hb;rw[aB]at q;cases q;exact new
 ·rw [aH hb]at q
  by_cases hbe:b=e
  ·have q':H b=some (.own x):=by
    rcases he with z | z
    ·exact absurd (hbe.trans z) hb
    ·rw[hbe];exact z
   rw[q]at q';cases q'
   obtain⟨v,hv⟩:=heo
   exact⟨v,by rw[hbe];exact hv⟩
  ·refine(ok b u q).stay (fun c v hc r=>k c v ?_ r) (fun c r=>by rw[aH (nown c b r)];exact r) fun c xs r=>by rw[aH (ntup c xs r)];exact r
   rcases hc with rfl | hc
   ·exact hbe
   ·rintro rfl
    rcases he with z | z
    ·exact nown c b hc z
    ·rw[hc]at z;cases z;exact hb rfl
end
structure Un (fs ex:List Addr)(H H':Hp)(h h':Heap):Prop where
 keep:∀b o,h.get? b=some o->H b=none->b∉fs->b∉ex->h'.get? b=some o
 slot:∀b o,h.get? b=some o->H b=none->b∈fs->b∉ex->∃sl,h'.get? b=some { o with slots:=sl }
 free:∀b o,h.get? b=some o->H b=none->b∉ex->H' b=none
 there:∀b o,h.get? b=some o->b∉ex->∃o',h'.get? b=some o'
 tups:∀b xs,H b=some (.tup xs)->H' b=some (.tup xs)
 frzs:∀b o u,H b=some (.frz o u)->H' b=some (.frz o u)
 tbls:∀b ps,H b=some (.tbl ps)->∃more,H' b=some (.tbl (ps++more))
section
variable {fs fs' ex ex':List Addr}{H1 H2:Hp}{h1 h2:Heap}{x e:Addr}
def Un.any (u:Un fs ex H H1 h h1){ob:Obj}(q:h.get? b=some ob)(n:H b=none)(hx:b∉ex):∃sl,h1.get? b=some { ob with slots:=sl }:=by
 by_cases hb:b∈fs
 ·exact u.slot b ob q n hb hx
 ·exact⟨ob.slots,u.keep b ob q n hb hx⟩
def Un.kept (k:∀b u,h.get? b=some u->h'.get? b=some u):Un fs ex H H h h':=
 ⟨fun b ob q _ _ _=>k b ob q,fun b ob q _ _ _=>⟨ob.slots,k b ob q⟩,fun _ _ _ n _=>n,fun b ob q _=>⟨ob,k b ob q⟩,fun _ _ q=>q,fun _ _ _ q=>q,fun _ ps q=>⟨#[],by rw[q];simp⟩⟩
def Un.refl:Un fs ex H H h h:=Un.kept fun _ _ q=>q
theorem Un.laid (k:∀b u,h.get? b=some u->h'.get? b=some u)(hp:h.objs.size<=a)(hn:H a=none):Un fs ex H (upd H a o) h h' where
 keep:=fun b u q _ _ _=>k b u q
 slot:=fun b u q _ _ _=>⟨u.slots,k b u q⟩
 free:=fun b u q n _=>by rw[aH (Yy (Ye (Ym q) hp))];exact n
 there:=fun b u q _=>⟨u,k b u q⟩
 tups:=fun b xs q=>by rw[aH (aJ q hn)];exact q
 frzs:=fun b u xs q=>by rw[aH (aJ q hn)];exact q
 tbls:=fun b ps q=>⟨#[],by rw[aH (aJ q hn),q];simp⟩
def Un.write (mu:Mut (H x))(he:e=x\/H e=some (.own x))(k:∀b u,b≠e->h.get? b=some u->h'.get? b=some u)(heo:∃u,h'.get? e=some u):Un fs ex H (upd H x o) h h':=by
 have hx:∀b,H b=none->b≠x:=fun b n z=>by subst z;rw[n]at mu;exact mu
 have hb:∀b,H b=none->b≠e:=fun b n z=>by
  subst z
  rcases he with r | r
  ·exact hx b n r
  ·rw[n]at r;cases r
 have hm:∀b u,H b=some u->¬ Mut (some u)->b≠x:=fun b u q nm z=>by subst z;rw[q]at mu;exact nm mu
 refine⟨fun b u q n _ _=>k b u (hb b n) q,fun b u q n _ _=>⟨u.slots,k b u (hb b n) q⟩,fun b u q n _=>by rw[aH (hx b n)];exact n,fun b u q _=>?_,
  fun b xs q=>by rw[aH (hm b _ q fun z=>z)];exact q,fun b u xs q=>by rw[aH (hm b _ q fun z=>z)];exact q,fun b ps q=>⟨#[],by rw[aH (hm b _ q fun z=>z),q];simp⟩⟩
 by_cases hbe:b=e
 ·subst hbe;exact heo
 ·exact⟨u,k b u hbe q⟩
end
def trk (h:Heap)(H:Hp):List Addr:=(List.range h.objs.size).filter fun a=>(H a).isSome
def uM (h:Heap)(H:Hp):Heap:=W.hideAll h (trk h H)
def a3K (h:Heap)(H:Hp):(uM h H).objs.size=h.objs.size:=W.hideAll_size _ _
def a7P {o:Obj}(e:h.get? b=some o)(n:H b=none):(uM h H).get? b=some o:=
 W.hideAll_get _ e fun hm=>by
  have q:(H b).isSome=true:=(List.mem_filter.mp hm).2
  rw[n]at q;simp at q
def b0Q {o:Obj}(e:(uM h H).get? b=some o):h.get? b=some o/\H b=none:=by
 have e':h.get? b=some o:=W.of_hideAll (trk h H) e
 refine⟨e',?_⟩
 cases q:H b with
 |none=>rfl
 | some x=>
  have hm:b∈trk h H:=List.mem_filter.mpr ⟨List.mem_range.mpr (Ym e'),by simp[q]⟩
  have z:(uM h H).get? b=none:=W.hideAll_none (trk h H) hm
  rw[z]at e;cases e
structure Mod (K:W.Frag)(mg:Str->Option Value)(base:Heap):Prop where
 kin:K.In base
 glob:base.Ns mainGlobals mg
 blt:∃mb,base.Ns builtinsNs mb/\∀x:Str,x≠"__name__"->mb x=bootBuiltins x
 nolimit:base.NoLimit
structure Cx where
 prog:Program
 w:World
 K:W.Frag
 mg:Str->Option Value
 base:Heap
 A:Around
 N:List Str
 s₀:Shared
 H₀:Hp
 env:Env
 outer:List Env
 stack:List Env
 ex:List Addr
 fn:Str->Bool
 calm:Bool
 pn:List (Addr×Obj)
 xe:Value->Shared->Prop
variable {X:Cx}
def frs (l:List Env):List Addr:=l.filterMap (·.frame)
abbrev Cx.fs (X:Cx):List Addr:=frs X.outer
def Vis (sc:Scope)(x:Str):Prop:=sc.names.lookup x=some .local\/sc.names.lookup x=some .cell\/sc.names.lookup x=some .free
def Loc (sc:Scope)(x:Str):Prop:=sc.names.lookup x=some .local\/sc.names.lookup x=some .cell
def Look (env:Env)(h:Heap)(m:Str->Option Value)(x:Str)(u:Value):Prop:=
 (env.kindOf x=some .local/\m x=some u)\/((env.kindOf x=some .cell\/env.kindOf x=some .free)/\∃c,env.cells.lookup x=some c/\h.IsCell c (some u))
structure Cx.Ok (X:Cx):Prop where
 mod:Mod X.K X.mg X.base
 kind:X.env.scope.kind= .function
 glob:X.env.globals=mainGlobals
 blt:X.env.builtins=builtinsNs
 above:X.s₀.heap.objs.size<=X.env.locals
 inj:∀x y c,X.env.cells.lookup x=some c->X.env.cells.lookup y=some c->x=y
 has:∀x,(X.env.kindOf x=some .cell\/X.env.kindOf x=some .free)->∃c,X.env.cells.lookup x=some c
 cab:∀x c,X.fn x=true->X.env.cells.lookup x=some c->X.s₀.heap.objs.size<=c
 hd:X.calm=true->X.A.handled=none
 frames:X.A.frames=some X.stack
 stk:X.stack=X.outer\/(X.stack=X.env::X.outer/\X.env.frame=some X.env.locals)
 exf:∀b∈X.ex,b≠X.env.locals/\∀x c,X.env.cells.lookup x=some c->c≠b
 bs:∀b o,X.base.get? b=some o->X.s₀.heap.get? b=some o/\X.H₀ b=none
 bsz:X.base.objs.size<=X.s₀.heap.objs.size
 noex:∀b o,X.base.get? b=some o->b∉X.ex
 exfs:∀b∈X.ex,b∉X.fs
 funs:X.s₀.heap.FunFrames X.base X.outer
 frf:∀b∈X.fs,X.H₀ b=none
structure Inv (X:Cx)(pins:List (Addr×Obj))(σ:List (Option V))(H:Hp)(s:Shared):Prop where
 ok:X.Ok
 os:s.os=X.s₀.os
 bare:AllBare s.gens
 base:Un X.fs X.ex X.H₀ H X.s₀.heap s.heap
 loc:∃m,s.heap.Ns X.env.locals m/\∀(i:Nat)(x:Str)(v:V),X.N[i]? =some x->σ[i]? =some (some v)->Vis X.env.scope x->∃u,RelV v u/\Look X.env s.heap m x u
 cell:∀x c,X.env.cells.lookup x=some c->∃v,s.heap.IsCell c v
 free:H X.env.locals=none
 freeC:∀x c,X.env.cells.lookup x=some c->H c=none
 pin:∀p∈X.pn++pins,s.heap.get? p.1=some p.2/\H p.1=none/\p.1≠X.env.locals/\p.1∉X.fs/\∀v,p.2.data≠ .cell v
 hok:HOk X.prog X.w H s.heap
 len:σ.length=X.N.length
section
variable {σ:List (Option V)}
def Cx.Ok.nofr (ok:X.Ok){o:Obj}(e:X.base.get? b=some o):b∉X.fs:=fun hb=>by
 have:=(ok.funs.mem hb).1
 rw[e]at this;cases this
def Inv.bs (I:Inv X pins σ H s):∀b o,X.base.get? b=some o->s.heap.get? b=some o/\H b=none:=fun b o e=>
 ⟨I.base.keep b o (I.ok.bs b o e).1 (I.ok.bs b o e).2 (I.ok.nofr e) (I.ok.noex b o e),I.base.free b o (I.ok.bs b o e).1 (I.ok.bs b o e).2 (I.ok.noex b o e)⟩
def Inv.bk (I:Inv X pins σ H s):∀b o,X.base.get? b=some o->s.heap.get? b=some o:=fun b o e=>(I.bs b o e).1
def Inv.mod (I:Inv X pins σ H s):Mod X.K X.mg X.base:=I.ok.mod
def Inv.kIn (I:Inv X pins σ H s):X.K.In s.heap:=I.ok.mod.kin.keeps I.bk
def Inv.fr (I:Inv X pins σ H s):∃m,Fr X.base X.env.locals s.heap m:=
 let ⟨m,hn,_⟩:=I.loc
 ⟨m,hn,I.bk,YN I.ok.bsz I.ok.above⟩
def Inv.lt (I:Inv X pins σ H s):X.env.locals<s.heap.objs.size:=let ⟨_,hn,_⟩:=I.loc;hn.lt
def Inv.sz (I:Inv X pins σ H s):X.s₀.heap.objs.size<=s.heap.objs.size:=YN I.ok.above (Y6 I.lt)
def Inv.nofs (I:Inv X pins σ H s)(h:s.heap.objs.size<=a):a∉X.fs:=fun hb=>by
 obtain⟨_,o,ho,_⟩:=I.ok.funs.mem hb
 exact absurd (Ye (Ym ho) (YN I.sz h)) (YW _)
def Inv.cne (I:Inv X pins σ H s):∀x c,X.env.cells.lookup x=some c->c≠X.env.locals:=fun x c e z=>by
 obtain⟨v,o,ho,hd⟩:=I.cell x c e
 obtain⟨m,⟨o',es,ep,ho',hd',_⟩,_⟩:=I.loc
 rw[z,ho']at ho;cases ho;rw[hd']at hd;cases hd
def Inv.funs (I:Inv X pins σ H s):s.heap.FunFrames X.base X.outer:=by
 have all:∀(l:List Env),(∀b∈frs l,b∈X.fs)->X.s₀.heap.FunFrames X.base l->s.heap.FunFrames X.base l:=by
  intro l
  induction l with
  |nil=>intro _ _;trivial
  | cons env r ih=>
   intro hs hl
   obtain⟨hk,⟨L,o,hf,hn,ho,hd⟩,hr⟩:=hl
   have hL:L∈X.fs:=hs L (by unfold frs;rw[List.filterMap_cons,hf];exact YH)
   obtain⟨sl,e⟩:=I.base.slot L o ho (I.ok.frf L hL) hL fun z=>I.ok.exfs L z hL
   exact⟨hk,⟨L,_,hf,hn,e,hd⟩,ih (fun b hb=>hs b (by unfold frs;rw[List.filterMap_cons,hf];exact Yz _ hb)) hr⟩
 exact all X.outer (fun _ hb=>hb) I.ok.funs
def Inv.stack (I:Inv X pins σ H s):s.heap.FunFrames X.base X.stack:=by
 rcases I.ok.stk with e | ⟨e,hf⟩
 ·rw[e];exact I.funs
 ·rw[e]
  obtain⟨m,hn,_⟩:=I.loc
  refine .cons (by rw[I.ok.kind];decide) hf hn ?_ I.funs
  exact Heap.get?_none_of_le (YN I.ok.bsz I.ok.above)
def Inv.stkSub (I:Inv X pins σ H s):∀b∈frs X.stack,b∈X.env.locals::X.fs:=fun b hb=>by
 rcases I.ok.stk with e | ⟨e,hf⟩
 ·rw[e]at hb;exact Yz _ hb
 ·rw[e]at hb
  unfold frs at hb
  rw[List.filterMap_cons,hf]at hb
  exact hb
def Inv.stkFree (I:Inv X pins σ H s):∀b∈frs X.stack,H b=none:=fun b hb=>by
 rcases Yt.mp (I.stkSub b hb) with e | hb
 ·rw[e];exact I.free
 ·obtain⟨_,o,ho,_⟩:=I.ok.funs.mem hb
  exact I.base.free b o ho (I.ok.frf b hb) fun z=>I.ok.exfs b z hb
theorem Inv.step {g':Array GenState}{t':Nat}{d':Drawn}{ch:List Addr}(I:Inv X pins σ H s)
  (hch:∀b∈ch,(b∈X.ex\/X.s₀.heap.objs.size<=b)/\b≠X.env.locals/\(∀x c,X.env.cells.lookup x=some c->c≠b)/\∀p∈X.pn++pins,p.1≠b)
  (keep:∀b o,b≠X.env.locals->b∉X.fs->b∉ch->s.heap.get? b=some o->H b=none->h'.get? b=some o)
  (slot:∀b o,b≠X.env.locals->b∈X.fs->b∉ch->s.heap.get? b=some o->H b=none->∃sl,h'.get? b=some { o with slots:=sl }) (free:∀b o,b∉ch->s.heap.get? b=some o->H b=none->H' b=none)
  (there:∀b o,b∉ch->s.heap.get? b=some o->∃o',h'.get? b=some o')
  (tups:∀b xs,H b=some (.tup xs)->H' b=some (.tup xs)) (frzs:∀b o u,H b=some (.frz o u)->H' b=some (.frz o u)) (tbls:∀b ps,H b=some (.tbl ps)->∃more,H' b=some (.tbl (ps++more)))
  (ns:∀m,s.heap.Ns X.env.locals m->h'.Ns X.env.locals m) (hok:HOk X.prog X.w H' h') (hg:AllBare g') :
  Inv X pins σ H' { s with heap:=h',gens:=g',drawn:=d',toks:=t' }:=by
 have neL:∀b o,X.s₀.heap.get? b=some o->b≠X.env.locals:=fun b o e=>Yy (Ye (Ym e) I.ok.above)
 have neC:∀b o,X.s₀.heap.get? b=some o->b∉X.ex->b∉ch:=fun b o e hx hb=>by
  rcases (hch b hb).1 with z | z
  ·exact hx z
  ·exact absurd (Ye (Ym e) z) (YW _)
 have cellK:∀x c,X.env.cells.lookup x=some c->∀v,s.heap.IsCell c v->h'.IsCell c v:=fun x c e v ⟨o,ho,hd⟩=>by
  have nch:c∉ch:=fun z=>(hch c z).2.2.1 x c e rfl
  by_cases hc:c∈X.fs
  ·obtain⟨sl,q⟩:=slot c o (I.cne x c e) hc nch ho (I.freeC x c e)
   exact⟨_,q,hd⟩
  ·exact⟨o,keep c o (I.cne x c e) hc nch ho (I.freeC x c e),hd⟩
 refine⟨I.ok,I.os,hg,⟨fun b o e n hb hx=>?_,fun b o e n hb hx=>?_,fun b o e n hx=>?_,fun b o e hx=>?_,fun b xs e=>tups b xs (I.base.tups b xs e),fun b o xs e=>frzs b o xs (I.base.frzs b o xs e),fun b ps e=>?_⟩,?_,fun x c e=>?_,?_,fun x c e=>?_,fun p hp=>?_,hok,I.len⟩
 ·exact keep b o (neL b o e) hb (neC b o e hx) (I.base.keep b o e n hb hx) (I.base.free b o e n hx)
 ·obtain⟨sl,e1⟩:=I.base.slot b o e n hb hx
  obtain⟨sl',e2⟩:=slot b _ (neL b o e) hb (neC b o e hx) e1 (I.base.free b o e n hx)
  exact⟨sl',e2⟩
 ·obtain⟨o',e1⟩:=I.base.there b o e hx
  exact free b o' (neC b o e hx) e1 (I.base.free b o e n hx)
 ·obtain⟨o',e1⟩:=I.base.there b o e hx
  exact there b o' (neC b o e hx) e1
 ·obtain⟨m1,e1⟩:=I.base.tbls b ps e
  obtain⟨m2,e2⟩:=tbls b _ e1
  exact⟨m1++m2,by rw[e2,Array.append_assoc]⟩
 ·obtain⟨m,hn,hl⟩:=I.loc
  refine⟨m,ns m hn,fun i x v e1 e2 e3=>?_⟩
  obtain⟨u,r,l⟩:=hl i x v e1 e2 e3
  refine⟨u,r,?_⟩
  rcases l with l | ⟨k,c,e,z⟩
  ·exact .inl l
  ·exact .inr ⟨k,c,e,cellK x c e _ z⟩
 ·obtain⟨v,z⟩:=I.cell x c e
  exact⟨v,cellK x c e v z⟩
 ·obtain⟨m,⟨o,_,_,ho,_⟩,_⟩:=I.loc
  exact free _ o (fun z=>(hch _ z).2.1 rfl) ho I.free
 ·obtain⟨v,o,ho,hd⟩:=I.cell x c e
  exact free c o (fun z=>(hch c z).2.2.1 x c e rfl) ho (I.freeC x c e)
 ·obtain⟨e,n,ne,nf,d⟩:=I.pin p hp
  have nch:p.1∉ch:=fun z=>(hch p.1 z).2.2.2 p hp rfl
  exact⟨keep p.1 p.2 ne nf nch e n,free p.1 p.2 nch e n,ne,nf,d⟩
def Inv.un {t':Nat}(I:Inv X pins σ H s)(u:Un X.fs [] H H' s.heap h')(hok:HOk X.prog X.w H' h'):Inv X pins σ H' { s with heap:=h',toks:=t' }:=by
 obtain⟨m,⟨o,es,ep,ho,r⟩,_⟩:=id I.loc
 obtain⟨sl,hL⟩:=u.any ho I.free (by simp)
 exact I.step (g':=s.gens) (d':=s.drawn) (ch:=[]) (fun _ z=>nomatch z) (fun b o _ hb _ e n=>u.keep b o e n hb (by simp)) (fun b o _ hb _ e n=>u.slot b o e n hb (by simp)) (fun b o _ e n=>u.free b o e n (by simp)) (fun b o _ e=>u.there b o e (by simp)) u.tups u.frzs u.tbls (fun m' hm=>by
  obtain⟨o',es',ep',ho',r'⟩:=hm
  rw[ho]at ho';cases ho'
  exact⟨_,es',ep',hL,r'⟩) hok I.bare
theorem Inv.call {g':Array GenState}{t':Nat}{d':Drawn}{ch:List Addr}(I:Inv X pins σ H s)(u:Un (frs X.stack) ch H H' s.heap h')(hok:HOk X.prog X.w H' h')(hg:AllBare g')
  (hch:∀b∈ch,(b∈X.ex\/X.s₀.heap.objs.size<=b)/\b≠X.env.locals/\(∀x c,X.env.cells.lookup x=some c->c≠b)/\∀p∈X.pn++pins,p.1≠b) :
  Inv X pins σ H' { s with heap:=h',gens:=g',drawn:=d',toks:=t' }:=by
 obtain⟨m,⟨o,es,ep,ho,r⟩,_⟩:=id I.loc
 obtain⟨sl,hL⟩:=u.any ho I.free fun z=>(hch _ z).2.1 rfl
 exact I.step (ch:=ch) hch (fun b o hL hb hc e n=>u.keep b o e n (fun z=>(Yt.mp (I.stkSub b z)).elim hL hb) hc) (fun b o _ _ hc e n=>u.any e n hc) (fun b o hc e n=>u.free b o e n hc) (fun b o hc e=>u.there b o e hc) u.tups u.frzs u.tbls (fun m' hm=>by
  obtain⟨o',es',ep',ho',r'⟩:=hm
  rw[ho]at ho';cases ho'
  exact⟨_,es',ep',hL,r'⟩) hok hg
theorem Inv.turned {t':Nat}{it:Addr}(I:Inv X pins σ H s)(k:∀b o,b≠it->s.heap.get? b=some o->h'.get? b=some o)(hn:H it=none)(hL:it≠X.env.locals)
  (h1:it∈X.ex\/X.s₀.heap.objs.size<=it) (h2:∀x c,X.env.cells.lookup x=some c->c≠it) (h3:∀p∈X.pn++pins,p.1≠it):Inv X pins σ H { s with heap:=h',toks:=t' }:=by
 have nit:∀b u,H b=some u->b≠it:=fun b u e z=>by rw[z,hn]at e;cases e
 refine I.step (g':=s.gens) (d':=s.drawn) (ch:=[it]) (fun b hb=>?_) (fun b o _ _ hc e _=>k b o (fun z=>hc (by simp[z])) e) (fun b o _ _ hc e _=>⟨o.slots,k b o (fun z=>hc (by simp[z])) e⟩) (fun _ _ _ _ n=>n)
  (fun b o hc e=>⟨o,k b o (fun z=>hc (by simp[z])) e⟩) (fun _ _ e=>e) (fun _ _ _ e=>e) (fun b ps e=>⟨#[],by rw[e];simp⟩) (fun m hm=>?_) (fun b u e=>?_) I.bare
 ·have e:b=it:=by simpa using hb
  subst e
  exact⟨h1,hL,h2,h3⟩
 ·obtain⟨o,es,ep,ho,r⟩:=hm
  exact⟨o,es,ep,k _ o (Va hL) ho,r⟩
 ·refine(I.hok b u e).stay (fun c v hc q=>k c v ?_ q) (fun _ q=>q) fun _ _ q=>q
  rcases hc with z | z
  ·rw[z];exact nit b u e
  ·exact nit c _ z
def Inv.tok (I:Inv X pins σ H s)(t:Nat):Inv X pins σ H { s with toks:=t }:=I.un (h':=s.heap) (t':=t) Un.refl I.hok
def Inv.kept {t':Nat}(I:Inv X pins σ H s)(k:∀b u,s.heap.get? b=some u->h'.get? b=some u):Inv X pins σ H { s with heap:=h',toks:=t' }:=I.un (Un.kept k) (I.hok.kept k)
theorem Inv.laid {t':Nat}(I:Inv X pins σ H s)(k:∀b u,s.heap.get? b=some u->h'.get? b=some u)(hp:s.heap.objs.size<=a)(new:eE X.prog X.w (upd H a o) h' a o):
  Inv X pins σ (upd H a o) { s with heap:=h',toks:=t' }:=I.un (Un.laid k hp (I.hok.fresh hp)) (I.hok.laid k hp new)
theorem Inv.write {x e:Addr}{o:HO}{t':Nat}(I:Inv X pins σ H s)(mu:Mut (H x))(he:e=x\/H e=some (.own x))(k:∀b u,b≠e->s.heap.get? b=some u->h'.get? b=some u)(heo:∃u,h'.get? e=some u)
  (new:eE X.prog X.w (upd H x o) h' x o):Inv X pins σ (upd H x o) { s with heap:=h',toks:=t' }:=I.un (Un.write mu he k heo) (I.hok.write mu he k heo new)
def Inv.weak {σ':List (Option V)}(I:Inv X pins σ H s)(hl:σ'.length=σ.length)(w:∀(i:Nat) v,σ'[i]? =some (some v)->σ[i]? =some (some v)):Inv X pins σ' H s:=
 ⟨I.ok,I.os,I.bare,I.base,let ⟨m,hn,hl'⟩:=I.loc;⟨m,hn,fun i x v e1 e2 e3=>hl' i x v e1 (w i v e2) e3⟩,I.cell,I.free,I.freeC,I.pin,I.hok,hl.trans I.len⟩
def Inv.pins_of {pins':List (Addr×Obj)}(I:Inv X pins σ H s)(h:∀p∈pins',s.heap.get? p.1=some p.2/\H p.1=none/\p.1≠X.env.locals/\p.1∉X.fs/\∀v,p.2.data≠ .cell v):Inv X pins' σ H s:=
 ⟨I.ok,I.os,I.bare,I.base,I.loc,I.cell,I.free,I.freeC,fun p hp=>(YB.mp hp).elim (fun z=>I.pin p (List.mem_append_left _ z)) (h p),I.hok,I.len⟩
def qO {N:List Str}(hN:N.Nodup)(a:N[i]? =some x)(b:N[j]? =some x):i=j:=by
 obtain⟨h1,e1⟩:=Yd.mp a
 obtain⟨h2,e2⟩:=Yd.mp b
 exact(List.getElem_inj hN).mp (e1.trans e2.symm)
theorem sG {M:Model}{A:Around}{E:Value->Shared->Prop}{i:Nat}{x:Str}{v:V}{u:Value}{Q:Unit->Shared->Prop}(I:Inv X pins σ H s)(hN:X.N.Nodup)(hi:X.N[i]? =some x)(hx:Loc X.env.scope x)(r:RelV v u)
  (h:∀s',Inv X pins (σ.set i (some v)) H s'->(∃a,Heap.SameBut a s.heap s'.heap/\(a=X.env.locals\/X.env.cells.lookup x=some a))->Q () s') (hf:X.fn x=true\/X.env.scope.names.lookup x=some .local:=by first | exact .inl rfl | exact .inr rfl | assumption):wpAny M A (storeName X.env x u) Q E s:=by
 obtain⟨m,hn,hl⟩:=id I.loc
 have hcls:(X.env.scope.kind == .class || (X.env.scope.kind == .module && X.env.locals != X.env.globals))=false:=by rw[I.ok.kind];rfl
 have hiσ:i<σ.length:=by rw[I.len];exact(Yd.mp hi).1
 have cne:=I.cne
 have tracked:∀{a:Addr}{h':Heap},(∃o,s.heap.get? a=some o/\H a=none)->Heap.SameBut a s.heap h'->HOk X.prog X.w H h':=fun {a h'} ha hs b ob e=>by
  obtain⟨_,_,hfree⟩:=ha
  refine(I.hok b ob e).stay (fun c w' hc q=>(hs.2 c ?_).trans q) (fun _ q=>q) fun _ _ q=>q
  rintro rfl
  rcases hc with rfl | hc
  ·rw[hfree]at e;cases e
  ·rw[hfree]at hc;cases hc
 rcases hx with hk | hk
 ·refine wpAny_storeName_local hk hn (fun h' hn' hs=>?_) hcls
  obtain⟨oL,_,_,hoL,_⟩:=id hn
  refine h _ ⟨I.ok,I.os,I.bare,⟨fun b o e n hb hx=>?_,fun b o e n hb hx=>?_,I.base.free,fun b o e hx=>?_,I.base.tups,I.base.frzs,I.base.tbls⟩,⟨_,hn',fun j y v' e1 e2 e3=>?_⟩,fun y c e=>?_,I.free,I.freeC,fun p hp=>?_,tracked ⟨oL,hoL,I.free⟩ hs,by simpa using I.len⟩ ⟨_,hs,.inl rfl⟩
  ·exact(hs.2 b (Yy (Ye (Ym e) I.ok.above))).trans (I.base.keep b o e n hb hx)
  ·obtain⟨sl,e1⟩:=I.base.slot b o e n hb hx
   exact⟨sl,(hs.2 b (Yy (Ye (Ym e) I.ok.above))).trans e1⟩
  ·obtain⟨o',e1⟩:=I.base.there b o e hx
   exact⟨o',(hs.2 b (Yy (Ye (Ym e) I.ok.above))).trans e1⟩
  ·by_cases hj:j=i
   ·subst hj
    rw[hi]at e1;cases e1
    rw[List.getElem?_set_self hiσ]at e2
    cases e2
    exact⟨u,r,.inl ⟨hk,by simp⟩⟩
   ·rw [Y2 (Va hj)]at e2
    obtain⟨u',r',q⟩:=hl j y v' e1 e2 e3
    refine⟨u',r',?_⟩
    rcases q with ⟨k,e⟩ | ⟨k,c,e,z⟩
    ·refine .inl ⟨k,?_⟩
     have:y≠x:=fun e=>hj (qO hN e1 (e▸hi))
     simp[this,e]
    ·exact .inr ⟨k,c,e,z.sameBut hs (cne y c e)⟩
  ·obtain⟨w',z⟩:=I.cell y c e
   exact⟨w',z.sameBut hs (cne y c e)⟩
  ·obtain⟨e,n,ne,nf,d⟩:=I.pin p hp
   exact⟨(hs.2 p.1 ne).trans e,n,ne,nf,d⟩
 ·have hfn:X.fn x=true:=by
   rcases hf with z | z
   ·exact z
   ·rw[z]at hk;cases hk
  obtain⟨c,hc⟩:=I.ok.has x (.inl hk)
  obtain⟨w',z⟩:=I.cell x c hc
  refine wpAny_storeName_cell I.ok.kind hk hc z (fun h' hc' hs=>?_)
  obtain⟨oc,hoc,hocd⟩:=id z
  refine h { s with heap:=h' } ⟨I.ok,I.os,I.bare,⟨fun b o e n hb hx=>?_,fun b o e n hb hx=>?_,I.base.free,fun b o e hx=>?_,I.base.tups,I.base.frzs,I.base.tbls⟩,⟨m,hn.sameBut hs (Va (cne x c hc)),fun j y v' e1 e2 e3=>?_⟩,fun y c' e=>?_,I.free,I.freeC,fun p hp=>?_,tracked ⟨oc,hoc,I.freeC x c hc⟩ hs,by simpa using I.len⟩ ⟨c,hs,.inr hc⟩
  ·exact(hs.2 b (Yy (Ye (Ym e) (I.ok.cab x c hfn hc)))).trans (I.base.keep b o e n hb hx)
  ·obtain⟨sl,e1⟩:=I.base.slot b o e n hb hx
   exact⟨sl,(hs.2 b (Yy (Ye (Ym e) (I.ok.cab x c hfn hc)))).trans e1⟩
  ·obtain⟨o',e1⟩:=I.base.there b o e hx
   exact⟨o',(hs.2 b (Yy (Ye (Ym e) (I.ok.cab x c hfn hc)))).trans e1⟩
  ·by_cases hj:j=i
   ·subst hj
    rw[hi]at e1;cases e1
    rw[List.getElem?_set_self hiσ]at e2
    cases e2
    exact⟨u,r,.inr ⟨.inl hk,c,hc,hc'⟩⟩
   ·rw [Y2 (Va hj)]at e2
    obtain⟨u',r',q⟩:=hl j y v' e1 e2 e3
    refine⟨u',r',?_⟩
    rcases q with q | ⟨k,c',e,z'⟩
    ·exact .inl q
    ·refine .inr ⟨k,c',e,z'.sameBut hs ?_⟩
     rintro rfl
     exact hj (qO hN e1 (I.ok.inj _ _ _ e hc▸hi))
  ·by_cases hcc:c'=c
   ·subst hcc;exact⟨_,hc'⟩
   ·obtain⟨w2,z2⟩:=I.cell y c' e
    exact⟨w2,z2.sameBut hs hcc⟩
  ·obtain⟨e,n,ne,nf,d⟩:=I.pin p hp
   refine⟨(hs.2 p.1 ?_).trans e,n,ne,nf,d⟩
   intro q
   rw[q,hoc]at e
   have q':oc=p.2:=Yo e
   exact d w' (by rw[<-q'];exact hocd)
theorem kZ {M:Model}{A:Around}{E:Value->Shared->Prop}{i:Nat}{x:Str}{v:V}{u:Value}{Q:Unit->Shared->Prop}(I:Inv X pins σ H s)(hN:X.N.Nodup)(hi:X.N[i]? =some x)(hx:Loc X.env.scope x)(r:RelV v u)
  (h:∀s',Inv X pins (σ.set i (some v)) H s'->Q () s') (hf:X.fn x=true\/X.env.scope.names.lookup x=some .local:=by first | exact .inl rfl | exact .inr rfl | assumption):wpAny M A (storeName X.env x u) Q E s:=
 sG I hN hi hx r (fun s' I' _=>h s' I') hf
theorem Inv.call' {s':Shared}{ch:List Addr}(I:Inv X pins σ H s)(ho:s'.os=s.os)(u:Un (frs X.stack) ch H H' s.heap s'.heap)(hok:HOk X.prog X.w H' s'.heap)(hg:AllBare s'.gens)
  (hch:∀b∈ch,(b∈X.ex\/X.s₀.heap.objs.size<=b)/\b≠X.env.locals/\(∀x c,X.env.cells.lookup x=some c->c≠b)/\∀p∈X.pn++pins,p.1≠b):Inv X pins σ H' s':=by
 obtain⟨h',g',d',t',o'⟩:=s'
 have e:o'=s.os:=ho
 subst e
 exact I.call (g':=g') (t':=t') (d':=d') u hok hg hch
end
abbrev XK:=Value->Option Addr->Hp->Prop
abbrev St:=List (Option V)
variable {σ:St}
abbrev VK:=V->Hp->Prop
abbrev TE:=St->Hp->VK->Prop
variable {te:TE}{ta:TE}{tb:TE}
abbrev TT:=St->Hp->(Bool->Hp->Prop)->Prop
abbrev TA:=St->Hp->(List V->Hp->Prop)->Prop
variable {t:TA}
structure Ends where
 nx:St->Hp->Prop
 rt:VK
 bk:St->Hp->Prop:=fun _ _=>False
 ct:St->Hp->Prop:=fun _ _=>False
abbrev TS:=Ends->St->Hp->Prop
def EP (X:Cx)(pins:List (Addr×Obj))(σ:St)(Q:VK)(u:Value)(s':Shared):Prop:=∃v H',Inv X pins σ H' s'/\RelV v u/\Q v H'
def TP (X:Cx)(pins:List (Addr×Obj))(σ:St)(Q:Bool->Hp->Prop)(b:Bool)(s':Shared):Prop:=∃H',Inv X pins σ H' s'/\Q b H'
def AP (X:Cx)(pins:List (Addr×Obj))(σ:St)(Q:List V->Hp->Prop)(us:List Value)(s':Shared):Prop:=∃vs H',Inv X pins σ H' s'/\Vals vs us/\Q vs H'
def SP (X:Cx)(pins:List (Addr×Obj))(D:Ends)(f:Flow)(s':Shared):Prop:=
 match f with
 |.next=>∃σ' H',Inv X pins σ' H' s'/\D.nx σ' H'
 |.brk=>∃σ' H',Inv X pins σ' H' s'/\D.bk σ' H'
 |.cont=>∃σ' H',Inv X pins σ' H' s'/\D.ct σ' H'
 |.ret u=>∃v σ' H',Inv X pins σ' H' s'/\RelV v u/\D.rt v H'
def PE (X:Cx)(e:Expr)(t:TE):Prop:=
 ∀(pins:List (Addr×Obj))(s:Shared)(σ:St)(H:Hp)(Q:VK),Inv X pins σ H s->t σ H Q->wpAny (model X.prog X.w) X.A (eval e X.env) (EP X pins σ Q) X.xe s
def PT (X:Cx)(e:Expr)(t:TT):Prop:=
 ∀(pins:List (Addr×Obj))(s:Shared)(σ:St)(H:Hp)(Q:Bool->Hp->Prop),Inv X pins σ H s->t σ H Q->wpAny (model X.prog X.w) X.A (isTrue e X.env (eval e X.env)) (TP X pins σ Q) X.xe s
def PW (X:Cx)(e:Expr)(t:TT):Prop:=
 ∀(whole:Sem Value)(pins:List (Addr×Obj))(s:Shared)(σ:St)(H:Hp)(Q:Bool->Hp->Prop),Inv X pins σ H s->t σ H Q->wpAny (model X.prog X.w) X.A (isTrue e X.env whole) (TP X pins σ Q) X.xe s
def PW.pt {t:TT}(h:PW X e t):PT X e t:=h _
def PA (X:Cx)(es:List Expr)(t:TA):Prop:=
 ∀(pos:Pos)(pins:List (Addr×Obj))(s:Shared)(σ:St)(H:Hp)(Q:List V->Hp->Prop),Inv X pins σ H s->t σ H Q->wpAny (model X.prog X.w) X.A (spliced (backTo pos (starEach es X.env))) (AP X pins σ Q) X.xe s
def PS (X:Cx)(st:Stmt)(t:TS):Prop:=
 ∀(pins:List (Addr×Obj))(s:Shared)(σ:St)(H:Hp)(D:Ends),Inv X pins σ H s->t D σ H->wpAny (model X.prog X.w) X.A (exec st X.env) (SP X pins D) X.xe s
def PSs (X:Cx)(st:List Stmt)(t:TS):Prop:=
 ∀(pins:List (Addr×Obj))(s:Shared)(σ:St)(H:Hp)(D:Ends),Inv X pins σ H s->t D σ H->wpAny (model X.prog X.w) X.A (execs st X.env) (SP X pins D) X.xe s
def thn {α:Type}{t:Sem α}{Q Q':α->Shared->Prop}{M:Model}(h:wpAny M A t Q E s)(hQ:∀a s,Q a s->Q' a s):wpAny M A t Q' E s:=Y4 h hQ fun _ _ x=>x
section
theorem bin {a b:Expr}{ta tb:TE}(ha:PE X a ta)(hb:PE X b tb){pins:List (Addr×Obj)}{s:Shared}{σ:St}{H:Hp}{R:V->V->Hp->Prop}(I:Inv X pins σ H s)(h:ta σ H fun x H1=>tb σ H1 fun y H2=>R x y H2)
  {α:Type} {Q:α->Shared->Prop} {f:Value->Value->Sem α}
  (hf:∀v u s2 x y H2,Inv X pins σ H2 s2->RelV x v->RelV y u->R x y H2->wpAny (model X.prog X.w) X.A (f v u) Q X.xe s2) :
  wpAny (model X.prog X.w) X.A (eval a X.env) (fun v s₁=>wpAny (model X.prog X.w) X.A (eval b X.env) (fun u s₂=>wpAny (model X.prog X.w) X.A (f v u) Q X.xe s₂) X.xe s₁) X.xe s:=by
 refine thn (ha pins s σ H _ I h) fun v s1 hz9=>?_
 obtain⟨x,H1,I1,r1,q1⟩:=hz9
 refine thn (hb pins s1 σ H1 _ I1 q1) fun u s2 hz9=>?_
 obtain⟨y,H2,I2,r2,q2⟩:=hz9
 exact hf v u s2 x y H2 I2 r1 r2 q2
def b3I (i:Nat):TE:=fun σ H Q=>∃v,σ[i]? =some (some v)/\Q v H
def tC (v:V):TE:=fun _ H Q=>Q v H
def yU (hN:X.N[i]? =some x)(hv:Vis X.env.scope x)(hd:(x == ("__debug__":Str))=false:=by decide)(hcd:(x == ("__classdict__":Str))=false:=by decide):PE X (.Name x pos) (b3I i):=by
 intro pins s σ H Q I h
 obtain⟨v,e,h⟩:=h
 obtain⟨m,hn,hl⟩:=I.loc
 obtain⟨u,r,l⟩:=hl i x v hN e hv
 have fin:EP X pins σ Q u s:=⟨v,H,I,r,h⟩
 rcases l with ⟨hk,hm⟩ | ⟨hk,c,hc,hcell⟩
 ·exact wpAny_Name (wpAny_loadName_local I.ok.kind hk hn hm fin) hd
 ·rcases hk with hk | hk
  ·exact wpAny_Name (wpAny_loadName_cell I.ok.kind hk hc hcell fin) hd
  ·exact wpAny_Name (wpAny_loadName_free I.ok.kind hk hc hcell fin hcd) hd
def aG {i j pos}:PE X (.Constant (.int i) j pos) (tC (.int i)):=fun _ _ _ H _ I h=>wpAny_Constant_int ⟨.int i,H,I.tok _,⟨_,rfl⟩,h⟩
def fQ {b j pos}:PE X (.Constant (.bool b) j pos) (tC (.bl b)):=fun _ _ _ H _ I h=>Constant_bool ⟨.bl b,H,I,rfl,h⟩
def oF {j pos}:PE X (.Constant .none j pos) (tC .non):=fun _ _ _ H _ I h=>Constant_none ⟨.non,H,I,rfl,h⟩
def bF {x j pos}:PE X (.Constant (.str x) j pos) (tC (.str x)):=fun _ _ _ H _ I h=>Calls.Constant_str ⟨.str x,H,I.tok _,⟨_,rfl⟩,h⟩
def Gl (X:Cx)(x:Str):Prop:=X.env.kindOf x=some .globalImplicit
theorem lQ {E:Value->Shared->Prop}{pins:List (Addr×Obj)}{s:Shared}{σ:St}{H:Hp}{x:Str}{u:Value}{pos:Pos}{Q:Value->Shared->Prop}(I:Inv X pins σ H s)(hg:Gl X x)(hm:X.mg x=some u)(h:Q u s)
  (hd:(x == ("__debug__":Str))=false:=by decide):wpAny (model X.prog X.w) X.A (eval (.Name x pos) X.env) Q E s:=
 Calls.Name_function_global I.ok.kind hg (Calls.loadGlobal_global (by rw[I.ok.glob];exact I.mod.glob.keeps I.bk) hm h) hd
theorem qR {E:Value->Shared->Prop}{pins:List (Addr×Obj)}{s:Shared}{σ:St}{H:Hp}{x:Str}{u:Value}{pos:Pos}{Q:Value->Shared->Prop}(I:Inv X pins σ H s)(hg:Gl X x)(hm:X.mg x=none)(hv:bootBuiltins x=some u)(h:Q u s)
  (hn:x≠"__name__":=by decide) (hd:(x == ("__debug__":Str))=false:=by decide):wpAny (model X.prog X.w) X.A (eval (.Name x pos) X.env) Q E s:=by
 obtain⟨mb,h1,h2⟩:=I.mod.blt
 exact Calls.Name_function_global I.ok.kind hg (Calls.loadGlobal_builtin (by rw[I.ok.glob];exact I.mod.glob.keeps I.bk) hm (by rw[I.ok.blt];exact h1.keeps I.bk) ((h2 x hn).trans hv) h) hd
def bC {v:V}(hg:Gl X x)(hm:X.mg x=some u)(r:RelV v u)(hd:(x == ("__debug__":Str))=false:=by decide):PE X (.Name x pos) (tC v):=
 fun _ _ _ H _ I h=>lQ I hg hm ⟨v,H,I,r,h⟩ hd
def jU {v:V}(hg:Gl X x)(hm:X.mg x=none)(hv:bootBuiltins x=some u)(r:RelV v u)(hn:x≠"__name__":=by decide)(hd:(x == ("__debug__":Str))=false:=by decide):PE X (.Name x pos) (tC v):=
 fun _ _ _ H _ I h=>qR I hg hm hv ⟨v,H,I,r,h⟩ hn hd
variable {a b:Expr}
def PC (X:Cx)(op:CmpOp)(a b:Expr)(t:TE):Prop:=
 ∀ (pins:List (Addr×Obj))(s:Shared)(σ:St)(H:Hp)(Q:VK),Inv X pins σ H s->t σ H Q->
  wpAny (model X.prog X.w) X.A (eval a X.env) (fun v s₁=>wpAny (model X.prog X.w) X.A (eval b X.env) (fun u s₂=>wpAny (model X.prog X.w) X.A (compareOp op v u) (EP X pins σ Q) X.xe s₂) X.xe s₁) X.xe s
def tB (t:TE):TT:=fun σ H Q=>t σ H fun x H1=>∃c,x= .bl c/\Q c H1
def b4G {t:TE}(h:PC X op a b t)(h1:behindInMarks op b=false:=by first | exact nobehind _ (by decide) (by decide) | rfl):PT X (.Compare a [op] [b] pos) (tB t):=by
 intro pins s σ H Q I hw
 refine wpAny_isTrue_Compare1 (thn (h pins s σ H _ I hw) fun v s1 h1=>thn h1 fun u s2 h2=>thn h2 fun c s3 hz9=>?_) h1
 obtain⟨x,H1,I1,r1,q1⟩:=hz9
 obtain⟨d,rfl,q⟩:=q1
 cases r1
 exact Xc ⟨H1,I1,q⟩
def b4F {t:TE}(h:PE X e t)(he:∀whole,isTrue e X.env whole=(do let v<-whole;standAt e.pos;holding [v] (truthy v)):=by intro _;rfl):PT X e (tB t):=by
 intro pins s σ H Q I hw
 refine isTrue_plain (thn (h pins s σ H _ I hw) fun v s1 hz9=>?_) (he _)
 obtain⟨x,H1,I1,r1,q1⟩:=hz9
 obtain⟨d,rfl,q⟩:=q1
 cases r1
 exact Xc ⟨H1,I1,q⟩
variable {tA tB':TT}{rest:List Expr}
def b9W (t u:TT):TT:=fun σ H Q=>t σ H fun c H1=>if c=true then u σ H1 Q else Q false H1
def tOr (t u:TT):TT:=fun σ H Q=>t σ H fun c H1=>if c=true then Q true H1 else u σ H1 Q
def b9O (t:TT):TT:=fun σ H Q=>t σ H fun c H1=>Q (!c) H1
def pL (ha:PT X a tA):PW X (.BoolOp .And [a] pos) tA:=by
 intro wh pins s σ H Q I h
 refine isTrue_and (thn (ha pins s σ H Q I h) fun c s1 e=>?_)
 cases c with
 |true=>exact isTrue_and_nil e
 |false=>exact e
def jT (ha:PT X a tA):PW X (.BoolOp .Or [a] pos) tA:=by
 intro wh pins s σ H Q I h
 refine isTrue_or (thn (ha pins s σ H Q I h) fun c s1 e=>?_)
 cases c with
 |false=>exact isTrue_or_nil e
 |true=>exact e
def qI (ha:PT X a tA)(hb:PW X (.BoolOp .And (b::rest) pos) tB'):PW X (.BoolOp .And (a::b::rest) pos) (b9W tA tB'):=by
 intro wh pins s σ H Q I h
 refine isTrue_and (thn (ha pins s σ H _ I h) fun c s1 hz9=>?_)
 obtain⟨H1,I1,q1⟩:=hz9
 cases c with
 |true=>exact hb wh pins s1 σ H1 Q I1 q1
 |false=>exact⟨H1,I1,q1⟩
def iK (ha:PT X a tA)(hb:PW X (.BoolOp .Or (b::rest) pos) tB'):PW X (.BoolOp .Or (a::b::rest) pos) (tOr tA tB'):=by
 intro wh pins s σ H Q I h
 refine isTrue_or (thn (ha pins s σ H _ I h) fun c s1 hz9=>?_)
 obtain⟨H1,I1,q1⟩:=hz9
 cases c with
 |true=>exact⟨H1,I1,q1⟩
 |false=>exact hb wh pins s1 σ H1 Q I1 q1
def dY (ha:PT X a tA):PT X (.UnaryOp .Not a pos) (b9O tA):=by
 intro pins s σ H Q I h
 exact isTrue_not (ha pins s σ H (fun c H1=>Q (!c) H1) I h)
def a4J (ta tb:TE):TE:=fun σ H Q=>ta σ H fun x H1=>∃c,x= .bl c/\if c=true then tb σ H1 Q else Q (.bl false) H1
def a4I (ta:TE):TE:=fun σ H Q=>ta σ H fun x H1=>∃c,x= .bl c/\Q (.bl (!c)) H1
def yV {op}{t:TE}(h:PE X a t):PE X (.BoolOp op [a] pos) t:=fun pins s σ H Q I hw=>BoolOp_one (h pins s σ H Q I hw)
def b4K (ha:PE X a ta)(hb:PE X (.BoolOp .And (b::rest) pos) tb):PE X (.BoolOp .And (a::b::rest) pos) (a4J ta tb):=by
 intro pins s σ H Q I h
 refine BoolOp_and (thn (ha pins s σ H _ I h) fun v s1 hz9=>?_)
 obtain⟨x,H1,I1,r1,q1⟩:=hz9
 obtain⟨c,rfl,q1⟩:=q1
 cases r1
 refine Xc ?_
 cases c with
 |true=>exact hb pins s1 σ H1 Q I1 q1
 |false=>exact⟨.bl false,H1,I1,rfl,q1⟩
def b4J (ha:PE X a ta):PE X (.UnaryOp .Not a pos) (a4I ta):=by
 intro pins s σ H Q I h
 refine UnaryOp_ (thn (ha pins s σ H _ I h) fun v s1 hz9=>?_)
 obtain⟨x,H1,I1,r1,q1⟩:=hz9
 obtain⟨c,rfl,q1⟩:=q1
 cases r1
 exact not_of (Xc ⟨.bl (!c),H1,I1,rfl,q1⟩)
def tIf (t:TT)(ta tb:TE):TE:=fun σ H Q=>t σ H fun c H1=>if c=true then ta σ H1 Q else tb σ H1 Q
def dC (hc:PT X c tA)(ha:PE X a ta)(hb:PE X b tb):PE X (.IfExp c a b pos) (tIf tA ta tb):=by
 intro pins s σ H Q I h
 refine wpAny_IfExp (thn (hc pins s σ H _ I h) fun d s1 hz9=>?_)
 obtain⟨H1,I1,q1⟩:=hz9
 cases d with
 |true=>exact ha pins s1 σ H1 Q I1 q1
 |false=>exact hb pins s1 σ H1 Q I1 q1
end
def SqL (K:W.Frag)(H:Hp)(a:Addr)(xs:List V):Prop:=
 Rd H a (.lst xs)\/
  ∃(o:Obj)(its:Array Value)(n:Nat),K.lookup a=some o/\o.cls= .type "list"/\o.dict=none/\o.data= .seq its n/\its.size<=sizeLine/\Vals xs its.toList
def SqT (K:W.Frag)(H:Hp)(a:Addr)(xs:List V):Prop:=
 Rd H a (.tup xs)\/
  ∃(o:Obj)(its:Array Value)(n:Nat),K.lookup a=some o/\o.cls= .type "tuple"/\o.data= .seq its n/\its.size<=sizeLine/\Vals xs its.toList
def c1E:Value->Option V
 |.none=>some .non
 |.bool b=>some (.bl b)
 |.int i _=>some (.int i)
 |.str x _=>some (.str x)
 |.bytes b _=>some (.byt b)
 |.float b _=>some (.flt b)
 |.ref a=>some (.ref a)
 |.type n=>some (.ty n)
 |_=>none
def RelV.abs {x:V}(r:RelV x u):c1E u=some x:=by
 cases x with
 |non=>cases r;rfl
 |bl _=>cases r;rfl
 |int _=>obtain⟨t,rfl⟩:=r;rfl
 |str _=>obtain⟨t,rfl⟩:=r;rfl
 |byt _=>obtain⟨t,rfl⟩:=r;rfl
 |flt _=>obtain⟨t,rfl⟩:=r;rfl
 |ref _=>cases r;rfl
 |ty _=>cases r;rfl
def RelV.inj {x y:V}(r:RelV x u)(q:RelV y u):x=y:=Yo (r.abs.symm.trans q.abs)
theorem Vals.inj:∀{xs ys:List V}{us:List Value},Vals xs us->Vals ys us->xs=ys
 |_,_,_,.nil,.nil=>rfl
 |_,_,_,.cons r t,.cons r' t'=>by rw[r.inj r',Vals.inj t t']
section
variable {xs ys:List V}
def SqL.of (h:H a=some (.lst xs)):SqL K H a xs:= .inl (.inl h)
def Vb:=@SqL.of
def SqT.of (h:H a=some (.tup xs)):SqT K H a xs:= .inl (.inl h)
def Vc:=@SqT.of
def Inv.list (I:Inv X pins σ H s)(h:SqL X.K H a xs):∃its:List Value,Vals xs its/\PlainL s.heap a its.toArray/\xs.length<=sizeLine:=by
 rcases h with h | ⟨o,its,n,hk,hc,hd,hs,hz,r⟩
 ·obtain⟨z,its,n,r,e⟩:=h.ok I.hok
  exact⟨its,r,⟨_,n,e,rfl,rfl,rfl⟩,z⟩
 ·refine⟨its.toList,r,⟨o,n,I.kIn a o hk,hc,hd,by simpa using hs⟩,?_⟩
  have e:=r.length
  simp only[Xy]at e
  omega
def Inv.tuple (I:Inv X pins σ H s)(h:SqT X.K H a xs):∃its:List Value,Vals xs its/\IsTup s.heap a its.toArray/\xs.length<=sizeLine:=by
 rcases h with h | ⟨o,its,n,hk,hc,hs,hz,r⟩
 ·obtain⟨z,its,r,p⟩:=h.ok I.hok
  exact⟨its,r,p,z⟩
 ·refine⟨its.toList,r,⟨o,I.kIn a o hk,hc,n,by simpa using hs⟩,?_⟩
  have e:=r.length
  simp only[Xy]at e
  omega
def Inv.list_inj (I:Inv X pins σ H s)(h:SqL X.K H a xs)(h':SqL X.K H a ys):xs=ys:=by
 obtain⟨its,r,⟨o,n,e,_,_,d⟩,_⟩:=I.list h
 obtain⟨its',r',⟨o',n',e',_,_,d'⟩,_⟩:=I.list h'
 rw[e]at e';cases e'
 rw[d]at d'
 injection d' with d1 _
 have:its=its':=by simpa using YJ Array.toList d1
 subst this
 exact r.inj r'
def Inv.tuple_inj (I:Inv X pins σ H s)(h:SqT X.K H a xs)(h':SqT X.K H a ys):xs=ys:=by
 obtain⟨its,r,⟨o,e,_,n,d⟩,_⟩:=I.tuple h
 obtain⟨its',r',⟨o',e',_,n',d'⟩,_⟩:=I.tuple h'
 rw[e]at e';cases e'
 rw[d]at d'
 injection d' with d1 _
 have:its=its':=by simpa using YJ Array.toList d1
 subst this
 exact r.inj r'
end
abbrev Cx.wish (X:Cx)(E:Value->Shared->Prop):Cx:={ X with xe:=E }
abbrev Cx.nox (X:Cx):Cx:=X.wish fun _ _=>False
def Cx.Ok.wish (ok:X.Ok)(E:Value->Shared->Prop):(X.wish E).Ok:=
 ⟨ok.mod,ok.kind,ok.glob,ok.blt,ok.above,ok.inj,ok.has,ok.cab,ok.hd,ok.frames,ok.stk,ok.exf,ok.bs,ok.bsz,ok.noex,ok.exfs,ok.funs,ok.frf⟩
def Cx.Ok.unwish (ok:(X.wish E).Ok):X.Ok:=
 ⟨ok.mod,ok.kind,ok.glob,ok.blt,ok.above,ok.inj,ok.has,ok.cab,ok.hd,ok.frames,ok.stk,ok.exf,ok.bs,ok.bsz,ok.noex,ok.exfs,ok.funs,ok.frf⟩
section
def Inv.wish (I:Inv X pins σ H s)(E:Value->Shared->Prop):Inv (X.wish E) pins σ H s:=⟨I.ok.wish E,I.os,I.bare,I.base,I.loc,I.cell,I.free,I.freeC,I.pin,I.hok,I.len⟩
def Inv.unwish (I:Inv (X.wish E) pins σ H s):Inv X pins σ H s:=⟨I.ok.unwish,I.os,I.bare,I.base,I.loc,I.cell,I.free,I.freeC,I.pin,I.hok,I.len⟩
def SP.unwish {D:Ends}{f:Flow}{s':Shared}(h:SP (X.wish E) pins D f s'):SP X pins D f s':=by
 cases f with
 |next=>obtain⟨σ',H',I,q⟩:=h;exact⟨σ',H',I.unwish,q⟩
 |brk=>obtain⟨σ',H',I,q⟩:=h;exact⟨σ',H',I.unwish,q⟩
 |cont=>obtain⟨σ',H',I,q⟩:=h;exact⟨σ',H',I.unwish,q⟩
 |ret u=>obtain⟨v,σ',H',I,r,q⟩:=h;exact⟨v,σ',H',I.unwish,r,q⟩
def PSs.nox {st:List Stmt}{t:TS}(h:PSs X.nox st t):PSs X st t:=fun pins s σ H D I hw=>
 Y4 (h pins s σ H D (I.wish _) hw) (fun _ _ q=>q.unwish) fun _ _ z=>False.elim z
end
section
variable {st:Stmt}{rest:List Stmt}{t u:TS}
def b6V:TS:=fun D σ H=>D.nx σ H
def b6T (t u:TS):TS:=fun D σ H=>t { D with nx:=u D } σ H
def aU:PSs X [] b6V:=fun _ _ σ H _ I h=>wpAny_execs_nil ⟨σ,H,I,h⟩
def aD (h1:PS X st t)(h2:PSs X rest u):PSs X (st::rest) (b6T t u):=by
 intro pins s σ H D I h
 refine XE (thn (h1 pins s σ H { D with nx:=u D } I h) fun f s1 q=>?_)
 cases f with
 | next=>
  obtain⟨σ',H',I',q⟩:=q
  exact h2 pins s1 σ' H' D I' q
 |ret v=>exact q
 |brk=>exact q
 |cont=>exact q
def aF (h1:PS X st t):PSs X [st] t:=by
 intro pins s σ H D I h
 refine XE (thn (h1 pins s σ H D I h) fun f s1 q=>?_)
 cases f with
 |next=>exact wpAny_execs_nil q
 |ret v=>exact q
 |brk=>exact q
 |cont=>exact q
def Inv.quiet (I:Inv X pins σ H s):interactive X.env=false:=by simp[interactive,I.ok.kind]
def b6X (te:TE):TS:=fun D σ H=>te σ H fun _ H1=>D.nx σ H1
def aW (he:PE X e te)(hs:swapsWith e none pos.line X.env=pure false:=by rfl):PS X (.Expr e pos) (b6X te):=by
 intro pins s σ H D I h
 exact wpAny_Expr_any (thn (he pins s σ H _ I h) fun v s1 ⟨x,H1,I1,r1,q1⟩=>⟨σ,H1,I1,q1⟩) I.quiet hs
def b9N (te:TE):TS:=fun D σ H=>te σ H D.rt
def aN (he:PE X e te):PS X (.Return (some e) pos) (b9N te):=by
 intro pins s σ H D I h
 exact wpAny_Return_some (thn (he pins s σ H _ I h) fun v s1 ⟨x,H1,I1,r1,q1⟩=>⟨x,σ,H1,I1,r1,q1⟩)
def b9Q (c:TT)(t u:TS):TS:=fun D σ H=>c σ H fun b H1=>if b=true then t D σ H1 else u D σ H1
def bM {a b:List Stmt}{tc:TT}(hc:PT X c tc)(ha:PSs X a t)(hb:PSs X b u):PS X (.If c a b pos) (b9Q tc t u):=by
 intro pins s σ H D I h
 refine wpAny_If (thn (hc pins s σ H _ I h) fun d s1 hz9=>?_)
 obtain⟨H1,I1,q1⟩:=hz9
 cases d with
 |true=>exact ha pins s1 σ H1 D I1 q1
 |false=>exact hb pins s1 σ H1 D I1 q1
end
abbrev TG:=V->St->Hp->(St->Hp->Prop)->Prop
abbrev TGs:=List V->St->Hp->(St->Hp->Prop)->Prop
def PG (X:Cx)(target:Expr)(t:TG):Prop:=
 ∀ (pins:List (Addr×Obj))(s:Shared)(σ:St)(H:Hp)(v:V)(u:Value)(Q:St->Hp->Prop),Inv X pins σ H s->RelV v u->t v σ H Q->
  wpAny (model X.prog X.w) X.A (assign target X.env u) (fun _ s'=>∃σ' H',Inv X pins σ' H' s'/\Q σ' H') X.xe s
def PGs (X:Cx)(ts:List Expr)(t:TGs):Prop:=
 ∀ (pins:List (Addr×Obj))(s:Shared)(σ:St)(H:Hp)(vs:List V)(us:List Value)(Q:St->Hp->Prop),Inv X pins σ H s->Vals vs us->t vs σ H Q->
  wpAny (model X.prog X.w) X.A (assignInOrder ((assignEach ts X.env).map (·.2)) us) (fun _ s'=>∃σ' H',Inv X pins σ' H' s'/\Q σ' H') X.xe s
section
def xG (i:Nat):TG:=fun v σ H Q=>Q (σ.set i (some v)) H
def cL (hN:X.N.Nodup)(hi:X.N[i]? =some x)(hx:Loc X.env.scope x)(hf:X.fn x=true\/X.env.scope.names.lookup x=some .local:=by first | exact .inl rfl | exact .inr rfl | assumption):PG X (.Name x pos) (xG i):=by
 intro pins s σ H v u Q I r h
 exact wpAny_assign_Name (kZ I hN hi hx r (fun s' I'=>⟨_,H,I',h⟩) hf)
def b8O:TGs:=fun vs σ H Q=>vs= []/\Q σ H
def a7X (t:TG)(u:TGs):TGs:=fun vs σ H Q=>∃v r,vs=v::r/\t v σ H fun σ' H'=>u r σ' H' Q
def b0J:PGs X [] b8O:=by
 intro pins s σ H vs us Q I r h
 obtain⟨e,h⟩:=h
 subst e
 cases r
 exact assignInOrder_nil ⟨σ,H,I,h⟩
theorem wD {e:Expr}{es:List Expr}{t:TG}{u:TGs}(h1:PG X e t)(h2:PGs X es u)
  (hs:(assignEach (e::es) X.env).map (·.2)=assign e X.env::(assignEach es X.env).map (·.2):=by rfl):PGs X (e::es) (a7X t u):=by
 intro pins s σ H vs us Q I r h
 obtain⟨v,vr,e1,h⟩:=h
 subst e1
 cases r with
 | cons r rr=>
  rw[hs]
  refine assignInOrder_cons (thn (h1 pins s σ H _ _ _ I r h) fun _ s1 hz9=>?_)
  obtain⟨σ1,H1,I1,q1⟩:=hz9
  exact h2 pins s1 σ1 H1 _ _ Q I1 rr q1
def b8N (K:W.Frag)(n:Nat)(t:TGs):TG:=fun v σ H Q=>∃a xs,v= .ref a/\SqT K H a xs/\xs.length=n/\t xs σ H Q
theorem b4H {es:List Expr}{k:Nat}{t:TGs}{n:Nat}(hc:X.calm=true)(h:PGs X es t)
  (hn:(assignEach es X.env).length=n:=by rfl) (hst:(assignEach es X.env).findIdx? (·.1)=none:=by rfl):PG X (.Tuple es k pos) (b8N X.K n t):=by
 intro pins s σ H v u Q I r hw
 obtain⟨a,xs,e1,hq,hl,hw⟩:=hw
 subst e1
 cases r
 obtain⟨its,rv,ht,hz⟩:=I.tuple hq
 refine assign_Tuple_tuple (I.ok.hd hc) ht (by simp[hn,<-hl,rv.length]) hst fun h' hx=>?_
 have I1:Inv X pins σ H { s with heap:=h' }:=I.kept (t':=s.toks) fun b o e=>hx b o (Yy (Ym e)) e
 exact h pins _ σ H xs _ Q I1 (by simpa using rv) hw
def b7B (te:TE)(g:TG):TS:=fun D σ H=>te σ H fun x H1=>g x σ H1 D.nx
def aX {pos':Pos}(hN:X.N.Nodup)(hi:X.N[i]? =some x)(hx:Loc X.env.scope x)(he:PE X e te)(hs:swapsWith e (some (.Name x pos')) pos.line X.env=pure false:=by rfl)(hf:X.fn x=true\/X.env.scope.names.lookup x=some .local:=by first | exact .inl rfl | exact .inr rfl | assumption):
  PS X (.Assign [.Name x pos'] e pos) (b7B te (xG i)):=by
 intro pins s σ H D I h
 refine wpAny_Assign_Name (thn (he pins s σ H _ I h) fun v s1 hz9=>?_) hs
 obtain⟨y,H1,I1,r1,q1⟩:=hz9
 exact kZ I1 hN hi hx r1 (fun s2 I2=>⟨_,H1,I2,q1⟩) hf
end
section
def b3H (c:TT)(tb:TS):TS:=fun D σ H=>∃W:Nat->St->Hp->Prop,(∃m,W m σ H)/\∀m σ H,W m σ H->
 c σ H fun b H1=>if b=true then ∃N:St->Hp->Prop,(∀σ' H',N σ' H'->∃m',m'<m/\W m' σ' H')/\tb { D with nx:=N,ct:=N,bk:=D.nx } σ H1 else D.nx σ H1
def a6G {body:List Stmt}{tc:TT}{tb:TS}(hp:PassesOwn (model X.prog X.w) X.A X.env X.xe)(hc:PT X c tc)(hb:PSs X body tb):PS X (.While c body [] pos) (b3H tc tb):=by
 intro pins s σ H D I h
 obtain⟨W,⟨m0,w0⟩,turn⟩:=h
 refine wpAny_While (codeAny_whileLoop (fun n s'=>∃σ' H',Inv X pins σ' H' s'/\W n σ' H') ?_ m0 ⟨σ,H,I,w0⟩)
 rintro n s1 ⟨σ1,H1,I1,w1⟩
 refine Xu hp (thn (hc pins s1 σ1 H1 _ I1 (turn n σ1 H1 w1)) fun b s2 hz9=>?_)
 obtain⟨H2,I2,q2⟩:=hz9
 cases b with
 | true=>
  obtain⟨N,hN,q2⟩:=q2
  rw[if_pos rfl]
  refine Xu hp (thn (hb pins s2 σ1 H2 _ I2 q2) fun f s3 q3=>?_)
  cases f with
  | next=>
   obtain⟨σ3,H3,I3,n3⟩:=q3
   obtain⟨m',hm,w3⟩:=hN σ3 H3 n3
   exact⟨m',hm,σ3,H3,I3,w3⟩
  | cont=>
   obtain⟨σ3,H3,I3,n3⟩:=q3
   obtain⟨m',hm,w3⟩:=hN σ3 H3 n3
   exact⟨m',hm,σ3,H3,I3,w3⟩
  |brk=>exact q3
  |ret v=>exact q3
 | false=>
  rw[if_neg Yq]
  exact wpAny_execs_nil ⟨σ1,H2,I2,q2⟩
end
structure It where
 go:Nat->Hp->Prop
 yld:Nat->Hp->V->Hp->Prop
 stop:Nat->Hp->Prop
def pI (X:Cx)(pins:List (Addr×Obj))(H:Hp)(b:Addr):Prop:=
 H b=none/\b≠X.env.locals/\b∉X.fs/\(b∈X.ex\/X.s₀.heap.objs.size<=b)/\(∀x c,X.env.cells.lookup x=some c->c≠b)/\∀p∈X.pn++pins,p.1≠b
def Inv.fpOk (I:Inv X pins σ H s)(hb:s.heap.objs.size<=b)(hn:H' b=none):pI X pins H' b:=by
 refine⟨hn,XJ (Ye I.lt hb),I.nofs hb,.inr (YN I.sz hb),fun x c e z=>?_,fun p hp z=>?_⟩
 ·obtain⟨v,q⟩:=I.cell x c e
  exact absurd (Ye q.lt (by rw[z];exact hb)) (YW _)
 ·exact absurd (Ye (Ym (I.pin p hp).1) (by rw[z];exact hb)) (YW _)
structure Turn (P:Program)(w:World)(K:W.Frag)(tg:Expr)(J:It)(fp:List Addr)(it:Addr)(tn:Nat->Heap->Prop):Prop where
 mem:it∈fp
 obj:∀i h,tn i h->∀b∈fp,∃o,h.get? b=some o/\∀v,o.data≠ .cell v
 keep:∀i h h',tn i h->(∀b∈fp,∀o,h.get? b=some o->h'.get? b=some o)->tn i h'
 item :∀(X:Cx),X.prog=P->X.w=w->X.K=K->X.calm=true->∀(i:Nat)(pins:List (Addr×Obj))(s:Shared)(σ:St)(H:Hp)(E:Value->Shared->Prop),Inv X pins σ H s->(∀b∈fp,pI X pins H b)->tn i s.heap->J.go i H->
  wpAny (model P w) X.A (pyNext (.ref it)) (fun r s1=>∃u,r=some u/\
   wpAny (model P w) X.A (letOwnedTupleGo tg (.ref it) u) (fun _ s2=>∃x H',Inv X pins σ H' s2/\RelV x u/\J.yld i H x H'/\tn (i+1) s2.heap/\∀b∈fp,H' b=none) E s1) E s
 done:∀(X:Cx),X.prog=P->X.w=w->X.K=K->X.calm=true->∀(i:Nat)(pins:List (Addr×Obj))(s:Shared)(σ:St)(H:Hp)(E:Value->Shared->Prop),Inv X pins σ H s->(∀b∈fp,pI X pins H b)->tn i s.heap->J.stop i H->
  wpAny (model P w) X.A (pyNext (.ref it)) (fun r s1=>r=none/\Inv X pins σ H s1) E s
 self:∀(A:Around)(i:Nat)(s:Shared)(Q:Value->Shared->Prop)(E:Value->Shared->Prop),tn i s.heap->Q (.ref it) s->wpAny (model P w) A (pyIter (.ref it)) Q E s
abbrev TI:=St->Hp->(It->Hp->Prop)->Prop
def PIE (X:Cx)(pins:List (Addr×Obj))(σ:St)(tg:Expr)(R:It->Hp->Prop)(itv:Value)(s2:Shared):Prop:=
 ∃(it:Addr)(fp:List Addr)(tn:Nat->Heap->Prop)(J:It)(H':Hp),itv= .ref it/\Inv X pins σ H' s2/\Turn X.prog X.w X.K tg J fp it tn/\tn 0 s2.heap/\(∀b∈fp,pI X pins H' b)/\R J H'
def PI (X:Cx)(tg iter:Expr)(wi:TI):Prop:=
 ∀ (pins:List (Addr×Obj))(s:Shared)(σ:St)(H:Hp)(R:It->Hp->Prop),Inv X pins σ H s->wi σ H R->
  wpAny (model X.prog X.w) X.A (eval iter X.env) (fun v s1=>wpAny (model X.prog X.w) X.A (pyIter v) (PIE X pins σ tg R) X.xe s1) X.xe s
theorem a7V {M:Model}{A:Around}{E:Value->Shared->Prop}{s:Shared}{tg:Expr}{it:Addr}{u:Value}{o:Obj}{n:String}{vs:Array Value}{Q:Unit->Shared->Prop}(ho:s.heap.get? it=some o)(hc:o.cls= .type n)(hd:o.data= .fields vs)
    (hn:["enumerate","zip","dict_itemiterator","dict_reverseitemiterator","odict_iterator","itertools.zip_longest","itertools.pairwise"].contains n=false) (hQ:Q () s):wpAny M A (letOwnedTupleGo tg (.ref it) u) Q E s:=by
  unfold letOwnedTupleGo
  cases tg <;> first
    |exact Xd hQ
    | (cases u <;> first
        |exact Xd hQ
        | (refine YY (wpAny_load ho ?_)
           rw[hc,hd]
           show wpAny M A (if (["enumerate","zip","dict_itemiterator","dict_reverseitemiterator","odict_iterator","itertools.zip_longest","itertools.pairwise"].contains n && vs[0]? == some (rawInt _))=true then _ else _) Q E s
           rw[if_neg (by intro h;rw[hn,Bool.false_and]at h;cases h)]
           exact Xd hQ))
def Itl (K:W.Frag)(a:Addr):It:=
 ⟨fun i H=>∃xs x,SqL K H a xs/\xs[i]? =some x,fun i H x H'=>H'=H/\∀xs,SqL K H a xs->xs[i]? =some x,fun i H=>∃xs,SqL K H a xs/\xs.length<=i⟩
def Itt (K:W.Frag)(a:Addr):It:=
 ⟨fun i H=>∃xs x,SqT K H a xs/\xs[i]? =some x,fun i H x H'=>H'=H/\∀xs,SqT K H a xs->xs[i]? =some x,fun i H=>∃xs,SqT K H a xs/\xs.length<=i⟩
def Itr (lo:Int)(n:Nat):It:=⟨fun i _=>i<n,fun i H x H'=>H'=H/\x= .int (lo+i),fun i _=>n<=i⟩
def sE (a it:Addr):Turn P w K tg (Itl K a) [it] it (fun i h=>h.IsListIter it a i) where
 mem:=by simp
 obj:=fun i h st b hb=>by
  have e:b=it:=by simpa using hb
  subst e
  obtain⟨o,e,c,d⟩:=st
  exact⟨o,e,fun v z=>by rw[d]at z;cases z⟩
 keep:=fun i h h' st k=>st.at fun o e=>k it (by simp) o e
 item:=by
  intro X hP hw hK hc i pins s σ H E I hf st hg
  subst hP hw hK
  obtain⟨xs,x,hq,hx⟩:=hg
  obtain⟨its,rv,p,hz⟩:=I.list hq
  obtain⟨u,hu,ru⟩:=rv.get hx
  obtain⟨f0,f1,f2,f3,f4,f5⟩:=hf it (by simp)
  refine wpAny_pyNext_list_item st p.isList (x:=u) (by simpa using hu) fun h' st' sb=>?_
  have I1:Inv X pins σ H { s with heap:=h' }:=I.turned (t':=s.toks) (fun b o hb e=>(sb.2 b hb).trans e) f0 f1 f3 f4 f5
  obtain⟨o,e,c,d⟩:=id st'
  exact⟨u,rfl,a7V (s:={ s with heap:=h' }) e c d (by decide) ⟨x,H,I1,ru,⟨rfl,fun ys hy=>by rw[I.list_inj hy hq];exact hx⟩,st',fun b hb=>(hf b hb).1⟩⟩
 done:=by
  intro X hP hw hK hc i pins s σ H E I hf st hg
  subst hP hw hK
  obtain⟨xs,hq,hx⟩:=hg
  obtain⟨its,rv,p,hz⟩:=I.list hq
  obtain⟨f0,f1,f2,f3,f4,f5⟩:=hf it (by simp)
  have hl:=rv.length
  exact wpAny_pyNext_list_end (I.ok.hd hc) st p.isList (by simp;omega) fun h' eb=>⟨rfl,I.turned (t':=s.toks) (fun b o hb e=>eb b o hb e) f0 f1 f3 f4 f5⟩
 self:=fun _ _ _ _ _ st h=>wpAny_pyIter_listiter st h
def yD (a it:Addr):Turn P w K tg (Itt K a) [it] it (fun i h=>h.IsTupleIter it a i) where
 mem:=by simp
 obj:=fun i h st b hb=>by
  have e:b=it:=by simpa using hb
  subst e
  obtain⟨o,e,c,d⟩:=st
  exact⟨o,e,fun v z=>by rw[d]at z;cases z⟩
 keep:=fun i h h' st k=>st.at fun o e=>k it (by simp) o e
 item:=by
  intro X hP hw hK hc i pins s σ H E I hf st hg
  subst hP hw hK
  obtain⟨xs,x,hq,hx⟩:=hg
  obtain⟨its,rv,p,hz⟩:=I.tuple hq
  obtain⟨u,hu,ru⟩:=rv.get hx
  obtain⟨f0,f1,f2,f3,f4,f5⟩:=hf it (by simp)
  refine wpAny_pyNext_tuple_item st (show s.heap.IsTuple a its.toArray from p) (x:=u) (by simpa using hu) fun h' st' sb=>?_
  have I1:Inv X pins σ H { s with heap:=h' }:=I.turned (t':=s.toks) (fun b o hb e=>(sb.2 b hb).trans e) f0 f1 f3 f4 f5
  obtain⟨o,e,c,d⟩:=id st'
  exact⟨u,rfl,a7V (s:={ s with heap:=h' }) e c d (by decide) ⟨x,H,I1,ru,⟨rfl,fun ys hy=>by rw[I.tuple_inj hy hq];exact hx⟩,st',fun b hb=>(hf b hb).1⟩⟩
 done:=by
  intro X hP hw hK hc i pins s σ H E I hf st hg
  subst hP hw hK
  obtain⟨xs,hq,hx⟩:=hg
  obtain⟨its,rv,p,hz⟩:=I.tuple hq
  obtain⟨f0,f1,f2,f3,f4,f5⟩:=hf it (by simp)
  have hl:=rv.length
  exact wpAny_pyNext_tuple_end (I.ok.hd hc) st (show s.heap.IsTuple a its.toArray from p) (by simp;omega) fun h' eb=>⟨rfl,I.turned (t':=s.toks) (fun b o hb e=>eb b o hb e) f0 f1 f3 f4 f5⟩
 self:=fun _ _ _ _ _ st h=>wpAny_pyIter_tupleiter st h
def yE (it:Addr)(lo:Int)(n:Nat):Turn P w K tg (Itr lo n) [it] it (fun i h=>IsRangeIter h it (lo+(i:Nat)*1) ((n:Int)-(i:Nat)) 1) where
 mem:=by simp
 obj :=fun i h st b hb=>by
  have e:b=it:=by simpa using hb
  subst e
  exact⟨_,st,fun v z=>by
   have z':Data.fields _=Data.cell v:=z
   cases z'⟩
 keep:=fun i h h' st k=>k it (by simp) _ st
 item:=by
  intro X hP hw hK hc i pins s σ H E I hf st hg
  subst hP hw hK
  obtain⟨f0,f1,f2,f3,f4,f5⟩:=hf it (by simp)
  have W:=Walks.range (prog:=X.prog) (w:=X.w) (I.ok.hd hc) it lo 1 n
  refine W.item i s _ _ hg st fun v h' tk hv st' kk=>?_
  obtain⟨t,rfl⟩:=hv
  have I1:Inv X pins σ H { s with heap:=h',toks:=tk }:=I.turned (fun b o hb e=>kk b o (by simpa using hb) e) f0 f1 f3 f4 f5
  refine⟨_,rfl,a7V (s:={ s with heap:=h',toks:=tk }) (n:="range_iterator") st' rfl rfl (by decide) ⟨.int (lo+i),H,I1,⟨t,?_⟩,⟨rfl,rfl⟩,st',fun b hb=>(hf b hb).1⟩⟩
  rw[Int.mul_one]
 done:=by
  intro X hP hw hK hc i pins s σ H E I hf st hg
  subst hP hw hK
  obtain⟨f0,f1,f2,f3,f4,f5⟩:=hf it (by simp)
  exact wpAny_pyNext_range_end (I.ok.hd hc) st (by have:n<=i:=hg;omega) fun h' eb=>⟨rfl,I.turned (t':=s.toks) (fun b o hb e=>eb b o hb e) f0 f1 f3 f4 f5⟩
 self:=fun _ _ _ _ _ st h=>wpAny_pyIter_rangeiter st h
section
def b8M (K:W.Frag)(tl:TE):TI:=fun σ H R=>tl σ H fun x H1=>∃a,x= .ref a/\(∃xs,SqL K H1 a xs)/\R (Itl K a) H1
def b0I {l:Expr}{tl:TE}(hl:PE X l tl):PI X tg l (b8M X.K tl):=by
 intro pins s σ H R I h
 refine thn (hl pins s σ H _ I h) fun v s1 hz9=>?_
 obtain⟨x,H1,I1,r1,q1⟩:=hz9
 obtain⟨a,e,⟨xs,hq⟩,q⟩:=q1
 subst e
 cases r1
 obtain⟨its,rv,p,hz⟩:=I1.list hq
 refine wpAny_pyIter_list p.isList ?_
 refine⟨s1.heap.objs.size, [s1.heap.objs.size],_,_,H1,rfl,I1.kept (t':=s1.toks) fun b o e=>Yg _ e,sE a _,⟨_,Yu _ rfl,rfl,rfl⟩,fun b hb=>?_,q⟩
 have e:b=s1.heap.objs.size:=by simpa using hb
 subst e
 exact I1.fpOk (Yf _) (I1.hok.fresh (Yf _))
theorem a5Z {pins:List (Addr×Obj)}{σ:St}{H:Hp}{s:Shared}{R:It->Hp->Prop}{E:Value->Shared->Prop}{lo hi:Int}{t u v:Tok}{tk:Nat}(I:Inv X pins σ H s)(h1: -(2 ^ 62)<=lo)(h2:lo<2 ^ 62)(h3: -(2 ^ 62)<=hi)(h4:hi<2 ^ 62)
  (q:R (Itr lo (hi-lo).toNat) H):wpAny (model X.prog X.w) X.A (pyIter (.ref s.heap.objs.size)) (PIE X pins σ tg R) E { s with heap:=s.heap.push { cls:= .type "range",data:= .fields #[.int lo t,.int hi u,.int 1 v] },toks:=tk }:=by
 refine wpAny_pyIter_range (IsRange.new ..) (small_one h1 h2 h3 h4) ?_
 have I1:Inv X pins σ H { s with heap:=s.heap.push { cls:= .type "range",data:= .fields #[.int lo t,.int hi u,.int 1 v] },toks:=tk }:=I.kept fun b o e=>Yg _ e
 refine⟨(s.heap.push { cls:= .type "range",data:= .fields #[.int lo t,.int hi u,.int 1 v] }).objs.size, [(s.heap.push { cls:= .type "range",data:= .fields #[.int lo t,.int hi u,.int 1 v] }).objs.size],_,_,H,rfl,
  I1.kept (t':=tk) fun b o e=>Yg _ e,yE _ lo (hi-lo).toNat,?_,fun b hb=>?_,q⟩
 ·have e1:lo+((0:Nat):Int)*1=lo:=by simp
  have e2:(((hi-lo).toNat:Nat):Int)-((0:Nat):Int)=Builtin.Range.rangeSize lo hi 1:=by rw[rangeSize_one];split <;> omega
  show IsRangeIter _ _ (lo+((0:Nat):Int)*1) ((((hi-lo).toNat:Nat):Int)-((0:Nat):Int)) 1
  rw[e1,e2]
  exact Yu _ rfl
 ·have e:b=(s.heap.push { cls:= .type "range",data:= .fields #[.int lo t,.int hi u,.int 1 v] }).objs.size:=by simpa using hb
  subst e
  exact I1.fpOk (Yf _) (I1.hok.fresh (Yf _))
def b8L (ta:TA):TI:=fun σ H R=>ta σ H fun vs H1=>∃j:Int,vs= [.int j]/\ -(2 ^ 62)<=j/\j<2 ^ 62/\R (Itr 0 j.toNat) H1
def a2P {a:Expr}{ta:TA}(hg:Gl X "range")(hm:X.mg "range"=none)(ha:PA X [a] ta)(hs:starEach [a] X.env= [(false,eval a X.env)]:=by rfl):PI X tg (.Call (.Name "range" p) [a] [] pos) (b8L ta):=by
 intro pins s σ H R I h
 refine Call_ (qR I hg hm boot_range (PyProof.Rows.callWith_type1 (thn (ha pos pins s σ H _ I h) fun us s1 hz9=>?_) hs rfl))
 obtain⟨vs,H1,I1,r1,q1⟩:=hz9
 obtain⟨j,e,q1,q2,q⟩:=q1
 subst e
 cases r1 with
 | cons r rr=>
  cases rr
  obtain⟨t,rfl⟩:=r
  exact call_range_1 (a5Z I1 (by omega) (by omega) q1 q2 (by simpa using q))
def b9R (wi:TI)(g:TG)(tb:TS):TS:=fun D σ H=>wi σ H fun J H1=>∃W:Nat->Nat->St->Hp->Prop,(∃m,W 0 m σ H1)/\∀i m σ H,W i m σ H->
 (J.stop i H/\D.nx σ H)\/(J.go i H/\∃N:St->Hp->Prop,(∀σ' H',N σ' H'->∃m',m'<m/\W (i+1) m' σ' H')/\∀x H',J.yld i H x H'->g x σ H' fun σ2 H2=>tb { D with nx:=N,ct:=N,bk:=D.nx } σ2 H2)
def qM (fp:List Addr)(h:Heap):List (Addr×Obj):=fp.filterMap fun b=>(h.get? b).map fun o=>(b,o)
def jW {o:Obj}(hb:b∈fp)(e:h.get? b=some o):(b,o)∈qM fp h:=List.mem_filterMap.mpr ⟨b,hb,by rw[e];rfl⟩
def a2R {p:Addr×Obj}(hp:p∈qM fp h):p.1∈fp/\h.get? p.1=some p.2:=by
 obtain⟨b,hb,e⟩:=List.mem_filterMap.mp hp
 cases q:h.get? b with
 |none=>rw[q]at e;cases e
 | some o=>
  rw[q]at e
  have e':(b,o)=p:=Yo e
  subst e'
  exact⟨hb,q⟩
def Inv.pinned (I:Inv X pins σ H s)(hf:∀b∈fp,pI X pins H b)(ho:∀b∈fp,∃o,s.heap.get? b=some o/\∀v,o.data≠ .cell v):Inv X (pins++qM fp s.heap) σ H s:=
 I.pins_of fun p hp=>(YB.mp hp).elim (fun z=>I.pin p (YS _ z)) fun z=>by
  obtain⟨hb,e⟩:=a2R z
  obtain⟨f0,f1,f2,_⟩:=hf p.1 hb
  obtain⟨o,e',d⟩:=ho p.1 hb
  rw[e]at e';cases e'
  exact⟨e,f0,f1,f2,d⟩
def Inv.unpinned {pl:List (Addr×Obj)}(I:Inv X (pins++pl) σ H s):Inv X pins σ H s:=I.pins_of fun p hp=>I.pin p (YS _ (List.mem_append_left _ hp))
theorem dH {iter:Expr}{body:List Stmt}{wi:TI}{g:TG}{tb:TS}{pos:Pos}(hp:PassesOwn (model X.prog X.w) X.A X.env X.xe)(hc:X.calm=true)(hi:PI X tg iter wi)(hg:PG X tg g)(hb:PSs X body tb)
  (hs:∀x,foldedSetIterable iter X.env x=pure x:=by intro _;rfl):PS X (.For tg iter body [] pos) (b9R wi g tb):=by
 intro pins s σ H D I h
 refine wpAny_For (thn (hi pins s σ H _ I h) fun v s1 h1=>thn h1 fun itv s2 h2=>?_) hs
 obtain⟨it,fp,tn,J,H2,e,I2,T,st2,f2,W,⟨m0,w0⟩,turn⟩:=h2
 subst e
 have stat:∀{H':Hp},(∀b∈fp,H' b=none)->∀b∈fp,pI X pins H' b:=fun hn b hb=>⟨hn b hb,(f2 b hb).2⟩
 refine codeAny_forLoop_any (fun n s'=>∃i σ' H',Inv X pins σ' H' s'/\tn i s'.heap/\(∀b∈fp,H' b=none)/\W i n σ' H') ?_ m0 ⟨0,σ,H2,I2,st2,fun b hb=>(f2 b hb).1,w0⟩
 rintro n s3 ⟨i,σ3,H3,I3,st3,fr3,w3⟩
 rcases turn i n σ3 H3 w3 with ⟨stop,qn⟩ | ⟨go,N,hN,step⟩
 ·refine Xu hp (thn (T.done X rfl rfl rfl hc i pins s3 σ3 H3 X.xe I3 (stat fr3) st3 stop) fun r s4 ⟨hr,I4⟩=>?_)
  subst hr
  exact wpAny_execs_nil ⟨σ3,H3,I4,qn⟩
 ·refine Xu hp (thn (T.item X rfl rfl rfl hc i pins s3 σ3 H3 X.xe I3 (stat fr3) st3 go) fun r s4 hz9=>?_)
  obtain⟨u,hr,h4⟩:=hz9
  subst hr
  refine Xu hp (thn h4 fun _ s5 hz9=>?_)
  obtain⟨x,H5,I5,r5,y5,st5,fr5⟩:=hz9
  have I5':=I5.pinned (stat fr5) (T.obj _ _ st5)
  refine Xu hp (thn (hg _ s5 σ3 H5 x u _ I5' r5 (step x H5 y5)) fun _ s6 hz9=>?_)
  obtain⟨σ6,H6,I6,q6⟩:=hz9
  refine Xu hp (thn (hb _ s6 σ6 H6 _ I6 q6) fun f s7 q7=>?_)
  have again:∀{σ7:St}{H7:Hp},Inv X (pins++qM fp s5.heap) σ7 H7 s7->N σ7 H7->∃m,m<n/\∃i σ' H',Inv X pins σ' H' s7/\tn i s7.heap/\(∀b∈fp,H' b=none)/\W i m σ' H':=fun {σ7 H7} I7 n7=>by
   obtain⟨m',hm,w7⟩:=hN σ7 H7 n7
   refine⟨m',hm,i+1,σ7,H7,I7.unpinned,T.keep _ _ _ st5 fun b hb o e=>(I7.pin (b,o) (YS _ (YS _ (jW hb e)))).1,fun b hb=>?_,w7⟩
   obtain⟨o,e,d⟩:=T.obj _ _ st5 b hb
   exact(I7.pin (b,o) (YS _ (YS _ (jW hb e)))).2.1
  cases f with
  |next=>obtain⟨σ7,H7,I7,n7⟩:=q7;exact again I7 n7
  |cont=>obtain⟨σ7,H7,I7,n7⟩:=q7;exact again I7 n7
  |brk=>obtain⟨σ7,H7,I7,q7⟩:=q7;exact⟨σ7,H7,I7.unpinned,q7⟩
  |ret v=>obtain⟨x7,σ7,H7,I7,r7,q7⟩:=q7;exact⟨x7,σ7,H7,I7.unpinned,r7,q7⟩
end
theorem eO {K:W.Frag}{a:Addr}{xs:List V}{g:TG}{tb:TS}{D:Ends}{σ:St}{H:Hp}(Pv:Nat->St->Hp->Prop)(h0:Pv 0 σ H)(hl:∀i σ H,i<=xs.length->Pv i σ H->SqL K H a xs)
  (hs:∀i x σ H,xs[i]? =some x->Pv i σ H->g x σ H fun σ2 H2=>tb { D with nx:=Pv (i+1),ct:=Pv (i+1),bk:=D.nx } σ2 H2) (hd:∀σ H,Pv xs.length σ H->D.nx σ H) :
  ∃ W:Nat->Nat->St->Hp->Prop,(∃m,W 0 m σ H)/\∀i m σ H,W i m σ H->
   ((Itl K a).stop i H/\D.nx σ H)\/((Itl K a).go i H/\∃N:St->Hp->Prop,(∀σ' H',N σ' H'->∃m',m'<m/\W (i+1) m' σ' H')/\∀x H',(Itl K a).yld i H x H'->g x σ H' fun σ2 H2=>tb { D with nx:=N,ct:=N,bk:=D.nx } σ2 H2):=by
 refine⟨fun i m σ H=>m=xs.length-i/\i<=xs.length/\Pv i σ H,⟨xs.length,by simp,YO _,h0⟩,?_⟩
 rintro i m σ H ⟨rfl,hi,p⟩
 have q:=hl i σ H hi p
 by_cases hlt:i<xs.length
 ·refine .inr ⟨⟨xs,xs[i],q,by simp[hlt]⟩,Pv (i+1),fun σ' H' p'=>⟨xs.length-(i+1),by omega,rfl,hlt,p'⟩,fun x H' y=>?_⟩
  obtain⟨e,y⟩:=y
  subst e
  exact hs i x σ _ (y xs q) p
 ·have e:i=xs.length:=by omega
  subst e
  exact .inl ⟨⟨xs,q,Yf _⟩,hd σ H p⟩
theorem gP {lo:Int}{n:Nat}{g:TG}{tb:TS}{D:Ends}{σ:St}{H:Hp}(Pv:Nat->St->Hp->Prop)(h0:Pv 0 σ H)
  (hs:∀i σ H,i<n->Pv i σ H->g (.int (lo+i)) σ H fun σ2 H2=>tb { D with nx:=Pv (i+1),ct:=Pv (i+1),bk:=D.nx } σ2 H2) (hd:∀σ H,Pv n σ H->D.nx σ H) :
  ∃ W:Nat->Nat->St->Hp->Prop,(∃m,W 0 m σ H)/\∀i m σ H,W i m σ H->
   ((Itr lo n).stop i H/\D.nx σ H)\/((Itr lo n).go i H/\∃N:St->Hp->Prop,(∀σ' H',N σ' H'->∃m',m'<m/\W (i+1) m' σ' H')/\∀x H',(Itr lo n).yld i H x H'->g x σ H' fun σ2 H2=>tb { D with nx:=N,ct:=N,bk:=D.nx } σ2 H2):=by
 refine⟨fun i m σ H=>m=n-i/\i<=n/\Pv i σ H,⟨n,by simp,YO _,h0⟩,?_⟩
 rintro i m σ H ⟨rfl,hi,p⟩
 by_cases hlt:i<n
 ·refine .inr ⟨hlt,Pv (i+1),fun σ' H' p'=>⟨n-(i+1),by omega,rfl,hlt,p'⟩,fun x H' y=>?_⟩
  obtain⟨e,y⟩:=y
  subst e y
  exact hs i σ _ hlt p
 ·have e:i=n:=by omega
  subst e
  exact .inl ⟨Yf _,hd σ H p⟩
abbrev R2:=V->V->Hp->VK->Prop
variable {r:R2}
def OpR (X:Cx)(f:Value->Value->Sem Value)(r:R2):Prop:=
 ∀ (pins:List (Addr×Obj))(s:Shared)(σ:St)(H:Hp)(x y:V)(v u:Value)(Q:VK),Inv X pins σ H s->RelV x v->RelV y u->r x y H Q->
  wpAny (model X.prog X.w) X.A (f v u) (EP X pins σ Q) X.xe s
def UnR (X:Cx)(f:Value->Sem Value)(r:V->Hp->VK->Prop):Prop:=
 ∀ (pins:List (Addr×Obj))(s:Shared)(σ:St)(H:Hp)(x:V)(v:Value)(Q:VK),Inv X pins σ H s->RelV x v->r x H Q->
  wpAny (model X.prog X.w) X.A (f v) (EP X pins σ Q) X.xe s
def fJ (X:Cx)(f:Value)(r:List V->Hp->VK->Prop):Prop:=
 ∀ (pins:List (Addr×Obj))(s:Shared)(σ:St)(H:Hp)(xs:List V)(us:List Value)(Q:VK),Inv X pins σ H s->Vals xs us->r xs H Q->
  wpAny (model X.prog X.w) X.A (call f us) (EP X pins σ Q) X.xe s
def tOp (r:R2)(ta tb:TE):TE:=fun σ H Q=>ta σ H fun x H1=>tb σ H1 fun y H2=>r x y H2 Q
def tUn (r:V->Hp->VK->Prop)(ta:TE):TE:=fun σ H Q=>ta σ H fun x H1=>r x H1 Q
def rI (C:Int->Int->Prop)(g:Int->Int->V):R2:=fun x y H Q=>∃i j,x= .int i/\y= .int j/\C i j/\Q (g i j) H
def rI0 (g:Int->Int->V):R2:=fun x y H Q=>∃i j,x= .int i/\y= .int j/\Q (g i j) H
def rU (g:Int->V):V->Hp->VK->Prop:=fun x H Q=>∃i,x= .int i/\Q (g i) H
section
variable {a b:Expr}{tc:TE}
theorem b6D (ha:PE X a ta)(hb:PE X b tb){pins:List (Addr×Obj)}{s:Shared}{σ:St}{H:Hp}{R:V->V->Hp->Prop}(I:Inv X pins σ H s)
  (h:ta σ H fun x H1=>tb σ H1 fun y H2=>R x y H2) {Q:Value->Shared->Prop} {f:Value->Value->Sem Value}
  (hf:∀v u s2 x y H2,Inv X pins σ H2 s2->RelV x v->RelV y u->R x y H2->wpAny (model X.prog X.w) X.A (f v u) Q X.xe s2) :
  wpAny (model X.prog X.w) X.A (eval a X.env) (fun v s₁=>wpAny (model X.prog X.w) X.A (eval b X.env) (fun u s₂=>wpAny (model X.prog X.w) X.A (f v u) Q X.xe s₂) X.xe s₁) X.xe s:=by
 refine thn (ha pins s σ H _ I h) fun v s1 hz9=>?_
 obtain⟨x,H1,I1,r1,q1⟩:=hz9
 refine thn (hb pins s1 σ H1 _ I1 q1) fun u s2 hz9=>?_
 obtain⟨y,H2,I2,r2,q2⟩:=hz9
 exact hf v u s2 x y H2 I2 r1 r2 q2
def aZ {op:Operator}(ho:OpR X (binaryOp op) r)(ha:PE X a ta)(hb:PE X b tb):PE X (.BinOp a op b pos) (tOp r ta tb):=by
 intro pins s σ H Q I h
 exact wpAny_BinOp (b6D ha hb I h fun v u s2 x y H2 I2 rx ry q=>ho pins s2 σ H2 x y v u Q I2 rx ry q)
def b2R {op:UnaryOp}{r:V->Hp->VK->Prop}(ho:UnR X (unaryOp op) r)(ha:PE X a ta):PE X (.UnaryOp op a pos) (tUn r ta):=by
 intro pins s σ H Q I h
 exact UnaryOp_ (thn (ha pins s σ H _ I h) fun v s1 ⟨x,H1,I1,r1,q1⟩=>ho pins s1 σ H1 x v Q I1 r1 q1)
theorem opI {f:Value->Value->Sem Value}{C:Int->Int->Prop}{g:Int->Int->Int}
  (rule:∀(i j:Int)(t u:Tok)(s:Shared)(Q:Value->Shared->Prop)(E:Value->Shared->Prop),C i j->Q (.int (g i j) s.toks) { s with toks:=s.toks+1 }->wpAny (model X.prog X.w) X.A (f (.int i t) (.int j u)) Q E s) :
  OpR X f (rI C fun i j=> .int (g i j)):=by
 intro pins s σ H x y v u Q I rx ry h
 obtain⟨i,j,rfl,rfl,hc,q⟩:=h
 obtain⟨t,rfl⟩:=rx
 obtain⟨t',rfl⟩:=ry
 exact rule i j t t' s _ _ hc ⟨.int (g i j),H,I.tok _,⟨_,rfl⟩,q⟩
theorem b0O {f:Value->Value->Sem Value}{g:Int->Int->Int}
  (rule:∀(i j:Int)(t u:Tok)(s:Shared)(Q:Value->Shared->Prop)(E:Value->Shared->Prop),Q (.int (g i j) s.toks) { s with toks:=s.toks+1 }->wpAny (model X.prog X.w) X.A (f (.int i t) (.int j u)) Q E s) :
  OpR X f (rI0 fun i j=> .int (g i j)):=by
 intro pins s σ H x y v u Q I rx ry h
 obtain⟨i,j,rfl,rfl,q⟩:=h
 obtain⟨t,rfl⟩:=rx
 obtain⟨t',rfl⟩:=ry
 exact rule i j t t' s _ _ ⟨.int (g i j),H,I.tok _,⟨_,rfl⟩,q⟩
theorem b0P {f:Value->Value->Sem Value}{g:Int->Int->Bool}
  (rule:∀(i j:Int)(t u:Tok)(s:Shared)(Q:Value->Shared->Prop)(E:Value->Shared->Prop),Q (.bool (g i j)) s->wpAny (model X.prog X.w) X.A (f (.int i t) (.int j u)) Q E s) :
  OpR X f (rI0 fun i j=> .bl (g i j)):=by
 intro pins s σ H x y v u Q I rx ry h
 obtain⟨i,j,rfl,rfl,q⟩:=h
 obtain⟨t,rfl⟩:=rx
 obtain⟨t',rfl⟩:=ry
 exact rule i j t t' s _ _ ⟨.bl (g i j),H,I,rfl,q⟩
def b9H (i j:Int):Prop:=0<j/\j<1073741824
def xZ (k:Nat):(0:Int)<=2 ^ k:=by
 rw[two_pow_cast]
 exact Int.natCast_nonneg _
def b4V:OpR X (binaryOp .Add) (rI0 fun i j=> .int (i+j)):=b0O fun _ _ _ _ _ _ _ q=>add_int q
def b4O:OpR X (binaryOp .Sub) (rI0 fun i j=> .int (i-j)):=b0O fun _ _ _ _ _ _ _ q=>sub_int q
def b0N:OpR X (binaryOp .FloorDiv) (rI b9H fun i j=> .int (i / j)):=opI fun i j _ _ _ _ _ hc q=>by
 have h1:(0:Int)<j:=hc.1
 have h2:j<1073741824:=hc.2
 exact floordiv_int (by omega) (by rw[Int.fdiv_eq_ediv_of_nonneg i (by omega)];exact q) (.inl (PyProof.noPylong_small (by omega)))
def b4R:OpR X (binaryOp .Mod) (rI (fun _ j=>0<j) fun i j=> .int (i % j)):=opI fun i j _ _ _ _ _ hc q=>by
 have h1:(0:Int)<j:=hc
 exact mod_int' (by omega) (by rw[Int.fmod_eq_emod_of_nonneg i (by omega)];exact q)
def b4P:OpR X (binaryOp .RShift) (rI (fun _ j=>0<=j) fun i j=> .int (i / 2 ^ j.toNat)):=opI fun i j _ _ _ _ _ hc q=>
 rshift_int hc (by rw[Int.fdiv_eq_ediv_of_nonneg i (xZ _)];exact q)
def b4U:OpR X (binaryOp .BitAnd) (rI0 fun i j=> .int (Builtin.bitAnd i j)):=b0O fun _ _ _ _ _ _ _ q=>and_int q
def b4N:OpR X (binaryOp .BitXor) (rI0 fun i j=> .int (Builtin.bitXor i j)):=b0O fun _ _ _ _ _ _ _ q=>xor_int q
theorem unI {f:Value->Sem Value}{g:Int->Int}
  (rule:∀(i:Int)(t:Tok)(s:Shared)(Q:Value->Shared->Prop)(E:Value->Shared->Prop),Q (.int (g i) s.toks) { s with toks:=s.toks+1 }->wpAny (model X.prog X.w) X.A (f (.int i t)) Q E s) :
  UnR X f (rU fun i=> .int (g i)):=by
 intro pins s σ H x v Q I rx h
 obtain⟨i,rfl,q⟩:=h
 obtain⟨t,rfl⟩:=rx
 exact rule i t s _ _ ⟨.int (g i),H,I.tok _,⟨_,rfl⟩,q⟩
def b3G:UnR X (unaryOp .USub) (rU fun i=> .int (-i)):=unI fun _ _ _ _ _ q=>neg_int q
end
def b3Z:V->V->Bool
 |.non,.non=>true | .non,.int _=>true | .int _,.non=>true | .non,.bl _=>true | .bl _,.non=>true | .non,.str _=>true | .str _,.non=>true
 |.int _,.int _=>true | .bl _,.bl _=>true | .str _,.str _=>true | .byt _,.byt _=>true
 |.int _,.str _=>true | .str _,.int _=>true | .bl _,.str _=>true | .str _,.bl _=>true
 |_,_=>false
def rEq:R2:=fun x y H Q=>b3Z x y=true/\Q (.bl (decide (x=y))) H
def rNe:R2:=fun x y H Q=>b3Z x y=true/\Q (.bl (!decide (x=y))) H
def a1H {i j:Int}:decide (V.int i=V.int j)=(i == j):=by
 rw[XB]
 simp
def a8D {i j:Bool}:decide (V.bl i=V.bl j)=(i == j):=by
 rw[XB]
 simp
def a1G {i j:Str}:decide (V.str i=V.str j)=(i == j):=by
 rw[XB]
 simp
def a1I {i j:Array UInt8}:decide (V.byt i=V.byt j)=(i.toList == j.toList):=by
 rw[XB]
 cases i
 cases j
 simp
section
variable {a b:Expr}{tc:TE}
def cF {Q:VK}{k k':Bool}(I:Inv X pins σ H s)(q:Q (.bl k) H)(e:k=k'):EP X pins σ Q (.bool k') s:=by
 subst e
 exact⟨.bl k,H,I,rfl,q⟩
def b7V:OpR X (compareOp .Eq) rEq:=by
 intro pins s σ H x y v u Q I rx ry h
 obtain⟨hs,q⟩:=h
 cases x with
 | non=>
  cases rx
  cases y with
  |non=>cases ry;exact PySem.EqNone.eq_none_none (cF I q (by simp))
  |bl j=>cases ry;exact PySem.EqNone.eq_none_bool (cF I q (by simp))
  |int j=>obtain⟨t',rfl⟩:=ry;exact PySem.EqNone.eq_none_int (cF I q (by simp))
  |str j=>obtain⟨t',rfl⟩:=ry;exact PySem.EqNone.eq_none_str (cF I q (by simp))
  |_=>exact absurd (show false=true from hs) Yq
 | bl i=>
  cases rx
  cases y with
  |non=>cases ry;exact PySem.EqNone.eq_bool_none (cF I q (by simp))
  |bl j=>cases ry;exact eq_bool (cF I q a8D)
  |str j=>obtain⟨t',rfl⟩:=ry;exact PySem.EqMixed.eq_bool_str (cF I q (by simp))
  |_=>exact absurd (show false=true from hs) Yq
 | int i=>
  obtain⟨t,rfl⟩:=rx
  cases y with
  |non=>cases ry;exact PySem.EqNone.eq_int_none (cF I q (by simp))
  |int j=>obtain⟨t',rfl⟩:=ry;exact eq_int (cF I q a1H)
  |str j=>obtain⟨t',rfl⟩:=ry;exact PySem.EqMixed.eq_int_str (cF I q (by simp))
  |_=>exact absurd (show false=true from hs) Yq
 | str i=>
  obtain⟨t,rfl⟩:=rx
  cases y with
  |non=>cases ry;exact PySem.EqNone.eq_str_none (cF I q (by simp))
  |bl j=>cases ry;exact PySem.EqMixed.eq_str_bool (cF I q (by simp))
  |int j=>obtain⟨t',rfl⟩:=ry;exact PySem.EqMixed.eq_str_int (cF I q (by simp))
  |str j=>obtain⟨t',rfl⟩:=ry;exact eq_str (cF I q a1G)
  |_=>exact absurd (show false=true from hs) Yq
 | byt i=>
  obtain⟨t,rfl⟩:=rx
  cases y with
  |byt j=>obtain⟨t',rfl⟩:=ry;exact W.eq_bytes (cF I q a1I)
  |_=>exact absurd (show false=true from hs) Yq
 |_=>cases y <;> exact absurd (show false=true from hs) Yq
def b7Q:OpR X (compareOp .NotEq) rNe:=by
 intro pins s σ H x y v u Q I rx ry h
 obtain⟨hs,q⟩:=h
 cases x with
 | non=>
  cases rx
  cases y with
  |non=>cases ry;exact PySem.EqNone.ne_none_none (cF I q (by simp))
  |bl j=>cases ry;exact PySem.EqNone.ne_none_bool (cF I q (by simp))
  |int j=>obtain⟨t',rfl⟩:=ry;exact PySem.EqNone.ne_none_int (cF I q (by simp))
  |str j=>obtain⟨t',rfl⟩:=ry;exact PySem.EqNone.ne_none_str (cF I q (by simp))
  |_=>exact absurd (show false=true from hs) Yq
 | bl i=>
  cases rx
  cases y with
  |non=>cases ry;exact PySem.EqNone.ne_bool_none (cF I q (by simp))
  |bl j=>cases ry;exact ne_bool (cF I q (YJ not a8D))
  |str j=>obtain⟨t',rfl⟩:=ry;exact PySem.EqMixed.ne_bool_str (cF I q (by simp))
  |_=>exact absurd (show false=true from hs) Yq
 | int i=>
  obtain⟨t,rfl⟩:=rx
  cases y with
  |non=>cases ry;exact PySem.EqNone.ne_int_none (cF I q (by simp))
  |int j=>obtain⟨t',rfl⟩:=ry;exact ne_int (cF I q (YJ not a1H))
  |str j=>obtain⟨t',rfl⟩:=ry;exact PySem.EqMixed.ne_int_str (cF I q (by simp))
  |_=>exact absurd (show false=true from hs) Yq
 | str i=>
  obtain⟨t,rfl⟩:=rx
  cases y with
  |non=>cases ry;exact PySem.EqNone.ne_str_none (cF I q (by simp))
  |bl j=>cases ry;exact PySem.EqMixed.ne_str_bool (cF I q (by simp))
  |int j=>obtain⟨t',rfl⟩:=ry;exact PySem.EqMixed.ne_str_int (cF I q (by simp))
  |str j=>obtain⟨t',rfl⟩:=ry;exact ne_str (cF I q (YJ not a1G))
  |_=>exact absurd (show false=true from hs) Yq
 | byt i=>
  obtain⟨t,rfl⟩:=rx
  cases y with
  |byt j=>obtain⟨t',rfl⟩:=ry;exact W.ne_bytes (cF I q (YJ not a1I))
  |_=>exact absurd (show false=true from hs) Yq
 |_=>cases y <;> exact absurd (show false=true from hs) Yq
def b7R:OpR X (compareOp .Lt) (rI0 fun i j=> .bl (decide (i<j))):=b0P fun _ _ _ _ _ _ _ q=>lt_int q
def b7S:OpR X (compareOp .LtE) (rI0 fun i j=> .bl (decide (i<=j))):=b0P fun _ _ _ _ _ _ _ q=>le_int q
def b7T:OpR X (compareOp .Gt) (rI0 fun i j=> .bl (decide (j<i))):=b0P fun _ _ _ _ _ _ _ q=>gt_int q
def b7U:OpR X (compareOp .GtE) (rI0 fun i j=> .bl (decide (j<=i))):=b0P fun _ _ _ _ _ _ _ q=>ge_int q
def b4S:OpR X (compareOp .Is) (fun x y H Q=>y= .non/\Q (.bl (decide (x= .non))) H):=by
 intro pins s σ H x y v u Q I rx ry h
 obtain⟨rfl,q⟩:=h
 cases ry
 refine is_none_gen (cF I q ?_)
 cases x <;> first
  |(cases rx;rfl)
  |(obtain⟨t,rfl⟩:=rx;rfl)
def aV (b:Expr)(h:op≠ .In:=by decide)(h2:op≠ .NotIn:=by decide):behindInMarks op b=false:=by
 have e1:(op == CmpOp.In)=false:=by cases op <;> first | rfl | exact absurd rfl h
 have e2:(op == CmpOp.NotIn)=false:=by cases op <;> first | rfl | exact absurd rfl h2
 cases b <;> simp[behindInMarks,e1,e2]
def dG (ho:OpR X (compareOp op) r)(ha:PE X a ta)(hb:PE X b tb)(hm:behindInMarks op b=false):PE X (.Compare a [op] [b] pos) (tOp r ta tb):=by
 intro pins s σ H Q I h
 exact wpAny_Compare1 (b6D ha hb I h fun v u s2 x y H2 I2 rx ry q=>ho pins s2 σ H2 x y v u Q I2 rx ry q) hm
def a0G (t:TE):TT:=fun σ H Q=>t σ H fun x H'=>∃k,x= .bl k/\Q k H'
def a9Y (ho:OpR X (compareOp op) r)(ha:PE X a ta)(hb:PE X b tb)(hm:behindInMarks op b=false):PT X (.Compare a [op] [b] pos) (a0G (tOp r ta tb)):=by
 intro pins s σ H Q I h
 refine wpAny_isTrue_Compare1 (thn (ha pins s σ H _ I h) fun v s1 ⟨x,H1,I1,r1,q1⟩=>thn (hb pins s1 σ H1 _ I1 q1) fun u s2 ⟨y,H2,I2,r2,q2⟩=>
  thn (ho pins s2 σ H2 x y v u _ I2 r1 r2 q2) fun c s3 ⟨z,H3,I3,r3,k,e,q3⟩=>?_) hm
 subst e
 cases r3
 exact Xc ⟨H3,I3,q3⟩
def tV (r r':R2)(ta tb tc:TE):TE:=fun σ H Q=>ta σ H fun x H1=>tb σ H1 fun y H2=>r x y H2 fun z H3=>∃k,z= .bl k/\
 (if k=true then tc σ H3 fun w' H4=>r' y w' H4 Q else Q (.bl false) H3)
theorem a6O {op op':CmpOp}{r r':R2}(ho:OpR X (compareOp op) r)(ho':OpR X (compareOp op') r')(ha:PE X a ta)(hb:PE X b tb)(hc:PE X c tc)
  (hm:lastMarks [op,op'] [b,c]=false:=by with_unfolding_all rfl):PE X (.Compare a [op,op'] [b,c] pos) (tV r r' ta tb tc):=by
 intro pins s σ H Q I h
 refine Compare_chain (thn (ha pins s σ H _ I h) fun v s1 ⟨x,H1,I1,r1,q1⟩=>chain_link (thn (hb pins s1 σ H1 _ I1 q1) fun u s2 ⟨y,H2,I2,r2,q2⟩=>
  thn (ho pins s2 σ H2 x y v u _ I2 r1 r2 q2) fun d s3 ⟨z,H3,I3,r3,k,e,q3⟩=>?_)) hm
 subst e
 cases r3
 refine Xc ?_
 cases k with
 |false=>exact ite_ff ⟨.bl false,H3,I3,rfl,q3⟩
 |true=>exact ite_tt (chain_last (thn (hc pins s3 σ H3 _ I3 q3) fun w' s4 ⟨z',H4,I4,r4,q4⟩=>ho' pins s4 σ H4 y z' u w' Q I4 r2 r4 q4))
theorem a6F {op op':CmpOp}{r r':R2}(ho:OpR X (compareOp op) r)(ho':OpR X (compareOp op') r')(ha:PE X a ta)(hb:PE X b tb)(hc:PE X c tc)
  (hm:lastMarks [op,op'] [b,c]=false:=by with_unfolding_all rfl):PT X (.Compare a [op,op'] [b,c] pos) (a0G (tV r r' ta tb tc)):=by
 intro pins s σ H Q I h
 refine isTrue_chain (thn (ha pins s σ H _ I h) fun v s1 ⟨x,H1,I1,r1,q1⟩=>test_link (thn (hb pins s1 σ H1 _ I1 q1) fun u s2 ⟨y,H2,I2,r2,q2⟩=>
  thn (ho pins s2 σ H2 x y v u _ I2 r1 r2 q2) fun d s3 ⟨z,H3,I3,r3,k,e,q3⟩=>?_)) hm
 subst e
 cases r3
 refine Xc ?_
 cases k with
 | false=>
  obtain⟨k',e',q'⟩:=q3
  cases e'
  exact ite_ff ⟨H3,I3,q'⟩
 | true=>
  refine ite_tt (test_last (thn (hc pins s3 σ H3 _ I3 q3) fun w' s4 ⟨z',H4,I4,r4,q4⟩=>thn (ho' pins s4 σ H4 y z' u w' _ I4 r2 r4 q4) fun d' s5 ⟨z2,H5,I5,r5,k2,e2,q5⟩=>?_))
  subst e2
  cases r5
  exact Xc ⟨H5,I5,q5⟩
def yZ:(sizeLine:Nat)<2 ^ 63:=by rw[sizeLine_eq];decide
def vals1 {x:V}(r:Vals [x] us):∃u,us= [u]/\RelV x u:=by
 cases r with
 |cons r1 r2=>cases r2;exact⟨_,rfl,r1⟩
def vals2 {x y:V}(r:Vals [x,y] us):∃u w',us= [u,w']/\RelV x u/\RelV y w':=by
 cases r with
 | cons r1 r2=>
  cases r2 with
  |cons r3 r4=>cases r4;exact⟨_,_,rfl,r1,r3⟩
def a3S (hc:X.calm=true):fJ X (.builtin "max") (fun xs H Q=>∃i j,xs= [.int i,.int j]/\Q (.int (if j > i then j else i)) H):=by
 intro pins s σ H xs us Q I r h
 obtain⟨i,j,rfl,q⟩:=h
 obtain⟨u,w',rfl,⟨t,rfl⟩,⟨t',rfl⟩⟩:=vals2 r
 refine max_two_ints (I.ok.hd hc) fun h' tk k=>⟨_,H,I.kept k,?_,q⟩
 by_cases hj:j > i
 ·rw[if_pos hj,if_pos hj];exact⟨_,rfl⟩
 ·rw[if_neg hj,if_neg hj];exact⟨_,rfl⟩
def a3T:fJ X (.type "int") (fun xs H Q=>(∃i,xs= [.int i]/\Q (.int i) H)\/∃k,xs= [.bl k]/\Q (.int (if k then 1 else 0)) H):=by
 intro pins s σ H xs us Q I r h
 rcases h with ⟨i,rfl,q⟩ | ⟨k,rfl,q⟩
 ·obtain⟨u,rfl,t,rfl⟩:=vals1 r
  exact call_int_int ⟨.int i,H,I,⟨_,rfl⟩,q⟩
 ·obtain⟨u,rfl,r1⟩:=vals1 r
  cases r1
  exact call_int_bool ⟨.int (if k then 1 else 0),H,I.tok _,⟨_,rfl⟩,q⟩
end
structure zZ (h:Heap)(x dx C:Addr)(mA:Str->Option Value):Prop where
 obj:h.get? x=some (W.instObj C dx)
 ns:h.Ns1 dx mA
 ne:dx≠x
def a3D (n:h.Ns1 dx mA):∃od,h.get? dx=some od/\∀name,W.lookIn name od=some (mA name):=by
 obtain⟨o,es,ep,ho,hd,hk,_,hm⟩:=n
 refine⟨o,ho,fun name=>?_⟩
 have e:=hm name
 unfold nsFind findBy at e
 rw[<-Array.find?_toList]at e
 unfold W.lookIn
 rw[hd]
 dsimp only
 split
 ·rename_i y q
  rw[q]at e
  exact YJ some e
 ·rename_i q
  rw[q]at e
  have a:es.toList.any (·.refKey)=false:=by
   rw[List.any_eq_false]
   intro y hy
   obtain⟨z,t,hkey⟩:=hk y (Array.mem_toList_iff.mp hy)
   simp[DictEntry.refKey,hkey]
  have a':¬ es.toList.any (·.refKey)=true:=by rw[a];exact Yq
  rw[if_neg a']
  exact YJ some e
def zZ.look {x:Addr}(I:zZ h x dx C mA):∃od,W.InstAt h x (W.instObj C dx) C (some od)/\∀name,W.lookIn name od=some (mA name):=
 let ⟨od,ho,hl⟩:=a3D I.ns
 ⟨od,⟨I.obj,rfl,rfl,ho⟩,hl⟩
section
variable {prog:Program}{x:Addr}{name:Str}
theorem b1G {expr:Bool}{Q:Value->Shared->Prop}(X:K.In s.heap)(I:zZ s.heap x dx C mA)(hg:W.plainGet K C name=true)(hh:W.hasDictIn K C=true)
  (ha:W.findIn K (.ref C) name=some none) (hv:mA name=some v) (hv':W.handedIn v=true) (h:Q v { s with toks:=s.toks+1 }) :
  wpAny (model prog w) A (getAttr (.ref x) name expr) Q E s:=by
 obtain⟨od,J,hl⟩:=I.look
 exact W.get_value X J (W.plainGet_of hg).1 (W.findObj_own hh ha rfl (by rw[hl,hv])) hv' h
theorem a7W {pl:Sem Bool}{Q:Value×List Value->Shared->Prop}(X:K.In s.heap)(I:zZ s.heap x dx C mA)(hg:W.plainGet K C name=true)
  (hf:W.findIn K (.ref C) name=some (some (.ref f))) (ht:W.isFn K (.ref f)=true) (hv:mA name=none) (h:Q (.ref f, [.ref x]) s) :
  wpAny (model prog w) A (getMethod (.ref x) name pl) Q E s:=by
 obtain⟨od,J,hl⟩:=I.look
 exact W.method_fn X J (W.plainGet_of hg).1 (W.plainGet_of hg).2 hf (XN.mp ht) (by show (W.lookIn name od).map (·.isSome)=some false;rw[hl,hv];rfl) h
theorem a9S {ns:List Str}{Q:Unit->Shared->Prop}(X:K.In s.heap)(I:zZ s.heap x dx C mA)
  (hs:W.findIn K (.ref C) "__setattr__"=some (some (.builtin "object.__setattr__"))) (hp:W.plainOver K C=true) (ht:W.takerIn K C name=some none) (hh:W.hasDictIn K C=true)
  (hw:PySem.Within mA ns) (hsz:ns.length<=sizeLine)
  (h:∀h',zZ h' x dx C (fun y=>if y=name then some v else mA y)->Heap.SameBut dx s.heap h'->Q () { s with heap:=h',toks:=s.toks+2 }) :
  wpAny (model prog w) A (setAttr (.ref x) name v) Q E s:=by
 obtain⟨od,J,hl⟩:=I.look
 refine W.set_plain X J hs (W.osa_open (s:={ s with toks:=s.toks+1 }) (r:=none) X J hp ht fun b=>?_)
 obtain⟨cd,hc,hd'⟩:=W.any_some hh
 have hx:s.heap.get? x=some ⟨.ref C,some dx,.plain, #[]⟩:=I.obj
 refine YY (Xd (YY (YY (wpAny_loadPart hx (YY (W.Looks.here (s:={ s with toks:=s.toks+1 }) (W.looks_clsIn X hc) ?_))))))
 rw[hd']
 refine Xd (a:=some dx) (YY (Xd (YY ?_)))
 refine wpAny_nsSet1 (s:={ s with toks:=s.toks+1 }) I.ns fun h' hn2 hs2=>?_
 obtain⟨oD,esD,epD,hoD,hdD,hcD⟩:=hn2.count (PySem.Within.cons name v hw)
 refine YY (wpAny_lookBehind hoD (by rw[hdD];exact pastItsLine_dict (YN hcD (by rw[YU];omega))) ?_)
 exact Xd (h _ ⟨(hs2.2 _ (Va I.ne)).trans I.obj,hn2,I.ne⟩ hs2)
theorem a7E {R:Result->Shared->Prop}{vs:List Value}{kw:List (Str×Value)}(X:K.In s.heap)(hm:W.makesIn K C=true)
  (hi:W.findIn K (.ref C) "__init__"=some (some (.ref f))) (hf:W.typeIn K (.ref f)=some (.type "function"))
  (h :codeAny (model prog w) (A.under (.builtin "type.__call__" ⟨.ref C::vs,kw⟩)) (.call (.ref f) ⟨.ref (s.heap.objs.size+1)::vs,kw⟩) (W.InitBack (s.heap.objs.size+1) R)
   { s with heap:=(s.heap.push W.emptyDict).push (W.instObj C s.heap.objs.size) }) :
  codeAny (model prog w) A (.call (.ref C) ⟨vs,kw⟩) R s:=by
 obtain⟨hh,g,d,t,os⟩:=s
 exact W.make_core (W.makes_of X hm) (W.looks_findIn X hi) (fun self=>W.bind_fn X self hf) (.inl rfl) h
theorem a2Z {R:Result->Shared->Prop}(X:K.In s.heap)(hm:W.makesIn K C=true)
  (hi:W.findIn K (.ref C) "__init__"=some (some (.builtin "object.__init__")))
  (hb:∀self,W.Looks (model prog w) s.heap (bindSpecial (.builtin "object.__init__") self) (.builtin "object.__init__", [self]))
  (h :codeAny (model prog w) (A.under (.builtin "type.__call__" ⟨[.ref C], []⟩)) (.call (.builtin "object.__init__") ⟨[.ref (s.heap.objs.size+1)], []⟩) (W.InitBack (s.heap.objs.size+1) R)
   { s with heap:=(s.heap.push W.emptyDict).push (W.instObj C s.heap.objs.size) }) :
  codeAny (model prog w) A (.call (.ref C) ⟨[], []⟩) R s:=by
 obtain⟨hh,g,d,t,os⟩:=s
 exact W.make_core (W.makes_of X hm) (W.looks_findIn X hi) hb (.inr ⟨rfl,rfl⟩) h
end
def gH (f:Str)(v:V):List (Str×V)->List (Str×V)
 |[]=>[(f,v)]
 |(g,x)::r=>if g=f then (g,v)::r else (g,x)::gH f v r
theorem pA (f g:Str)(v:V):∀fs:List (Str×V),(gH f v fs).lookup g=if g=f then some v else fs.lookup g
 | [] =>by
  show List.lookup g [(f,v)]=_
  by_cases h:g=f
  ·have hb:(g == f)=true:=XN.mpr h
   simp only[List.lookup,hb,if_pos h]
  ·have hb:(g == f)=false:=YZ.mpr h
   simp only[List.lookup,hb,if_neg h]
 | (k, x)::r=>by
  have ih:=pA f g v r
  rw[show gH f v ((k,x)::r)=(if k=f then (k,v)::r else (k,x)::gH f v r) from rfl]
  by_cases hk:k=f
  ·rw [if_pos hk]
   by_cases h:g=k
   ·have hb:(g == k)=true:=XN.mpr h
    simp only[List.lookup,hb,if_pos (h.trans hk)]
   ·have hb:(g == k)=false:=YZ.mpr h
    simp only[List.lookup,hb,if_neg (fun e:g=f=>h (e.trans hk.symm))]
  ·rw [if_neg hk]
   by_cases h:g=k
   ·have hb:(g == k)=true:=XN.mpr h
    simp only[List.lookup,hb,if_neg (fun e:g=f=>hk (h.symm.trans e))]
   ·have hb:(g == k)=false:=YZ.mpr h
    simp only[List.lookup,hb]
    exact ih
theorem oK (f:Str)(v:V):∀fs:List (Str×V),f∈(gH f v fs).map (·.1)/\∀g,g∈fs.map (·.1)->g∈(gH f v fs).map (·.1)
 |[]=>⟨by simp[gH],fun g h=>by simp at h⟩
 | (k, x)::r=>by
  obtain⟨i1,i2⟩:=oK f v r
  rw[show gH f v ((k,x)::r)=(if k=f then (k,v)::r else (k,x)::gH f v r) from rfl]
  by_cases hk:k=f
  ·rw[if_pos hk]
   subst hk
   exact⟨by simp,fun g h=>by simpa using h⟩
  ·rw [if_neg hk]
   refine⟨?_,fun g h=>?_⟩
   ·rw[YI]
    exact Yz _ i1
   ·rw[YI]at h ⊢
    rcases Yt.mp h with e | e
    ·exact Yt.mpr (.inl e)
    ·exact Yz _ (i2 g e)
theorem pB (f:Str)(v:V):∀fs:List (Str×V),(gH f v fs).length<=fs.length+1
 |[]=>by simp[gH]
 | (k,x)::r=>by
  have ih:=pB f v r
  rw[show gH f v ((k,x)::r)=(if k=f then (k,v)::r else (k,x)::gH f v r) from rfl]
  by_cases hk:k=f
  ·rw[if_pos hk,YU,YU];omega
  ·rw[if_neg hk,YU,YU];omega
def lY.some_of {v:V}{o:Option Value}(r:lY (some v) o):∃u,o=some u/\RelV v u:=by
 cases o with
 |none=>exact(show False from r).elim
 |some u=>exact⟨u,rfl,r⟩
def lY.none_of {o:Option Value}(r:lY none o):o=none:=by
 cases o with
 |none=>rfl
 |some u=>exact(show False from r).elim
def a3N {v:V}(r:RelV v u):W.handedIn u=true:=by
 cases v with
 |non=>cases (show u=Value.none from r);rfl
 |bl b=>cases (show u=Value.bool b from r);rfl
 |int i=>obtain⟨t,e⟩:=(show ∃t,u=Value.int i t from r);cases e;rfl
 |str x=>obtain⟨t,e⟩:=(show ∃t,u=Value.str x t from r);cases e;rfl
 |byt b=>obtain⟨t,e⟩:=(show ∃t,u=Value.bytes b t from r);cases e;rfl
 |flt b=>obtain⟨t,e⟩:=(show ∃t,u=Value.float b t from r);cases e;rfl
 |ref a=>cases (show u=Value.ref a from r);rfl
 |ty n=>cases (show u=Value.type n from r);rfl
section
variable {fs fs':List (Str×V)}
def pQ (hok:HOk P w H h)(e:H a=some (.ins C dx fs)):∃mA,zZ h a dx C mA/\(∀f,lY (fs.lookup f) (mA f))/\PySem.Within mA (fs.map (·.1))/\fs.length<=1000/\H dx=some (.own a):=by
 obtain⟨d,z,ne,ob,mA,n,r,q⟩:=(show eE P w H h a (.ins C dx fs) from hok a _ e)
 exact⟨mA,⟨ob,n,ne⟩,r,q,z,d⟩
end
structure Cls (K:W.Frag)(C:Addr):Prop where
 pg:W.plainGet K C Str.empty=true
 hd:W.hasDictIn K C=true
 po:W.plainOver K C=true
 sa:W.findIn K (.ref C) "__setattr__"=some (some (.builtin "object.__setattr__"))
def Cls.get (c:Cls K C)(f:Str):W.plainGet K C f=true:=c.pg
def bL (K:W.Frag)(C:Addr)(f:Str):Prop:=W.findIn K (.ref C) f=some none
def bL.taker {f:Str}(n:bL K C f):W.takerIn K C f=some none:=by
 unfold W.takerIn
 rw[show W.findIn K (.ref C) f=some none from n]
 rfl
structure Meth (K:W.Frag)(C:Addr)(m:Str)(f:Addr):Prop where
 at_:W.findIn K (.ref C) m=some (some (.ref f))
 fn:W.isFn K (.ref f)=true
 kp:W.keepIn K (.ref f)=true
section
variable {fs:List (Str×V)}{f:Str}{v:V}
theorem zK {b:Bool}{Q:Value->Shared->Prop}(I:Inv X pins σ H s)(e:H a=some (.ins C dx fs))(c:Cls X.K C)(n:bL X.K C f)(l:fs.lookup f=some v)
  (h:∀u s',Inv X pins σ H s'->RelV v u->Q u s'):wpAny (model X.prog X.w) A (getAttr (.ref a) f b) Q E s:=by
 obtain⟨mA,O,r,_,_,_⟩:=pQ I.hok e
 obtain⟨u,hu,ru⟩:=lY.some_of (v:=v) (o:=mA f) (by rw[<-l];exact r f)
 exact b1G I.kIn O (c.get f) c.hd n hu (a3N ru) (h u _ (I.tok _) ru)
theorem fB {m:Str}{g:Addr}{pl:Sem Bool}{Q:Value×List Value->Shared->Prop}(I:Inv X pins σ H s)(e:H a=some (.ins C dx fs))(c:Cls X.K C)(k:Meth X.K C m g)(l:fs.lookup m=none)
  (h:Q (.ref g, [.ref a]) s):wpAny (model X.prog X.w) A (getMethod (.ref a) m pl) Q E s:=by
 obtain⟨mA,O,r,_,_,_⟩:=pQ I.hok e
 have hn:mA m=none:=lY.none_of (by rw[<-l];exact r m)
 exact a7W I.kIn O (c.get m) k.at_ k.fn hn h
theorem yQ {y:V}{u:Value}{Q:Unit->Shared->Prop}(I:Inv X pins σ H s)(e:H a=some (.ins C dx fs))(c:Cls X.K C)(n:bL X.K C f)(hl:fs.length<1000)(ry:RelV y u)
  (h:∀s',Inv X pins σ (upd H a (.ins C dx (gH f y fs))) s'->Q () s'):wpAny (model X.prog X.w) A (setAttr (.ref a) f u) Q E s:=by
 obtain⟨mA,O,r,wi,_,ho⟩:=pQ I.hok e
 have hz:(fs.map (·.1)).length<=sizeLine:=by rw[Ya,sizeLine_eq];omega
 refine a9S I.kIn O c.sa c.po n.taker c.hd wi hz fun h' O' sb=>h _ ?_
 have hd:∃o,h'.get? dx=some o:=let ⟨o,_,_,e',_⟩:=O'.ns;⟨o,e'⟩
 refine I.write (x:=a) (e:=dx) (by rw[e];exact True.intro) (.inr ho) (fun b q hb z=>(sb.2 b hb).trans z) hd ?_
 refine⟨by rw[aH O.ne];exact ho,?_,O.ne,O'.obj,_,O'.ns,fun g=>?_,fun g hg=>?_⟩
 ·have:=pB f y fs;omega
 ·show lY ((gH f y fs).lookup g) (if g=f then some u else mA g)
  rw[pA]
  by_cases q:g=f
  ·rw[if_pos q,if_pos q];exact ry
  ·rw[if_neg q,if_neg q];exact r g
 ·by_cases q:g=f
  ·rw[q];exact(oK f y fs).1
  ·refine(oK f y fs).2 g (wi g fun z=>hg ?_)
   show (if g=f then some u else mA g)=none
   rw[if_neg q];exact z
def Inv.made (I:Inv X pins σ H s):Inv X pins σ (upd (upd H s.heap.objs.size (.own (s.heap.objs.size+1))) (s.heap.objs.size+1) (.ins C s.heap.objs.size []))
  { s with heap:=(s.heap.push W.emptyDict).push (W.instObj C s.heap.objs.size) }:=by
 have e1:(s.heap.push W.emptyDict).get? s.heap.objs.size=some W.emptyDict:=Yu s.heap rfl
 have e2:((s.heap.push W.emptyDict).push (W.instObj C s.heap.objs.size)).get? (s.heap.objs.size+1)=some (W.instObj C s.heap.objs.size):=by
  have:=Yu (s.heap.push W.emptyDict) (o:=W.instObj C s.heap.objs.size) rfl
  rwa [Heap.size_push]at this
 have e3:(s.heap.push W.emptyDict).Ns s.heap.objs.size (fun _=>none):=⟨W.emptyDict, #[],_,e1,rfl,(fun e he=>absurd he (by simp)),fun _=>rfl⟩
 have I1:=I.laid (a:=s.heap.objs.size) (o:= .own (s.heap.objs.size+1)) (h':=s.heap.push W.emptyDict) (t':=s.toks) (fun b u q=>Yg _ q) (Yf _) ⟨_,e1⟩
 refine I1.laid (a:=s.heap.objs.size+1) (o:= .ins C s.heap.objs.size []) (t':=s.toks) (fun b u q=>Yg _ q) (Nat.le_of_eq (Heap.size_push _ _)) ?_
 have ne:s.heap.objs.size≠s.heap.objs.size+1:=Yy (Xl _)
 refine⟨by rw[aH ne,aB],YO _,ne,e2,fun _=>none,(Heap.Ns1.of_empty e3).at fun o q=>Yg _ q,fun _=>True.intro,fun y hy=>absurd rfl hy⟩
theorem b1V {prog:Program}{w:World}{env:Env}{e:Expr}{f:Str}{pos:Pos}{s:Shared}{Q:Value->Shared->Prop}(hb:attributeBase e f env (eval e env)=eval e env)
  (h:wpAny (model prog w) A (eval e env) (fun o s₁=>wpAny (model prog w) A (getAttr o f true) Q E s₁) E s):wpAny (model prog w) A (eval (.Attribute e f pos) env) Q E s:=
 Attribute_any_ h (by rw[arm_eval_Attribute,hb])
end
def b9S (K:W.Frag)(ta:TE)(f:Str):TE:=fun σ H Q=>ta σ H fun x H1=>∃a C dx fs v,x= .ref a/\H1 a=some (.ins C dx fs)/\Cls K C/\bL K C f/\fs.lookup f=some v/\Q v H1
def b9Y (K:W.Frag)(ta tv:TE)(f:Str):TS:=fun D σ H=>tv σ H fun y H1=>ta σ H1 fun x H2=>∃a C dx fs,x= .ref a/\H2 a=some (.ins C dx fs)/\Cls K C/\bL K C f/\fs.length<1000/\
 D.nx σ (upd H2 a (.ins C dx (gH f y fs)))
section
variable {o value:Expr}{f:Str}{pos' tpos:Pos}{tv:TE}
def a6K (he:PE X e ta)(hb:attributeBase e f X.env (eval e X.env)=eval e X.env):PE X (.Attribute e f pos) (b9S X.K ta f):=by
 intro pins s σ H Q I h
 refine b1V hb (thn (he pins s σ H _ I h) fun u s1 hz9=>?_)
 obtain⟨x,H1,I1,rx,a,C,dx,fs,v,ex,ea,c,n,l,q⟩:=hz9
 subst ex
 obtain rfl:u=Value.ref a:=rx
 exact zK I1 ea c n l fun u' s2 I2 ru=>⟨v,H1,I2,ru,q⟩
def a6H (ha:PE X o ta)(hv:PE X value tv)(hs:swapsWith value (some (.Attribute o f pos')) pos.line X.env=pure false):PS X (.Assign [.Attribute o f pos'] value pos) (b9Y X.K ta tv f):=by
 intro pins s σ H D I h
 refine plainObj_wpAny_Assign_Attribute (thn (hv pins s σ H _ I h) fun u s1 ⟨y,H1,I1,ry,q⟩=>thn (ha pins s1 σ H1 _ I1 q) fun ov s2 ⟨x,H2,I2,rx,a,C,dx,fs,ex,ea,c,n,l,q2⟩=>?_) hs
 subst ex
 obtain rfl:ov=Value.ref a:=rx
 exact yQ I2 ea c n l ry fun s3 I3=>⟨σ,_,I3,q2⟩
theorem b2U {pl:Sem Bool}{m:Str}{apos:Pos}{args:List Expr}{pins:List (Addr×Obj)}{s:Shared}{σ:St}{H:Hp}{Q:Value->Shared->Prop}{te:TE}(he:PE X e te)(I:Inv X pins σ H s)
  (h :te σ H fun x H1=>∃a C dx fs g,x= .ref a/\H1 a=some (.ins C dx fs)/\Cls X.K C/\Meth X.K C m g/\fs.lookup m=none/\
   ∀s1,Inv X pins σ H1 s1->wpAny (model X.prog X.w) X.A (callWith pos (.ref g) [.ref a] (backTo pos (starEach args X.env)) (backToKw pos (keywordEach [] X.env))) Q X.xe s1)
  (ht:eval (.Call (.Attribute e m apos) args [] pos) X.env=(do
   let ov<-eval e X.env
   standAt apos.atName
   let (f,first)<-holding [ov] (getMethod ov m pl)
   callWith pos f first (backTo pos (starEach args X.env)) (backToKw pos (keywordEach [] X.env)))) :
  wpAny (model X.prog X.w) X.A (eval (.Call (.Attribute e m apos) args [] pos) X.env) Q X.xe s:=by
 refine Xe (pl:=pl) (thn (he pins s σ H _ I h) fun u s1 hz9=>?_) ht
 obtain⟨x,H1,I1,rx,a,C,dx,fs,g,ex,ea,c,k,l,q⟩:=hz9
 subst ex
 obtain rfl:u=Value.ref a:=rx
 exact fB I1 ea c k l (q s1 I1)
end
section
variable {Q:Value->Shared->Prop}{c:Value}{b:Bool}
inductive nU (K:W.Frag)(H:Hp):V->Value->Prop where
  |non:nU K H .non (.type "NoneType")
  |bl (x:Bool):nU K H (.bl x) (.type "bool")
  |int (i:Int):nU K H (.int i) (.type "int")
  |str (x:Str):nU K H (.str x) (.type "str")
  |flt (x:UInt64):nU K H (.flt x) (.type "float")
  |lst {a:Addr} {xs:List V} (e:H a=some (.lst xs)):nU K H (.ref a) (.type "list")
  |frz {a:Addr} {o:Obj} {xs:List V} (e:H a=some (.frz o (.lst xs))):nU K H (.ref a) (.type "list")
  |tup {a:Addr} {xs:List V} (e:H a=some (.tup xs)):nU K H (.ref a) (.type "tuple")
  |dK {a:Addr} {kvs:List (Key×V)} (e:H a=some (.dK kvs)):nU K H (.ref a) (.type "dict")
  |dT {a:Addr} {kvs:List (List Key×V)} (e:H a=some (.dT kvs)):nU K H (.ref a) (.type "dict")
  | ins {a C dx:Addr} {fs:List (Str×V)} (e:H a=some (.ins C dx fs)) (cl:Cls K C) (ha:W.findIn K (.ref C) "__class__"=some (some (.builtin "object.__class__")))
      (hn:W.specialIn K (.builtin "object.__class__") "__get__"=some (some (.builtin "getset_descriptor.__get__"))) (htk:W.takesIn K (.builtin "object.__class__")=some true)
      (hm:W.mroIn K C (.type "object")=some true):nU K H (.ref a) (.ref C)
def a3I {x:V}{t:Value}(I:Inv X pins σ H s)(rx:RelV x u)(ty:nU X.K H x t)(e:W.kitOne X.K t c=some b)(h:∀tk,Q (.bool b) { s with toks:=tk }):
  wpAny (model X.prog X.w) A (call (.builtin "isinstance") [u,c]) Q E s:=by
 cases ty with
 |non=>cases (show u=Value.none from rx);exact XF W.kitx_none I.kIn True.intro e (fun z=>nomatch z) h
 |bl y=>cases (show u=Value.bool y from rx);exact XF W.kitx_bool I.kIn True.intro e (fun z=>nomatch z) h
 |int i=>obtain⟨t,q⟩:=(show ∃t,u=Value.int i t from rx);cases q;exact XF W.kitx_int I.kIn True.intro e (fun z=>nomatch z) h
 |str y=>obtain⟨t,q⟩:=(show ∃t,u=Value.str y t from rx);cases q;exact XF W.kitx_str I.kIn True.intro e (fun z=>nomatch z) h
 |flt y=>obtain⟨t,q⟩:=(show ∃t,u=Value.float y t from rx);cases q;exact XF W.kitx_float I.kIn True.intro e (fun z=>nomatch z) h
 | @lst a xs ea=>
  cases (show u=Value.ref a from rx)
  obtain⟨_,_,n,_,h1⟩:=(show eE X.prog X.w H s.heap a (.lst xs) from I.hok a _ ea)
  exact XF W.kitx_list I.kIn ⟨_,h1,rfl⟩ e (fun z=>nomatch z) h
 | @frz a ob xs ea=>
  cases (show u=Value.ref a from rx)
  obtain⟨_,_,_,n,_,h1⟩:=(show eE X.prog X.w H s.heap a (.frz ob (.lst xs)) from I.hok a _ ea)
  exact XF W.kitx_list I.kIn ⟨_,h1,rfl⟩ e (fun z=>nomatch z) h
 | @tup a xs ea=>
  cases (show u=Value.ref a from rx)
  obtain⟨_,_,_,p⟩:=(show eE X.prog X.w H s.heap a (.tup xs) from I.hok a _ ea)
  obtain⟨o,h1,h2,_⟩:=p
  exact XF W.kitx_tuple I.kIn ⟨o,h1,h2⟩ e (fun z=>nomatch z) h
 | @dK a kvs ea=>
  cases (show u=Value.ref a from rx)
  obtain⟨_,_,vs,_,p⟩:=(show eE X.prog X.w H s.heap a (.dK kvs) from I.hok a _ ea)
  obtain⟨o,es,ep,h1,h2,_⟩:=p
  exact XF W.kitx_dict I.kIn ⟨o,h1,h2.1⟩ e (fun z=>nomatch z) h
 | @dT a kvs ea=>
  cases (show u=Value.ref a from rx)
  obtain⟨_,_,xs,_,o,es,ep,h1,h2,_⟩:=(show eE X.prog X.w H s.heap a (.dT kvs) from I.hok a _ ea)
  exact XF W.kitx_dict I.kIn ⟨o,h1,h2.1⟩ e (fun z=>nomatch z) h
 | @ins a C dx fs ea cl ha hn htk hm=>
  cases (show u=Value.ref a from rx)
  obtain⟨mA,O,_⟩:=pQ I.hok ea
  obtain⟨od,J,_⟩:=O.look
  exact XF (W.kitx_own (cl.get _) cl.hd ha hn htk hm) I.kIn J e (fun z=>nomatch z) h
end
structure cX (k:Nat)(A:Around):Prop where
 hd:A.handled=none
 dp:A.depth+3*k+5<recursionLimit
 un:A.units+16*k+200<cLine
def cX.mono (r:cX k A)(h:j<=k):cX j A:=⟨r.hd,by have:=r.dp;omega,by have:=r.un;omega⟩
def cX.deeper (r:cX (k+1) A)(env:Env):cX k (A.deeper env):=
 ⟨r.hd,by have:=r.dp;show A.depth+1+3*k+5<_;omega,by have:=r.un;show A.units+3+16*k+200<_;omega⟩
def yX {kw:List (Str×Value)}:(A.under (.builtin "type.__call__" ⟨.ref C::us,kw⟩)).depth=A.depth+1:=by
 first | rfl | simp[Around.under,Code.weight,Code.isCreation,Code.isGuard,Code.isCaller,Code.frames,Code.isFrame,guardIds]
def yW {kw:List (Str×Value)}:(A.under (.builtin "type.__call__" ⟨.ref C::us,kw⟩)).units=A.units+1:=by
 first | rfl | simp[Around.under,Code.cUnits,Code.frames,Code.isFrame]
def cX.make (r:cX (k+1) A)(C:Addr)(us:List Value)(kw:List (Str×Value)):cX k (A.under (.builtin "type.__call__" ⟨.ref C::us,kw⟩)):=
 ⟨r.hd,by have:=r.dp;rw[yX];omega,by have:=r.un;rw[yW];omega⟩
def cX.depth (r:cX k A):A.depth<recursionLimit:=by have:=r.dp;omega
def cX.units (r:cX k A):A.units+64<cLine:=by have:=r.un;omega
def yG:TA:=fun _ H Q=>Q [] H
def b7A (ta:TE)(tr:TA):TA:=fun σ H Q=>ta σ H fun x H1=>tr σ H1 fun xs H2=>Q (x::xs) H2
section
def aC:PA X [] yG:=fun _ _ _ _ H Q I h=>Calls.spliced_nil ⟨[],H,I,.nil,h⟩
def aA (ha:PE X e te)(hr:PA X es t)(hs:starEach (e::es) X.env=(false,eval e X.env)::starEach es X.env:=by rfl):PA X (e::es) (b7A te t):=by
 intro pos pins s σ H Q I h
 rw[hs]
 show wpAny _ _ (spliced ((false,eval e X.env)::backTo pos (starEach es X.env))) _ _ s
 refine Calls.spliced_cons (thn (ha pins s σ H _ I h) fun u s1 hz9=>?_)
 obtain⟨x,H1,I1,r1,q1⟩:=hz9
 exact thn (hr pos pins s1 σ H1 _ I1 q1) fun us s2 ⟨xs,H2,I2,r2,q2⟩=>⟨x::xs,H2,I2,.cons r1 r2,q2⟩
def b9M (t:TA):TE:=fun σ H Q=>t σ H fun xs H1=>xs.length<=sizeLine/\∀p,H1 p=none->Q (.ref p) (upd H1 p (.tup xs))
def b9P (t:TA):TE:=fun σ H Q=>t σ H fun xs H1=>xs.length<=sizeLine/\∀p,H1 p=none->Q (.ref p) (upd H1 p (.lst xs))
def bN {x1}(h:PA X es t):PE X (.Tuple es x1 pos) (b9M t):=by
 intro pins s σ H Q I hq
 refine wpAny_Tuple_spliced (thn (h pos pins s σ H _ I hq) fun us s1 ⟨xs,H1,I1,r,z,q⟩=>⟨by rw[<-r.length];exact z,?_⟩)
 have hf:H1 s1.heap.objs.size=none:=I1.hok.fresh (Yf _)
 refine⟨.ref s1.heap.objs.size,upd H1 s1.heap.objs.size (.tup xs),I1.laid (t':=s1.toks) (fun b u e=>Yg _ e) (Yf _) ?_,rfl,q _ hf⟩
 exact⟨z,us,r,⟨_,Yu _ rfl,rfl,_,rfl⟩⟩
def cB (h:PA X es t):PE X (.List es pos) (b9P t):=by
 intro pins s σ H Q I hq
 refine wpAny_List_spliced (thn (h pos pins s σ H _ I hq) fun us s1 ⟨xs,H1,I1,r,z,q⟩=>⟨by rw[<-r.length];exact z,?_⟩)
 have hf:H1 s1.heap.objs.size=none:=I1.hok.fresh (Yf _)
 refine⟨.ref s1.heap.objs.size,upd H1 s1.heap.objs.size (.lst xs),I1.laid (t':=s1.toks) (fun b u e=>Yg _ e) (Yf _) ?_,rfl,q _ hf⟩
 exact⟨z,us,0,r,Yu _ rfl⟩
end
abbrev Sp:=List V->Hp->VK->XK->Prop
variable {sp:Sp}
abbrev CXT:=List Env->Hp->Shared->XK->Value->Shared->Prop
variable {CX:CXT}
structure oR (P:Program)(w:World)(K:W.Frag)(mg:Str->Option Value)(base:Heap)(A:Around)(outer:List Env)(s:Shared)(H:Hp):Prop where
 frames:A.frames=some outer
 mod:Mod K mg base
 bs:∀b o,base.get? b=some o->s.heap.get? b=some o/\H b=none
 bsz:base.objs.size<=s.heap.objs.size
 funs:s.heap.FunFrames base outer
 frf:∀b∈frs outer,H b=none
 hok:HOk P w H s.heap
 bare:AllBare s.gens
def CE (outer:List Env)(P:Program)(w:World)(H:Hp)(s:Shared)(Q:VK)(u:Value)(s':Shared):Prop:=
 ∃v H',s'.os=s.os/\AllBare s'.gens/\Un (frs outer) [] H H' s.heap s'.heap/\HOk P w H' s'.heap/\RelV v u/\Q v H'
def CR (CX:CXT)(outer:List Env)(P:Program)(w:World)(H:Hp)(s:Shared)(Q:VK)(E:XK)(r:Result)(s':Shared):Prop:=
 match r with
 |.ok (.ret u)=>CE outer P w H s Q u s'
 |.ok _=>False
 |.error e=>CX outer H s E e s'
structure fV (P:Program)(w:World)(K:W.Frag)(mg:Str->Option Value)(base:Heap)(CX:CXT)(k:Nat)(f:Addr)(fd:FuncData)(ps:List Str)(sp:Sp):Prop where
 len:∀vs H Q E,sp vs H Q E->vs.length=ps.length
 run:∀(A:Around)(outer:List Env)(s:Shared)(H:Hp)(args:Args)(us:List Value)(vs:List V)(Q:VK)(E:XK),cX k A->oR P w K mg base A outer s H->BindsTo s fd args (ps.zip us)->Vals vs us->sp vs H Q E->
  codeAny (model P w) A (.call (.ref f) args) (CR CX outer P w H s Q E) s
theorem fV.mono {mg:Str->Option Value}{base:Heap}(F:fV P w K mg base CX j f fd ps sp)(h:j<=k):
  fV P w K mg base CX k f fd ps sp:=⟨F.len,fun A outer s H args us vs Q E hr=>F.run A outer s H args us vs Q E (hr.mono h)⟩
theorem oR.make {mg:Str->Option Value}{base:Heap}{outer:List Env}(e:oR P w K mg base A outer s H)(C:Addr)(us:List Value)(kw:List (Str×Value)):
  oR P w K mg base (A.under (.builtin "type.__call__" ⟨.ref C::us,kw⟩)) outer s H:=⟨by first | exact e.frames | (simpa [Around.under,Code.envs,Code.isFrame,pushEnvs] using e.frames),e.mod,e.bs,e.bsz,e.funs,e.frf,e.hok,e.bare⟩
section
variable {s':Shared}
def Inv.env0 (I:Inv X pins σ H s):oR X.prog X.w X.K X.mg X.base X.A X.stack s H:=
 ⟨I.ok.frames,I.ok.mod,I.bs,YN I.ok.bsz I.sz,I.stack,I.stkFree,I.hok,I.bare⟩
def Inv.after {Q:VK}(I:Inv X pins σ H s)(h:CE X.stack X.prog X.w H s Q u s'):EP X pins σ Q u s':=by
 obtain⟨v,H',os,bare,un,hok,r,q⟩:=h
 obtain⟨hh,g,d,t,os'⟩:=s'
 obtain rfl:os'=s.os:=os
 exact⟨v,H',I.call (h':=hh) (g':=g) (d':=d) (t':=t) (ch:=[]) un hok bare (fun b z=>absurd z (by simp)),r,q⟩
end
def b2M (sp:Sp)(dvs:List V)(E:XK)(t:TA):TE:=fun σ H Q=>t σ H fun vs H1=>sp (vs++dvs) H1 Q E
def b2J (C:Addr)(m:Str)(sp:Sp)(dvs:List V)(E:XK)(ta:TE)(t:TA):TE:=fun σ H Q=>ta σ H fun x H1=>∃a dx fs,x= .ref a/\H1 a=some (.ins C dx fs)/\fs.lookup m=none/\
 t σ H1 fun vs H2=>sp (x::(vs++dvs)) H2 Q E
def b2K (C:Addr)(sp:Sp)(dvs:List V)(E:XK)(t:TA):TE:=fun σ H Q=>t σ H fun vs H1=>∀x dx,H1 x=none->H1 dx=none->dx≠x->
 sp (.ref x::(vs++dvs)) (upd (upd H1 dx (.own x)) x (.ins C dx [])) (fun v H2=>v= .non/\Q (.ref x) H2) E
def Binds (K:W.Frag)(fd:FuncData)(ps:List Str)(ds:List Value):Prop:=
 ∀(s:Shared)(us:List Value),K.In s.heap->(us++ds).length=ps.length->BindsTo s fd ⟨us, []⟩ (ps.zip (us++ds))
def Binds.all (h:∀us:List Value,us.length=ps.length->bindArgs fd ⟨us, []⟩=pure (ps.zip us)):Binds K fd ps []:=fun s us _ hl=>by
 rw[YQ]at hl ⊢
 exact .of_eq (h us hl)
def gJ (CX:CXT)(X:Cx)(E:XK):Prop:=∀(pins:List (Addr×Obj))(σ:St)(H:Hp)(s:Shared)(e:Value)(s':Shared),Inv X pins σ H s->CX X.stack H s E e s'->X.xe e s'
section
variable {dvs:List V}{ds:List Value}{E:XK}{m:Str}{apos:Pos}{o:Expr}
theorem jR {pins:List (Addr×Obj)}{σ:St}{H:Hp}{s:Shared}{Q:VK}{us:List Value}{vs:List V}(F:fV X.prog X.w X.K X.mg X.base CX k f fd ps sp)(hr:cX k X.A)(hb:Binds X.K fd ps ds)(hd:Vals dvs ds)(hx:gJ CX X E)
  (I:Inv X pins σ H s) (r:Vals vs us) (h:sp (vs++dvs) H Q E):wpAny (model X.prog X.w) X.A (call (.ref f) us) (EP X pins σ Q) X.xe s:=by
 have r2:Vals (vs++dvs) (us++ds):=r.append hd
 have hl:(us++ds).length=ps.length:=by rw[<-r2.length];exact F.len _ _ _ _ h
 refine wpAny_call (XO (F.run X.A X.stack s H ⟨us, []⟩ (us++ds) (vs++dvs) Q E hr I.env0 (hb s us I.kIn hl) r2 h) fun r s' hq=>?_)
 cases r with
 |error e=>exact hx pins σ H s e s' I hq
 | ok fl=>
  cases fl with
  |ret u=>exact I.after hq
  |next=>exact False.elim hq
  |brk=>exact False.elim hq
  |cont=>exact False.elim hq
theorem aQ (F:fV X.prog X.w X.K X.mg X.base CX k f fd ps sp)(hr:cX k X.A)(hg:Gl X x)(hm:X.mg x=some (.ref f))(hk:W.keepIn X.K (.ref f)=true)(hb:Binds X.K fd ps ds)(hd:Vals dvs ds)(hx:gJ CX X E)
  (ha:PA X (e::es) t) (hdb:(x == ("__debug__":Str))=false:=by decide) (he:starEach (e::es) X.env=(false,eval e X.env)::starEach es X.env:=by rfl) (hpl:(backTo pos (starEach es X.env)).any (·.1)=false:=by rfl) :
  PE X (.Call (.Name x p) (e::es) [] pos) (b2M sp dvs E t):=by
 intro pins s σ H Q I h
 refine Xf (lQ I hg hm ?_ hdb)
 refine XG (h₀:=X.base) I.ok.mod.kin hk (thn (ha pos pins s σ H _ I h) fun us s1 ⟨vs,H1,I1,r,q⟩=>⟨I1.kIn,?_⟩) he hpl
 exact jR F hr hb hd hx I1 r q
theorem wF (F:fV X.prog X.w X.K X.mg X.base CX k f fd ps sp)(hr:cX k X.A)(hg:Gl X x)(hm:X.mg x=some (.ref f))(hk:W.keepIn X.K (.ref f)=true)(hb:Binds X.K fd ps ds)(hd:Vals dvs ds)(hx:gJ CX X E)
  (hdb:(x == ("__debug__":Str))=false:=by decide):PE X (.Call (.Name x p) [] [] pos) (b2M sp dvs E yG):=by
 intro pins s σ H Q I h
 refine Xf (lQ I hg hm ?_ hdb)
 exact XZ I.kIn hk (jR (us:=[]) F hr hb hd hx I .nil h)
theorem b0L {pl:Sem Bool}(he:PE X o ta)(c:Cls X.K C)(hm:Meth X.K C m f)(F:fV X.prog X.w X.K X.mg X.base CX k f fd ps sp)(hr:cX k X.A)(hb:Binds X.K fd ps ds)(hd:Vals dvs ds)(hx:gJ CX X E)(ha:PA X (e::es) t)
  (hst:starEach (e::es) X.env=(false,eval e X.env)::starEach es X.env:=by rfl) (hpl:(backTo pos (starEach es X.env)).any (·.1)=false:=by rfl)
  (ht:eval (.Call (.Attribute o m apos) (e::es) [] pos) X.env=(do
   let ov<-eval o X.env
   standAt apos.atName
   let (f,first)<-holding [ov] (getMethod ov m pl)
   callWith pos f first (backTo pos (starEach (e::es) X.env)) (backToKw pos (keywordEach [] X.env))):=by rfl) :
  PE X (.Call (.Attribute o m apos) (e::es) [] pos) (b2J C m sp dvs E ta t):=by
 intro pins s σ H Q I h
 refine Xe (pl:=pl) (thn (he pins s σ H _ I h) fun u s1 hz9=>?_) ht
 obtain⟨x,H1,I1,rx,a,dx,fs,ex,ea,l,q⟩:=hz9
 subst ex
 obtain rfl:u=Value.ref a:=rx
 refine fB I1 ea c hm l ?_
 refine XG (first:=[.ref a]) (h₀:=X.base) I.ok.mod.kin hm.kp (thn (ha pos pins s1 σ H1 _ I1 q) fun us s2 ⟨vs,H2,I2,r,q2⟩=>⟨I2.kIn,?_⟩) hst hpl
 exact jR (us:= .ref a::us) (vs:= .ref a::vs) F hr hb hd hx I2 (.cons rfl r) q2
theorem a6I {pl:Sem Bool}(he:PE X o ta)(c:Cls X.K C)(hm:Meth X.K C m f)(F:fV X.prog X.w X.K X.mg X.base CX k f fd ps sp)(hr:cX k X.A)(hb:Binds X.K fd ps ds)(hd:Vals dvs ds)(hx:gJ CX X E)
  (ht:eval (.Call (.Attribute o m apos) [] [] pos) X.env=(do
   let ov<-eval o X.env
   standAt apos.atName
   let (f,first)<-holding [ov] (getMethod ov m pl)
   callWith pos f first (backTo pos (starEach [] X.env)) (backToKw pos (keywordEach [] X.env))):=by rfl) :
  PE X (.Call (.Attribute o m apos) [] [] pos) (b2J C m sp dvs E ta yG):=by
 intro pins s σ H Q I h
 refine Xe (pl:=pl) (thn (he pins s σ H _ I h) fun u s1 hz9=>?_) ht
 obtain⟨x,H1,I1,rx,a,dx,fs,ex,ea,l,q⟩:=hz9
 subst ex
 obtain rfl:u=Value.ref a:=rx
 refine fB I1 ea c hm l ?_
 exact XZ (first:=[.ref a]) I1.kIn hm.kp (jR (us:=[.ref a]) (vs:=[.ref a]) F hr hb hd hx I1 (.cons rfl .nil) q)
structure Mk (K:W.Frag)(C f:Addr):Prop where
 makes:W.makesIn K C=true
 init:W.findIn K (.ref C) "__init__"=some (some (.ref f))
 fn:W.isFn K (.ref f)=true
 kp:W.keepIn K (.ref C)=true
theorem vW {pins:List (Addr×Obj)}{σ:St}{H:Hp}{s:Shared}{Q:VK}{us:List Value}{vs:List V}(M:Mk X.K C f)(F:fV X.prog X.w X.K X.mg X.base CX k f fd ps sp)(hr:cX (k+1) X.A)(hb:Binds X.K fd ps ds)(hd:Vals dvs ds)
  (hx:gJ CX X E) (I:Inv X pins σ H s) (r:Vals vs us)
  (h:∀x dx,H x=none->H dx=none->dx≠x->sp (.ref x::(vs++dvs)) (upd (upd H dx (.own x)) x (.ins C dx [])) (fun v H2=>v= .non/\Q (.ref x) H2) E) :
  wpAny (model X.prog X.w) X.A (call (.ref C) us) (EP X pins σ Q) X.xe s:=by
 have hq:=h (s.heap.objs.size+1) s.heap.objs.size (I.hok.fresh (Xv _)) (I.hok.fresh (Yf _)) (Yy (Xl _))
 have I2:=Inv.made (C:=C) I
 have r2:Vals (V.ref (s.heap.objs.size+1)::(vs++dvs)) (Value.ref (s.heap.objs.size+1)::(us++ds)):= .cons rfl (r.append hd)
 have hl:(Value.ref (s.heap.objs.size+1)::us++ds).length=ps.length:=by
  have e:=r2.length
  rw[F.len _ _ _ _ hq]at e
  exact e.symm
 refine wpAny_call (a7E (f:=f) I.kIn M.makes M.init (XN.mp M.fn) (XO (F.run _ X.stack _ _ ⟨Value.ref (s.heap.objs.size+1)::us, []⟩ (Value.ref (s.heap.objs.size+1)::(us++ds)) _ _ E (hr.make C us [])
  (I2.env0.make C us []) (hb _ (Value.ref (s.heap.objs.size+1)::us) I2.kIn hl) r2 hq) fun r s' hq'=>?_))
 cases r with
 |error e=>exact hx pins σ _ _ e s' I2 hq'
 | ok fl=>
  cases fl with
  | ret u=>
   obtain⟨v,H',I3,rv,ev,q3⟩:=I2.after hq'
   subst ev
   exact⟨rv,⟨V.ref (s.heap.objs.size+1),H',I3,rfl,q3⟩⟩
  |next=>exact False.elim hq'
  |brk=>exact False.elim hq'
  |cont=>exact False.elim hq'
theorem cJ (M:Mk X.K C f)(F:fV X.prog X.w X.K X.mg X.base CX k f fd ps sp)(hr:cX (k+1) X.A)(hg:Gl X x)(hm:X.mg x=some (.ref C))(hb:Binds X.K fd ps ds)(hd:Vals dvs ds)(hx:gJ CX X E)
  (ha:PA X (e::es) t) (hdb:(x == ("__debug__":Str))=false:=by decide) (he:starEach (e::es) X.env=(false,eval e X.env)::starEach es X.env:=by rfl) (hpl:(backTo pos (starEach es X.env)).any (·.1)=false:=by rfl) :
  PE X (.Call (.Name x p) (e::es) [] pos) (b2K C sp dvs E t):=by
 intro pins s σ H Q I h
 refine Xf (lQ I hg hm ?_ hdb)
 refine XG (h₀:=X.base) I.ok.mod.kin M.kp (thn (ha pos pins s σ H _ I h) fun us s1 ⟨vs,H1,I1,r,q⟩=>⟨I1.kIn,?_⟩) he hpl
 exact vW M F hr hb hd hx I1 r q
theorem mW (M:Mk X.K C f)(F:fV X.prog X.w X.K X.mg X.base CX k f fd ps sp)(hr:cX (k+1) X.A)(hg:Gl X x)(hm:X.mg x=some (.ref C))(hb:Binds X.K fd ps ds)(hd:Vals dvs ds)(hx:gJ CX X E)
  (hdb:(x == ("__debug__":Str))=false:=by decide):PE X (.Call (.Name x p) [] [] pos) (b2K C sp dvs E yG):=by
 intro pins s σ H Q I h
 refine Xf (lQ I hg hm ?_ hdb)
 exact XZ I.kIn M.kp (vW (us:=[]) M F hr hb hd hx I .nil h)
end
section
variable {ks:List Str}{E:XK}{m:Str}{apos kpos:Pos}{o:Expr}{kws:List Keyword}{tk:TA}{nm:Option Str}
variable {g:List Value->List Value->List Value}{gV:List V->List V->List V}
end
structure fY (N P:List Str)(sc:Scope):Prop where
 kind:sc.kind= .function
 co:sc.isCoroutine=false
 gen:sc.isGenerator=false
 nd:N.Nodup
 pre:N.take P.length=P
 par:∀x∈P,sc.names.lookup x=some .local\/sc.names.lookup x=some .cell
 nofree:∀y∈sc.names,y.2≠ .free
theorem tH:∀{binds:List (Str×Value)}{m:Str->Option Value},(∀v,(x,v)∉binds)->bindL kindOf binds m x=m x
 |[],_,_=>rfl
 | (n,v)::r,m,h=>by
  unfold bindL
  rw[tH fun w hw=>h w (Yz _ hw)]
  split
  ·have:x≠n:=by rintro rfl;exact h v YH
   simp[this]
  ·rfl
theorem tL:∀{binds:List (Str×Value)}{m:Str->Option Value},(∀v,(x,v)∉binds)->bindC kindOf binds m x=m x
 |[],_,_=>rfl
 | (n,v)::r,m,h=>by
  unfold bindC
  rw[tL fun w hw=>h w (Yz _ hw)]
  split
  ·rfl
  ·have:x≠n:=by rintro rfl;exact h v YH
   simp[this]
theorem tK:∀{P:List Str}{vs:List Value}{i:Nat}{m:Str->Option Value},P.Nodup->P[i]? =some x->vs[i]? =some v->kindOf x=some .local->
  bindL kindOf (P.zip vs) m x=some v
 |[],_,_,_,_,h,_,_=>by simp at h
 |_::_, [],_,_,_,_,h,_=>by simp at h
 | p::P,w::vs,0,m,nd,h1,h2,hk=>by
  simp at h1 h2;subst h1;subst h2
  show bindL kindOf ((p,w)::P.zip vs) m p=_
  unfold bindL
  rw[tH fun v hv=>(Y7.mp nd).1 (Xo hv).1,if_pos hk]
  simp
 | p::P,w::vs,i+1,m,nd,h1,h2,hk=>by
  show bindL kindOf ((p,w)::P.zip vs) m x=_
  unfold bindL
  exact tK (i:=i) (Y7.mp nd).2 (by simpa using h1) (by simpa using h2) hk
theorem tM:∀{P:List Str}{vs:List Value}{i:Nat}{m:Str->Option Value},P.Nodup->P[i]? =some x->vs[i]? =some v->kindOf x≠some .local->
  bindC kindOf (P.zip vs) m x=some v
 |[],_,_,_,_,h,_,_=>by simp at h
 |_::_, [],_,_,_,_,h,_=>by simp at h
 | p::P,w::vs,0,m,nd,h1,h2,hk=>by
  simp at h1 h2;subst h1;subst h2
  show bindC kindOf ((p,w)::P.zip vs) m p=_
  unfold bindC
  rw[tL fun v hv=>(Y7.mp nd).1 (Xo hv).1,if_neg hk]
  simp
 | p::P,w::vs,i+1,m,nd,h1,h2,hk=>by
  show bindC kindOf ((p,w)::P.zip vs) m x=_
  unfold bindC
  exact tM (i:=i) (Y7.mp nd).2 (by simpa using h1) (by simpa using h2) hk
def start (N:List Str)(vs:List V):St:=vs.map some++List.replicate (N.length-vs.length) none
def mG (CX:CXT)(P:Program)(w:World)(K:W.Frag)(mg:Str->Option Value)(base:Heap)(N:List Str)(qual:Str)(scope:Scope)(f:Addr)(cd:Value)(A:Around)(outer:List Env)(s:Shared)(H:Hp)(E:XK):Cx where
 prog:=P
 w:=w
 K:=K
 mg:=mg
 base:=base
 A:=A.deeper (envOfC qual scope s.heap.objs.size f cd)
 N:=N
 s₀:=s
 H₀:=H
 env:=envOfC qual scope s.heap.objs.size f cd
 outer:=outer
 stack:=envOfC qual scope s.heap.objs.size f cd::outer
 ex:=[]
 calm:=true
 fn:=fun _=>true
 pn:=[]
 xe:=fun e s'=>wpAny (model P w) (A.deeper (envOfC qual scope s.heap.objs.size f cd)) (leaving (envOfC qual scope s.heap.objs.size f cd) e) (fun _ s''=>CX outer H s E e s'') (fun e' s''=>CX outer H s E e' s'') s'
def xN {sc:Scope}{n:Nat}(h:sc.names.lookup x=some .cell):∃c,(cellsFrom n sc.names []).lookup x=some c:=by
 have q:=W.cellsFrom_some sc.names n [] (.inl h)
 exact Option.isSome_iff_exists.mp q
theorem oM {CX:CXT}{P:Program}{w:World}{K:W.Frag}{mg:Str->Option Value}{base:Heap}{N ps:List Str}{qual:Str}{scope:Scope}{f:Addr}{cd:Value}{A:Around}{outer:List Env}{s s1:Shared}{H:Hp}{E:XK}{us:List Value}{vs:List V}
  (S:fY N ps scope) (hd:A.handled=none) (e0:oR P w K mg base A outer s H) (hl:vs.length=ps.length) (r:Vals vs us)
  (x:InCallC s s.heap.objs.size (bindL (envOfC qual scope s.heap.objs.size f cd).kindOf (ps.zip us) fun _=>none) (cellsFrom (s.heap.objs.size+1) scope.names []) (bindC (envOfC qual scope s.heap.objs.size f cd).kindOf (ps.zip us) fun _=>none) s1) :
  Inv (mG CX P w K mg base N qual scope f cd A outer s H E) [] (start N vs) H s1:=by
 have hpl:ps.length<=N.length:=by have:=YJ List.length S.pre;rw[Yx]at this;omega
 obtain⟨h1,tk,rfl,hk⟩:=x.done
 have noA:∀b:Addr,b∉(mG CX P w K mg base N qual scope f cd A outer s H E).ex:=fun b z=>absurd (show b∈([]:List Addr) from z) (by simp)
 refine⟨⟨e0.mod,S.kind,rfl,rfl,Yf _,fun y z c h1 h2=>?_,fun y hy=>?_,fun y c _ h=>?_,fun _=>hd,Around.frames_deeper e0.frames,.inr ⟨rfl,rfl⟩,fun b z=>absurd z (noA b),e0.bs,e0.bsz,fun b _ _=>noA b,fun b z=>absurd z (noA b),e0.funs,e0.frf⟩,
  rfl,e0.bare,Un.kept hk,⟨_,x.toInCall.ns,fun i y v h1 h2 h3=>?_⟩,fun y c h=>⟨_,x.cell y c h⟩,e0.hok.fresh (Yf _),fun y c h=>?_,fun p hp=>absurd (show p∈([]:List (Addr×Obj)) from hp) (by simp),e0.hok.kept hk,?_⟩
 ·exact name_of_addr x.apart (Y0 h1) (Y0 h2)
 ·have hy:scope.names.lookup y=some .cell\/scope.names.lookup y=some .free:=hy
  rcases hy with hy | hy
  ·exact xN hy
  ·exact absurd rfl (S.nofree _ (Y0 hy))
 ·exact Y6 (x.above y c (Y0 h))
 ·have hi:i<vs.length:=by
   unfold start at h2
   by_cases hi:i<vs.length
   ·exact hi
   ·rw[YA (by simpa using hi)]at h2
    rw[List.getElem?_replicate]at h2
    split at h2 <;> cases h2
  have ha:vs[i]? =some v:=by
   unfold start at h2
   rw[YC (by simpa using hi),Yl]at h2
   cases e:vs[i]? with
   |none=>rw[e]at h2;cases h2
   |some a=>rw[e]at h2;cases h2;rfl
  obtain⟨u,hu,rv⟩:=r.get ha
  have hp:ps[i]? =some y:=by
   rw[<-S.pre,List.getElem?_take_of_lt (by omega)];exact h1
  have ndP:ps.Nodup:=by rw[<-S.pre];exact S.nd.sublist (List.take_sublist _ _)
  refine⟨u,rv,?_⟩
  rcases S.par y (Yi hp) with k | k
  ·exact .inl ⟨k,tK ndP hp hu k⟩
  ·obtain⟨c,e⟩:=xN (n:=s.heap.objs.size+1) k
   refine .inr ⟨.inl k,c,e,?_⟩
   have q:=x.cell y c e
   rw[tM ndP hp hu (by show scope.names.lookup y≠_;rw[k];decide)]at q
   exact q
 ·exact e0.hok.fresh (Y6 (x.above y c (Y0 h)))
 ·unfold start
  show _=N.length
  rw[Yc,Ya,YX]
  omega
theorem b2W {CX:CXT}{P:Program}{w:World}{K:W.Frag}{mg:Str->Option Value}{base:Heap}{k:Nat}{f:Addr}{name qual:Str}{params:Arguments}{body:List Stmt}{scope:Scope}{dV kV doc pm cdv ct oc:Value}{an od:Option Addr}
  {osl:Array (Option Value)} {N ps:List Str} {sp:Sp} (lk:K.lookup f=some ⟨oc,od,.func (W.fnOf name qual params body scope dV kV doc pm an cdv ct),osl⟩) (hcd:W.codeIn K cdv qual=true) (S:fY N ps scope)
  (len:∀vs H Q E,sp vs H Q E->vs.length=ps.length)
  (hbody:∀(A:Around)(outer:List Env)(s:Shared)(H:Hp)(vs:List V)(Q:VK)(E:XK),cX k (A.deeper (envOfC qual scope s.heap.objs.size f cdv))->sp vs H Q E->
   ∃t,PSs (mG CX P w K mg base N qual scope f cdv A outer s H E) body t/\t { nx:=fun _ H'=>Q .non H',rt:=Q } (start N vs) H) :
  fV P w K mg base CX (k+1) f (W.fnOf name qual params body scope dV kV doc pm an cdv ct) ps sp:=by
 refine⟨len,fun A outer s H args us vs Q E hr e0 hb r hsp=>?_⟩
 have hl:=len _ _ _ _ hsp
 have KX:K.In s.heap:=e0.mod.kin.keeps fun b o e=>(e0.bs b o e).1
 have lim:s.heap.NoLimit:=e0.mod.nolimit.keeps fun b o e=>(e0.bs b o e).1
 have hkind:∀y∈ps.zip us,scope.names.lookup y.1=some .local\/(scope.names.lookup y.1=some .cell/\((cellsFrom (s.heap.objs.size+1) scope.names []).lookup y.1).isSome=true):=fun ⟨n,v⟩ hy=>by
  rcases S.par n (Xo hy).1 with q | q
  ·exact .inl q
  ·exact .inr ⟨q,W.cellsFrom_some _ _ _ (.inl q)⟩
 refine XT hr.depth (KX _ _ lk) rfl S.co S.gen rfl (W.codeRec_of KX hcd) (hb _ _ _ _ ?_)
 refine wpAny_newFunctionEnv_cells S.kind hkind fun env he s1 x=>?_
 subst he
 refine⟨lim.keeps x.toInCall.keep,codeAny_func ?_⟩
 obtain⟨t,ht,hq⟩:=hbody A outer s H vs Q E (hr.deeper _) hsp
 have I:Inv (mG CX P w K mg base N qual scope f cdv A outer s H E) [] (start N vs) H s1:=oM S hr.hd e0 hl r x
 refine Y4 (ht [] s1 (start N vs) H _ I hq) (fun fl s' hs=>?_) fun e s' hs=>hs
 have fin:∀{σ':St}{H':Hp}{v:V}{u:Value},Inv (mG CX P w K mg base N qual scope f cdv A outer s H E) [] σ' H' s'->RelV v u->Q v H'->CE outer P w H s Q u s':=
  fun {σ' H' v u} J rv q=>⟨v,H',J.os,J.bare,J.base,J.hok,rv,q⟩
 cases fl with
 | ret u=>
  obtain⟨v,σ',H',J,rv,q⟩:=hs
  exact fin J rv q
 | next=>
  obtain⟨σ',H',J,q⟩:=hs
  exact fin (v:=V.non) (u:=Value.none) J rfl q
 | brk=>
  obtain⟨_,_,_,q⟩:=hs
  exact False.elim q
 | cont=>
  obtain⟨_,_,_,q⟩:=hs
  exact False.elim q
section
variable {id T:String}{r:List V->Hp->VK->Prop}
def tCB (r:List V->Hp->VK->Prop)(t:TA):TE:=fun σ H Q=>t σ H fun vs H1=>r vs H1 Q
theorem bG (hc:fJ X (.builtin id) r)(hg:Gl X x)(hm:X.mg x=none)(hv:bootBuiltins x=some (.builtin id))(ha:PA X (e::es) t)(hn:x≠"__name__":=by decide)(hdb:(x == ("__debug__":Str))=false:=by decide)
  (he:starEach (e::es) X.env=(false,eval e X.env)::starEach es X.env:=by rfl) (hpl:(backTo pos (starEach es X.env)).any (·.1)=false:=by rfl):PE X (.Call (.Name x p) (e::es) [] pos) (tCB r t):=by
 intro pins s σ H Q I h
 refine Xf (qR I hg hm hv ?_ hn hdb)
 exact PyProof.Rows.callWith_builtin1 (thn (ha pos pins s σ H _ I h) fun us s1 ⟨vs,H1,I1,r1,q1⟩=>hc pins s1 σ H1 vs us Q I1 r1 q1) he hpl
theorem cH (hc:fJ X (.type T) r)(hg:Gl X x)(hm:X.mg x=none)(hv:bootBuiltins x=some (.type T))(ha:PA X (e::es) t)(hn:x≠"__name__":=by decide)(hdb:(x == ("__debug__":Str))=false:=by decide)
  (he:starEach (e::es) X.env=(false,eval e X.env)::starEach es X.env:=by rfl) (hpl:(backTo pos (starEach es X.env)).any (·.1)=false:=by rfl):PE X (.Call (.Name x p) (e::es) [] pos) (tCB r t):=by
 intro pins s σ H Q I h
 refine Xf (qR I hg hm hv ?_ hn hdb)
 exact PyProof.Rows.callWith_type1 (thn (ha pos pins s σ H _ I h) fun us s1 ⟨vs,H1,I1,r1,q1⟩=>hc pins s1 σ H1 vs us Q I1 r1 q1) he hpl
end
end L2
namespace HT
open PySem PyProof.Rows
section
open PySem.SeqAt
open PySem.AutoSeq1 (wpAny_loadPart')
open PySem.MeetsSeq PySem.MeetsSeq2 PySem.MeetsSeq3
end
section
variable {prog:Program}{w:World}{A:Around}{E:Value->Shared->Prop}{s:Shared}
def sIx (n d:Nat):Option Int->Nat
 |none=>d
 |some v=>if v<0 then (v+(n:Int)).toNat else min v.toNat n
def sIx_nat (n d k:Nat):sIx n d (some (k:Int))=min k n:=by
 show (if (k:Int)<0 then ((k:Int)+(n:Int)).toNat else min (k:Int).toNat n)=min k n
 rw[if_neg (by omega),YR]
end
end HT
namespace L2
open PySem PySem.Spec PyProof.Rows
variable {α:Type}{A:Around}{s:Shared}{x:V}{v:Value}{xs:List V}{X:Cx}
abbrev TO:=St->Hp->(Option Int->Hp->Prop)->Prop
def PO (X:Cx)(e:Option Expr)(t:TO):Prop:=
 ∀ (pins:List (Addr×Obj))(s:Shared)(σ:St)(H:Hp)(Q:Option Int->Hp->Prop),Inv X pins σ H s->t σ H Q->
  wpAny (model X.prog X.w) X.A (evalPart e X.env) (fun u s'=>∃o H',Inv X pins σ H' s'/\IsPart u o/\Q o H') X.xe s
def a9A:TO:=fun _ H Q=>Q none H
def b6U (t:TE):TO:=fun σ H Q=>t σ H fun x H1=>∃i,x= .int i/\Q (some i) H1
def intsAre_of {ns:List Int}:∀{us:List Value},Vals (ns.map V.int) us->IntsAre us ns:=by
 induction ns with
 |nil=>intro us r;rw[List.map_nil]at r;cases r;exact .nil
 | cons n ns ih=>
  intro us r
  rw[YI]at r
  cases r with
  | cons r1 r2=>
   obtain⟨t,e⟩:=r1
   subst e
   exact .cons n t (ih r2)
section
variable {e:Expr}{te:TE}{lo hi:Option Expr}{tl th:TO}{pos p2:Pos}
def b0H:PO X none a9A:=by
 intro pins s σ H Q I h
 rw[evalPart_none]
 exact Xd ⟨none,H,I,.none,h⟩
def b0G (h:PE X e te):PO X (some e) (b6U te):=by
 intro pins s σ H Q I hw
 rw[evalPart_some]
 refine thn (h pins s σ H _ I hw) fun u s1 hz9=>?_
 obtain⟨x,H1,I1,r1,q1⟩:=hz9
 obtain⟨i,rfl,q⟩:=q1
 obtain⟨t,rfl⟩:=r1
 exact⟨some i,H1,I1,.int i t,q⟩
def SlR (X:Cx)(r:V->Option Int->Option Int->Hp->VK->Prop):Prop:=
 ∀ (pins:List (Addr×Obj))(s:Shared)(σ:St)(H:Hp)(x:V)(v vl vu:Value)(lo hi:Option Int)(sl:Addr)(Q:VK),Inv X pins σ H s->RelV x v->s.heap.IsSliceOf sl vl vu .none->IsPart vl lo->IsPart vu hi->r x lo hi H Q->
  ∃T id,typeLookup (.type T) "__getitem__"=pure (some (.builtin id))/\s.TypeIs v T/\wpAny (model X.prog X.w) X.A (getItem v (.ref sl)) (EP X pins σ Q) X.xe s
def tSl (r:V->Option Int->Option Int->Hp->VK->Prop)(te:TE)(tl th:TO):TE:=fun σ H Q=>te σ H fun x H1=>tl σ H1 fun l H2=>th σ H2 fun u H3=>r x l u H3 Q
def mV {r:V->Option Int->Option Int->Hp->VK->Prop}(hr:SlR X r)(he:PE X e te)(hl:PO X lo tl)(hu:PO X hi th):PE X (.Subscript e (.Slice lo hi none p2) pos) (tSl r te tl th):=by
 intro pins s σ H Q I h
 refine Subscript_ (thn (he pins s σ H _ I h) fun v s1 hz9=>?_)
 obtain⟨x,H1,I1,r1,q1⟩:=hz9
 refine wpAny_Slice (thn (hl pins s1 σ H1 _ I1 q1) fun vl s2 ⟨l,H2,I2,pl,q2⟩=>thn (hu pins s2 σ H2 _ I2 q2) fun vu s3 ⟨u,H3,I3,pu,q3⟩=>?_)
 rw[evalPart_none]
 refine Xd ?_
 have I4:Inv X pins σ H3 { s3 with heap:=s3.heap.push { cls:= .type "slice",data:= .fields #[vl,vu,.none] } }:=I3.kept (t':=s3.toks) fun b ob q=>Yg _ q
 obtain⟨T,id,hT,ht,hg⟩:=hr pins { s3 with heap:=s3.heap.push { cls:= .type "slice",data:= .fields #[vl,vu,.none] } } σ H3 x v vl vu l u s3.heap.objs.size Q I4 r1 (Heap.IsSliceOf.new ..) pl pu q3
 show wpAny (model X.prog X.w) X.A (subscriptTail e (.Slice lo hi none p2) v (.ref s3.heap.objs.size)) (EP X pins σ Q) X.xe { s3 with heap:=s3.heap.push { cls:= .type "slice",data:= .fields #[vl,vu,.none] } }
 exact tail_any (ops:=[.ref s3.heap.objs.size,v]) ht hT hg (by with_unfolding_all rfl)
def pH (xs:List V)(lo hi:Option Int):List V:=(xs.drop (HT.sIx xs.length 0 lo)).take (HT.sIx xs.length xs.length hi-HT.sIx xs.length 0 lo)
def xM (xs:List V)(lo hi:Option Int):(pH xs lo hi).length<=xs.length:=by
 unfold pH
 rw[Yx,List.length_drop]
 omega
end
def ixN (n:Nat)(i:Int):Option Nat:=if 0<=i then (if i<n then some i.toNat else none) else if -(n:Int)<=i then some (i+n).toNat else none
def atI {α:Type}(xs:List α)(i:Int):Option α:=(ixN xs.length i).bind fun j=>xs[j]?
def b1E {n:Nat}{i:Int}{j:Nat}(h:ixN n i=some j):seqIndex? i n=some j/\j<n/\ -(n:Int)<=i/\i<n:=by
 unfold ixN at h
 by_cases h0:0<=i
 ·rw [if_pos h0]at h
  by_cases h1:i<n
  ·rw[if_pos h1]at h
   have e:i.toNat=j:=Yo h
   exact⟨by rw[seqIndex_of h0 h1,e],by omega,by omega,h1⟩
  ·rw[if_neg h1]at h;cases h
 ·rw [if_neg h0]at h
  by_cases h1: -(n:Int)<=i
  ·rw[if_pos h1]at h
   have e:(i+n).toNat=j:=Yo h
   exact⟨by rw[seqIndex_neg (by omega) h1,e],by omega,h1,by omega⟩
  ·rw[if_neg h1]at h;cases h
def a1O {xs:List α}{i:Int}{v:α}(h:atI xs i=some v):∃j,seqIndex? i xs.length=some j/\xs[j]? =some v/\j<xs.length/\ -(xs.length:Int)<=i/\i<xs.length:=by
 unfold atI at h
 cases e:ixN xs.length i with
 |none=>rw[e]at h;cases h
 | some j=>
  rw[e]at h
  obtain⟨h1,h2,h3,h4⟩:=b1E e
  exact⟨j,h1,h,h2,h3,h4⟩
def fC {xs:List α}{j:Nat}{v:α}(h:xs[j]? =some v):atI xs (j:Int)=some v:=by
 have hj:j<xs.length:=(Yd.mp h).1
 have e:ixN xs.length (j:Int)=some j:=by
  unfold ixN
  rw[if_pos (by omega),if_pos (by omega)];simp
 unfold atI;rw[e];exact h
def b1W (b:Expr):Prop:=∀o i,subscripted b false o i=operate [o,i] (getItem o i)
def IxR (X:Cx)(r:R2):Prop:=
 ∀ (value slice:Expr)(pins:List (Addr×Obj))(s:Shared)(σ:St)(H:Hp)(x y:V)(v u:Value)(Q:VK),Inv X pins σ H s->RelV x v->RelV y u->r x y H Q->
  subscripted slice false v u=operate [v,u] (getItem v u)->wpAny (model X.prog X.w) X.A (subscriptTail value slice v u) (EP X pins σ Q) X.xe s
def MtR (X:Cx)(id:String)(r:V->List V->Hp->VK->Prop):Prop:=
 ∀ (pins:List (Addr×Obj))(s:Shared)(σ:St)(H:Hp)(x:V)(xs:List V)(v:Value)(us:List Value)(Q:VK),Inv X pins σ H s->RelV x v->Vals xs us->r x xs H Q->
  wpAny (model X.prog X.w) X.A (call (.builtin id) (v::us)) (EP X pins σ Q) X.xe s
section
variable {a b:Expr}{ta tb:TE}{pos:Pos}
def bH {r:R2}(hr:IxR X r)(ha:PE X a ta)(hb:PE X b tb)(hs:b1W b):PE X (.Subscript a b pos) (tOp r ta tb):=by
 intro pins s σ H Q I h
 exact Subscript_ (b6D ha hb I h fun v u s2 x y H2 I2 rx ry q=>hr a b pins s2 σ H2 x y v u Q I2 rx ry q (hs _ _))
def c0D (K:W.Frag):R2:=fun x y H Q=>∃p xs i v,x= .ref p/\y= .int i/\SqL K H p xs/\atI xs i=some v/\Q v H
def c0C (K:W.Frag):R2:=fun x y H Q=>∃p xs i v,x= .ref p/\y= .int i/\SqT K H p xs/\atI xs i=some v/\Q v H
def b1D:IxR X (c0D X.K):=by
 intro value slice pins s σ H x y v u Q I rx ry h hs
 obtain⟨p,xs,i,z,rfl,rfl,hq,he,q⟩:=h
 cases rx
 obtain⟨t,rfl⟩:=ry
 obtain⟨its,r,pl,hz⟩:=I.list hq
 obtain⟨j,h1,h2,h3,h4,h5⟩:=a1O he
 obtain⟨w,ew,rw'⟩:=r.get h2
 have hl:=r.length
 have hn:=yZ
 have fin:EP X pins σ Q w s:=⟨z,H,I,rw',q⟩
 by_cases h0:0<=i
 ·have hj:i.toNat=j:=by
   rw[seqIndex_of h0 h5]at h1
   exact Yo h1
  exact item_listR pl.isList h0 (by omega) (by rw[hj];simpa using ew) fin hs
 ·have hj:(i+(its.toArray.size:Int)).toNat=j:=by
   rw[seqIndex_neg (by omega) h4]at h1
   rw[Yv,<-hl]
   exact Yo h1
  exact subscriptTail_builtinR (x:=w) pl.isList.typeIs slot_list_getitem.lookup
   (wpAny_getItem_list_neg (Q:=fun r s'=>r=w/\EP X pins σ Q r s') pl.isList (by omega) (by rw[Yv] <;> omega) (by omega) (by rw[hj];simpa using ew) ⟨rfl,fin⟩) hs
def b5J:IxR X (c0C X.K):=by
 intro value slice pins s σ H x y v u Q I rx ry h hs
 obtain⟨p,xs,i,z,rfl,rfl,hq,he,q⟩:=h
 cases rx
 obtain⟨t,rfl⟩:=ry
 obtain⟨its,r,pl,hz⟩:=I.tuple hq
 obtain⟨j,h1,h2,h3,h4,h5⟩:=a1O he
 obtain⟨w,ew,rw'⟩:=r.get h2
 have hl:=r.length
 have hn:=yZ
 have fin:EP X pins σ Q w s:=⟨z,H,I,rw',q⟩
 exact subscriptTail_builtinR (x:=w) pl.typeIs slot_tuple_getitem.lookup
  (getItem_tuple (j:=j) (Q:=fun r s'=>r=w/\EP X pins σ Q r s') pl (by omega) (by omega) (by rw[Yv,<-hl];exact h1) (by simpa using ew) ⟨rfl,fin⟩) hs
def tX (lo hi:Option Int)(n:Nat):(sliceBounds lo hi none n).1=((HT.sIx n 0 lo:Nat):Int)/\(sliceBounds lo hi none n).2.1=((HT.sIx n n hi:Nat):Int)/\(sliceBounds lo hi none n).2.2=1:=by
 refine⟨?_,?_,rfl⟩
 ·cases lo with
  |none=>simp[sliceBounds,HT.sIx]
  | some i=>
   simp only[sliceBounds,HT.sIx,Option.getD_none,show (1:Int) > 0 by decide,if_true]
   by_cases h:i<0
   ·simp only[h,if_true] <;> omega
   ·simp only[h,if_false] <;> omega
 ·cases hi with
  |none=>simp[sliceBounds,HT.sIx]
  | some i=>
   simp only[sliceBounds,HT.sIx,Option.getD_none,show (1:Int) > 0 by decide,if_true]
   by_cases h:i<0
   ·simp only[h,if_true] <;> omega
   ·simp only[h,if_false] <;> omega
def rJ (its:List Value)(lo hi:Option Int):slicePick its.toArray lo hi none=((its.drop (HT.sIx its.length 0 lo)).take (HT.sIx its.length its.length hi-HT.sIx its.length 0 lo)).toArray:=by
 obtain⟨h1,h2,h3⟩:=tX lo hi its.toArray.size
 unfold slicePick
 rw[h1,h2,h3]
 simp only[sliceRange_one,pick_run,Yv] <;> rfl
def b9Z (K:W.Frag):V->Option Int->Option Int->Hp->VK->Prop:=fun x lo hi H Q=>∃a xs,x= .ref a/\SqL K H a xs/\∀p,H p=none->Q (.ref p) (upd H p (.lst (pH xs lo hi)))
def a9Q:SlR X (b9Z X.K):=by
 intro pins s σ H x v vl vu lo hi sl Q I rx hs pl pu h
 obtain⟨a,xs,rfl,hx,q⟩:=h
 cases rx
 obtain⟨its,r,ht,hz⟩:=I.list hx
 have hlen:=r.length
 refine⟨"list",_,slot_list_getitem.lookup,ht.isList.typeIs,?_⟩
 refine wpAny_getItem_list_slice ht.isList hs pl pu .none (by simp) ?_ (by rw[Yv] <;> omega)
 rw[rJ,<-hlen]
 refine⟨.ref s.heap.objs.size,_,I.laid (t':=s.toks) (o:= .lst (pH xs lo hi)) (fun b ob q=>Yg _ q) (Yf _) ?_,rfl,q _ (I.hok.fresh (Yf _))⟩
 exact⟨YN (xM xs lo hi) hz,_,0,(r.drop (HT.sIx xs.length 0 lo)).take (HT.sIx xs.length xs.length hi-HT.sIx xs.length 0 lo),Yu _ rfl⟩
def nH:V->Bool
 |.non=>true
 |.bl _=>true
 |.int _=>true
 |.str _=>true
 |_=>false
def eqV:V->V->Bool
 |.non,.non=>true
 |.bl a,.bl b=>a == b
 |.bl a,.int b=>(if a then 1 else 0) == b
 |.int a,.bl b=>a == (if b then 1 else 0)
 |.int a,.int b=>a == b
 |.str a,.str b=>a == b
 |_,_=>false
def b5P {y:V}{u:Value}(ry:RelV y u)(rx:RelV x v)(fy:nH y=true)(fx:nH x=true):SeqAt.EqAt A s u v (eqV y x):=by
 cases y with
 | non=>
  cases ry
  cases x with
  |non=>cases rx;exact SeqAt.EqAt.same _
  |bl b=>cases rx;exact SeqAt.EqAt.none_bool b
  |int b=>obtain⟨t,rfl⟩:=rx;exact SeqAt.EqAt.none_int b t
  |str b=>obtain⟨t,rfl⟩:=rx;exact SeqAt.EqAt.none_str b t
  |_=>exact absurd (show false=true from fx) Yq
 | bl a=>
  cases ry
  cases x with
  |non=>cases rx;exact SeqAt.EqAt.bool_none a
  |bl b=>cases rx;exact SeqAt.EqAt.bool_bool a b
  |int b=>obtain⟨t,rfl⟩:=rx;exact SeqAt.EqAt.bool_int a b t
  |str b=>obtain⟨t,rfl⟩:=rx;exact SeqAt.EqAt.bool_str a b t
  |_=>exact absurd (show false=true from fx) Yq
 | int a=>
  obtain⟨t',rfl⟩:=ry
  cases x with
  |non=>cases rx;exact SeqAt.EqAt.int_none a t'
  |bl b=>cases rx;exact SeqAt.EqAt.int_bool a t' b
  |int b=>obtain⟨t,rfl⟩:=rx;exact SeqAt.EqAt.int_int a t' b t
  |str b=>obtain⟨t,rfl⟩:=rx;exact SeqAt.EqAt.int_str a t' b t
  |_=>exact absurd (show false=true from fx) Yq
 | str a=>
  obtain⟨t',rfl⟩:=ry
  cases x with
  |non=>cases rx;exact SeqAt.EqAt.str_none a t'
  |bl b=>cases rx;exact SeqAt.EqAt.str_bool a t' b
  |int b=>obtain⟨t,rfl⟩:=rx;exact SeqAt.EqAt.str_int a t' b t
  |str b=>obtain⟨t,rfl⟩:=rx;exact SeqAt.EqAt.str_str a t' b t
  |_=>exact absurd (show false=true from fx) Yq
 |_=>exact absurd (show false=true from fy) Yq
def eqU (x:V)(u:Value):Bool:=match u with
 |.none=>eqV .non x
 |.bool b=>eqV (.bl b) x
 |.int i _=>eqV (.int i) x
 |.str z _=>eqV (.str z) x
 |_=>false
def a7Z {y:V}{u:Value}(r:RelV y u)(f:nH y=true):eqU x u=eqV y x:=by
 cases y with
 |non=>cases r;rfl
 |bl b=>cases r;rfl
 |int i=>obtain⟨t,rfl⟩:=r;rfl
 |str z=>obtain⟨t,rfl⟩:=r;rfl
 |_=>exact absurd (show false=true from f) Yq
theorem nR:∀{xs:List V}{us:List Value},Vals xs us->xs.all nH=true->us.any (eqU x)=xs.any fun y=>eqV y x
 |_,_,.nil,_=>rfl
 | y::xs,u::us,.cons r t,f=>by
  rw[Xz,Xx]at f
  rw[Xj,Xj,a7Z r f.1,nR t f.2]
theorem lA (rx:RelV x v)(fx:nH x=true):∀{xs:List V}{us:List Value},Vals xs us->xs.all nH=true->∀u∈us,SeqAt.EqAt A s u v (eqU x u)
 |_,_,.nil,_=>fun u hu=>by cases hu
 | y::xs,u::us,.cons r t,f=>fun u' hu=>by
  rw[Xz,Xx]at f
  rcases Yt.mp hu with rfl | hu
  ·rw[a7Z r f.1];exact b5P r rx f.1 fx
  ·exact lA rx fx t f.2 u' hu
def inV (x:V)(xs:List V):Bool:=xs.any fun y=>eqV y x
def rIn (K:W.Frag)(neg:Bool):R2:=fun x y H Q=>∃p xs,y= .ref p/\(SqL K H p xs\/SqT K H p xs)/\nH x=true/\xs.all nH=true/\Q (.bl (if neg then !inV x xs else inV x xs)) H
def a2Q:OpR X (compareOp .In) (rIn X.K false):=by
 intro pins s σ H x y v u Q I rx ry h
 obtain⟨p,xs,rfl,hq,fx,fs,q⟩:=h
 cases ry
 rcases hq with hq | hq
 ·obtain⟨its,r,pl,hz⟩:=I.list hq
  refine SeqAt.in_listAt (eqU x) pl.isList (fun w hw=>lA rx fx r fs w (by simpa using hw)) ⟨.bl _,H,I,rfl,?_⟩
  rw[show its.toArray.any (eqU x)=its.any (eqU x) by simp,nR r fs]
  exact q
 ·obtain⟨its,r,pl,hz⟩:=I.tuple hq
  refine SeqAt.in_tupleAt (eqU x) pl (fun w hw=>lA rx fx r fs w (by simpa using hw)) ⟨.bl _,H,I,rfl,?_⟩
  rw[show its.toArray.any (eqU x)=its.any (eqU x) by simp,nR r fs]
  exact q
def uA:OpR X (compareOp .NotIn) (rIn X.K true):=by
 intro pins s σ H x y v u Q I rx ry h
 obtain⟨p,xs,rfl,hq,fx,fs,q⟩:=h
 cases ry
 rcases hq with hq | hq
 ·obtain⟨its,r,pl,hz⟩:=I.list hq
  refine SeqAt.notIn_listAt (eqU x) pl.isList (fun w hw=>lA rx fx r fs w (by simpa using hw)) ⟨.bl _,H,I,rfl,?_⟩
  rw[show its.toArray.any (eqU x)=its.any (eqU x) by simp,nR r fs]
  exact q
 ·obtain⟨its,r,pl,hz⟩:=I.tuple hq
  refine SeqAt.notIn_tupleAt (eqU x) pl (fun w hw=>lA rx fx r fs w (by simpa using hw)) ⟨.bl _,H,I,rfl,?_⟩
  rw[show its.toArray.any (eqU x)=its.any (eqU x) by simp,nR r fs]
  exact q
def uW:fJ X (.builtin "len") (fun xs H Q=>∃p ys,xs= [.ref p]/\(SqL X.K H p ys\/SqT X.K H p ys)/\Q (.int ys.length) H):=by
 intro pins s σ H xs us Q I r h
 obtain⟨p,ys,rfl,hq,q⟩:=h
 obtain⟨u,rfl,rx⟩:=vals1 r
 cases rx
 have hn:=yZ
 rcases hq with hq | hq
 ·obtain⟨its,r',pl,hz⟩:=I.list hq
  have hlen:=r'.length
  exact Calls.call_len_list pl.isList (by simp only[Yv] <;> omega) ⟨.int ys.length,H,I.tok _,⟨s.toks+1,by rw[Yv,hlen]⟩,q⟩
 ·obtain⟨its,r',pl,hz⟩:=I.tuple hq
  have hlen:=r'.length
  exact len_tuple pl (by simp only[Yv] <;> omega) ⟨.int ys.length,H,I.tok _,⟨s.toks+1,by rw[Yv,hlen]⟩,q⟩
def uV:fJ X (.type "list") (fun xs H Q=>∃p ys,xs= [.ref p]/\(SqL X.K H p ys\/SqT X.K H p ys)/\∀l,H l=none->Q (.ref l) (upd H l (.lst ys))):=by
  intro pins s σ H xs us Q I r h
  obtain⟨p,ys,rfl,hq,q⟩:=h
  obtain⟨u,rfl,rx⟩:=vals1 r
  cases rx
  have fin:∀(its:List Value),Vals ys its->ys.length<=sizeLine->∀(h':Heap)(c':Nat),(∀b o',s.heap.get? b=some o'->h'.get? b=some o')->
      h'.get? s.heap.objs.size=some { cls:= .type "list",dict:=none,data:= .seq its.toArray c',slots:=#[] }->EP X pins σ Q (.ref s.heap.objs.size) { s with heap:=h' }:=fun its r' hz h' c' kp e=>
    ⟨.ref s.heap.objs.size,_,I.laid (t':=s.toks) kp (Yf _) (show eE X.prog X.w _ h' _ (.lst ys) from ⟨hz,its,c',r',e⟩),rfl,q _ (I.hok.fresh (Yf _))⟩
  rcases hq with hq | hq
  · obtain⟨its,r',pl,hz⟩:=I.list hq
    have hlen:=r'.length
    obtain⟨o,ho,hc,n,hd⟩:=pl.isList
    exact call_list_seq p (.inl rfl) ho hc hd (fun h' c' kp e=>fin its r' hz h' c' kp e) (by simp only[Yv] <;> omega)
  · obtain⟨its,r',pl,hz⟩:=I.tuple hq
    have hlen:=r'.length
    obtain⟨o,ho,hc,n,hd⟩:=pl
    exact call_list_seq p (.inr rfl) ho hc hd (fun h' c' kp e=>fin its r' hz h' c' kp e) (by simp only[Yv] <;> omega)
def tyV (K:W.Frag)(T:String)(x:V)(H:Hp):Prop:=match x with
  |.str _=>T="str"
  |.int _=>T="int"
  | .ref p=>(T="list"/\∃xs,SqL K H p xs)\/(T="tuple"/\∃o,K.lookup p=some o/\o.cls= .type "tuple"/\o.dict=none)\/
      (T="dict"/\((∃kvs,H p=some (.dK kvs))\/∃kvs,H p=some (.dT kvs)))\/(T="set"/\∃S n,H p=some (.set S n))
  |_=>False
def a4H {pins:List (Addr×Obj)}{σ:St}{H:Hp}{T:String}(I:Inv X pins σ H s)(r:RelV x v)(ty:tyV X.K T x H):
  s.TypeIs v T/\∀a,v= .ref a->∃ob,s.heap.get? a=some ob/\ob.dict=none:=by
 cases x with
 | str z=>
  obtain⟨t,rfl⟩:=r
  cases (show T="str" from ty)
  exact⟨typeIs_str s z t,fun _ e=>nomatch e⟩
 | int i=>
  obtain⟨t,rfl⟩:=r
  cases (show T="int" from ty)
  exact⟨typeIs_int s i t,fun _ e=>nomatch e⟩
 | ref p =>
  cases r
  rcases ty with ⟨rfl,xs,hq⟩ | ⟨rfl,o,hk,hc,hd⟩ | ⟨rfl,hk⟩ | ⟨rfl,S,n,hk⟩
  ·obtain⟨its,_,pl,_⟩:=I.list hq
   refine⟨pl.isList.typeIs,fun a e=>?_⟩
   cases e
   obtain⟨o,n,e,c,hd,_⟩:=pl
   exact⟨o,e,hd⟩
  ·refine⟨⟨o,I.kIn p o hk,hc⟩,fun a e=>?_⟩
   cases e
   exact⟨o,I.kIn _ o hk,hd⟩
  ·have z:∃o,s.heap.get? p=some o/\o.ExactDict:=by
    rcases hk with ⟨kvs,hk⟩ | ⟨kvs,hk⟩
    ·obtain⟨_,_,_,_,o,_,_,e,ex,_⟩:=I.hok p _ hk
     exact⟨o,e,ex⟩
    ·obtain⟨_,_,_,_,o,_,_,e,ex,_⟩:=I.hok p _ hk
     exact⟨o,e,ex⟩
   obtain⟨o,e,ex⟩:=z
   refine⟨⟨o,e,ex.1⟩,fun a e2=>?_⟩
   cases e2
   exact⟨o,e,ex.2.1⟩
  ·obtain⟨o,_,_,_,e,ex,_⟩:=I.hok p _ hk
   refine⟨⟨o,e,ex.1⟩,fun a e2=>?_⟩
   cases e2
   exact⟨o,e,ex.2.1⟩
 |_=>exact False.elim ty
def b9V (K:W.Frag)(T:String)(r:V->List V->Hp->VK->Prop)(to:TE):TE:=fun σ H Q=>to σ H fun x H1=>tyV K T x H1/\r x [] H1 Q
def tBM (K:W.Frag)(T:String)(r:V->List V->Hp->VK->Prop)(to:TE)(t:TA):TE:=fun σ H Q=>to σ H fun x H1=>tyV K T x H1/\t σ H1 fun xs H2=>r x xs H2 Q
variable {o e:Expr}{es:List Expr}{to:TE}{t:TA}{name:Str}{apos cpos:Pos}{T id:String}{r:V->List V->Hp->VK->Prop}
theorem a6Q (pa:PlainAttrs T)(slot:Slot T name id)(hty:typeOf (.builtin id)=pure (.type "method_descriptor"))(hm:MtR X id r)(ho:PE X o to)
  (hbase:attributeBase o name X.env (eval o X.env)=eval o X.env:=by rfl) (hline:(apos.endLine == cpos.line)=true:=by rfl):PE X (.Call (.Attribute o name apos) [] [] cpos) (b9V X.K T r to):=by
 intro pins s σ H Q I h
 refine wpAny_Call_method0_late hbase hline (thn (ho pins s σ H _ I h) fun v s1 hz9=>?_)
 obtain⟨x,H1,I1,r1,ty,q1⟩:=hz9
 obtain⟨h1,h2⟩:=a4H I1 r1 ty
 exact⟨T,id,pa,slot,hty,h1,h2,Calls.callWith_builtin rfl (PySem.evalArgs_none (hm pins s1 σ H1 x [] v [] Q I1 r1 .nil q1))⟩
theorem a6R (pa:PlainAttrs T)(slot:Slot T name id)(hty:typeOf (.builtin id)=pure (.type "method_descriptor"))(hm:MtR X id r)(ho:PE X o to)(ha:PA X (e::es) t)
  (hbase:attributeBase o name X.env (eval o X.env)=eval o X.env:=by rfl)
  (hfew:((backTo cpos (starEach (e::es) X.env)).all (fun x=>!x.1) && (backToKw cpos (keywordEach [] X.env)).all (fun x=>x.1.isSome)
   && decide ((e::es).length+([]:List Keyword).length+(if ([]:List Keyword).isEmpty then 0 else 1)<30))=true:=by rfl)
  (hline:(apos.endLine == cpos.line)=true:=by rfl) (hs:starEach (e::es) X.env=(false,eval e X.env)::starEach es X.env:=by rfl) (hplain:(backTo cpos (starEach es X.env)).any (·.1)=false:=by rfl) :
  PE X (.Call (.Attribute o name apos) (e::es) [] cpos) (tBM X.K T r to t):=by
 intro pins s σ H Q I h
 refine wpAny_Call_method_late hbase hfew hline rfl (thn (ho pins s σ H _ I h) fun v s1 hz9=>?_)
 obtain⟨x,H1,I1,r1,ty,q1⟩:=hz9
 obtain⟨h1,h2⟩:=a4H I1 r1 ty
 refine⟨T,id,pa,slot,hty,h1,h2,?_⟩
 have hA:=ha cpos pins s1 σ H1 _ I1 q1
 rw[hs]at hA ⊢
 refine Calls.callWith_builtin (by show (false || (backTo cpos (starEach es X.env)).any (·.1))=false;rw[hplain] <;> rfl) (Calls.evalArgs_plain ?_)
 exact thn hA fun us s2 ⟨vs,H2,I2,r2,q2⟩=>hm pins s2 σ H2 x vs v us Q I2 r1 r2 q2
end
def MtM (X:Cx)(id:String)(r:V->List V->Hp->VK->Prop):Prop:=
 ∀ (pins:List (Addr×Obj))(s:Shared)(σ:St)(H:Hp)(x:V)(xs:List V)(v:Value)(us:List Value)(Q:VK),Inv X pins σ H s->RelV x v->Vals xs us->r x xs H Q->
  wpAny (model X.prog X.w) X.A (call (.builtin id) (v::us)) (EP X pins σ Q) X.xe s
theorem Vals.one:∀{x:V}{us:List Value},Vals [x] us->∃u,us= [u]/\RelV x u
 |_,_,.cons r .nil=>⟨_,rfl,r⟩
theorem Vals.two:∀{x y:V}{us:List Value},Vals [x,y] us->∃u v,us= [u,v]/\RelV x u/\RelV y v
 |_,_,_,.cons r (.cons q .nil)=>⟨_,_,rfl,r,q⟩
theorem Vals.zero:∀{us:List Value},Vals [] us->us= []
 |_,.nil=>rfl
def Vals.dropLast {us:List Value}(h:Vals xs us):Vals xs.dropLast us.dropLast:=by
 induction h with
 |nil=>exact .nil
 | cons r t ih=>
  cases t with
  |nil=>exact .nil
  |cons q t'=>exact .cons r ih
theorem Vals.eraseIdx:∀{xs:List V}{us:List Value}(i:Nat),Vals xs us->Vals (xs.eraseIdx i) (us.eraseIdx i)
 |_,_,_,.nil=> .nil
 |_,_,0,.cons _ t=>t
 |_,_,i+1,.cons r t=> .cons r (Vals.eraseIdx i t)
theorem Vals.rep {us:List Value}(h:Vals xs us):∀k:Nat,Vals (List.replicate k xs).flatten (List.replicate k us).flatten
 |0=> .nil
 | k+1=>by
  rw[Xk,Xk,Xs,Xs]
  exact Vals.append h (Vals.rep h k)
def zL (l:List α):l.eraseIdx (l.length-1)=l.dropLast:=by
 induction l with
 |nil=>rfl
 | cons a r ih=>
  cases r with
  |nil=>rfl
  | cons b r=>
   have e:(a::b::r).length-1=((b::r).length-1)+1:=by
    have h1:(a::b::r).length=r.length+2:=rfl
    have h2:(b::r).length=r.length+1:=rfl
    omega
   rw[e,List.eraseIdx_cons_succ,ih]
   all_goals rfl
theorem sW:∀(l:List α)(i:Nat),(l.eraseIdx i).length<=l.length
 |[],_=>Yf _
 |_::_,0=>Xv _
 |_::r,i+1=>Nat.succ_le_succ (sW r i)
theorem foldl_rep (its:List Value):∀(k:Nat)(acc:List Value),
  List.foldl (fun x1 x2=>x1++x2) acc.toArray (List.replicate k its.toArray)=(acc++(List.replicate k its).flatten).toArray
 |0,acc=>by simp
 | k +1,acc=>by
  have e:acc.toArray++its.toArray=(acc++its).toArray:=by simp
  have e2:(acc++its)++(List.replicate k its).flatten=acc++(List.replicate (k+1) its).flatten:=by
   rw[Xk,Xs,Xg]
  rw[<-e2,<-foldl_rep its k (acc++its),<-e,Xk,Xp]
section
variable {pins:List (Addr×Obj)}{σ:St}{H:Hp}{l b:Addr}{ys zs:List V}
theorem Inv.lset {its its':List Value}{n:Nat}{f:Array Value->Array Value}{t':Nat}(I:Inv X pins σ H s)(hH:H l=some (.lst xs))
  (e:s.heap.get? l=some { cls:= .type "list",data:= .seq its.toArray n }) (hf:f its.toArray=its'.toArray) (hv:Vals ys its') (hz:ys.length<=sizeLine) :
  Inv X pins σ (upd H l (.lst ys)) { s with heap:=s.heap.update l (Obj.mapSeq f),toks:=t' }:=by
 have q:=PySem.IsL.update e f
 rw[hf]at q
 refine I.write (x:=l) (e:=l) (by rw[hH];exact trivial) (.inl rfl) (fun b' u hb hu=>(Heap.get?_update_other s.heap (Obj.mapSeq f) (Va hb)).trans hu) ⟨_,q⟩ ?_
 exact⟨hz,its',_,hv,q⟩
def Inv.lnew {its:List Value}{t':Nat}(I:Inv X pins σ H s)(hv:Vals ys its)(hz:ys.length<=sizeLine):
  Inv X pins σ (upd H s.heap.objs.size (.lst ys)) { s with heap:=s.heap.push { cls:= .type "list",data:= .seq its.toArray },toks:=t' }:=
 I.laid (fun _ _ q=>Yg _ q) (Yf _) ⟨hz,its,0,hv,Yu _ rfl⟩
def Inv.fresh (I:Inv X pins σ H s):H s.heap.objs.size=none:=I.hok.fresh (Yf _)
def Inv.lstM (I:Inv X pins σ H s)(hH:H l=some (.lst xs)):xs.length<=sizeLine/\∃(its:List Value)(n:Nat),Vals xs its/\xs.length=its.length/\s.heap.get? l=some { cls:= .type "list",data:= .seq its.toArray n }:=by
 obtain⟨z,its,n,r,e⟩:=I.hok l _ hH
 exact⟨z,its,n,r,r.length,e⟩
def wG {n:Nat}(h:n<=sizeLine):Builtin.List.listTooLong n=false:=by
 unfold Builtin.List.listTooLong
 exact Yr (by omega)
end
section
def a9W:V->List V->Hp->VK->Prop:=fun x vs H Q=>∃l xs y,x= .ref l/\vs= [y]/\H l=some (.lst xs)/\xs.length<sizeLine/\Q .non (upd H l (.lst (xs++[y])))
def a2V:MtM X "list.append" a9W:=by
 intro pins s σ H x vs v us Q I rx rv h
 obtain⟨l,xs,y,rfl,rfl,hH,hz,q⟩:=h
 cases rx
 obtain⟨u,rfl,ru⟩:=rv.one
 obtain⟨z,its,n,r,hl,e⟩:=I.lstM hH
 refine call_meets F.slot_list_append ⟨_,e,rfl⟩ F.entry_list_append (F.args_list_append_2 _ _) (PySem.list_append l its.toArray n u (by rw[Yv];omega)) ⟨e,?_⟩
 refine⟨.non,_,I.lset (its':=its++[u]) hH e (by simp) (r.append (.cons ru .nil)) ?_,rfl,q⟩
 rw[Yc,YG]
 omega
def a9V:V->List V->Hp->VK->Prop:=fun x vs H Q=>∃l b xs zs,x= .ref l/\vs= [.ref b]/\H l=some (.lst xs)/\H b=some (.lst zs)/\xs.length+zs.length<=sizeLine/\Q .non (upd H l (.lst (xs++zs)))
def a2U:MtM X "list.extend" a9V:=by
 intro pins s σ H x vs v us Q I rx rv h
 obtain⟨l,b,xs,zs,rfl,rfl,hH,hB,hz,q⟩:=h
 cases rx
 obtain⟨u,rfl,ru⟩:=rv.one
 cases ru
 obtain⟨z,its,n,r,hl,e⟩:=I.lstM hH
 obtain⟨z2,its2,n2,r2,hl2,e2⟩:=I.lstM hB
 have hsz:its.toArray.size+its2.toArray.size<=sizeLine:=by rw[Yv,Yv];omega
 have hlong:¬ (!its.toArray.isEmpty && Builtin.List.listTooLong (its.toArray.size+its2.toArray.size))=true:=by
  rw[wG hsz,Bool.and_false]
  exact Yq
 refine call_meets F.slot_list_extend ⟨_,e,rfl⟩ F.entry_list_extend (F.args_list_extend_2 _ _)
  (AutoSeq1.list_extend_list_list_0 l its.toArray n b its2.toArray n2 hlong (by rw[Yv];omega) (by omega)) ⟨e,e2,?_⟩
 refine⟨.non,_,I.lset (its':=its++its2) hH e (by simp) (r.append r2) ?_,rfl,q⟩
 rw[Yc]
 omega
def c0B:V->List V->Hp->VK->Prop:=fun x vs H Q=>∃l xs y,x= .ref l/\vs= []/\H l=some (.lst xs)/\xs[xs.length-1]? =some y/\Q y (upd H l (.lst xs.dropLast))
def c0G:MtM X "list.pop" c0B:=by
 intro pins s σ H x vs v us Q I rx rv h
 obtain⟨l,xs,y,rfl,rfl,hH,hy,q⟩:=h
 cases rx
 have hus:=rv.zero
 subst hus
 obtain⟨z,its,n,r,hl,e⟩:=I.lstM hH
 obtain⟨u,hu,ru⟩:=r.get hy
 have hy':its.toArray[its.toArray.size-1]? =some u:=by
  show its.toArray[its.length-1]? =some u
  rw[<-Array.getElem?_toList,<-hl]
  exact hu
 refine call_meets F.slot_list_pop ⟨_,e,rfl⟩ F.entry_list_pop (F.args_list_pop_1 _) (MeetsSeq.list_pop_last l its.toArray n u hy' (by rw[Yv];omega)) ⟨e,?_⟩
 refine⟨y,_,I.lset (its':=its.dropLast) hH e ?_ r.dropLast ?_,ru,q⟩
 ·show its.toArray.eraseIdxIfInBounds (its.toArray.size-1)=its.dropLast.toArray
  rw[Yv,List.eraseIdxIfInBounds_toArray,zL]
 ·rw[List.length_dropLast]
  omega
def b4D:V->List V->Hp->VK->Prop:=fun x vs H Q=>∃l xs i k y,x= .ref l/\vs= [.int i]/\H l=some (.lst xs)/\ -(2 ^ 63)<=i/\i<2 ^ 63/\seqIndex? i xs.length=some k/\xs[k]? =some y/\Q y (upd H l (.lst (xs.eraseIdx k)))
def a7A:MtM X "list.pop" b4D:=by
 intro pins s σ H x vs v us Q I rx rv h
 obtain⟨l,xs,i,k,y,rfl,rfl,hH,h1,h2,hk,hy,q⟩:=h
 cases rx
 obtain⟨u,rfl,ru⟩:=rv.one
 obtain⟨t,rfl⟩:=ru
 obtain⟨z,its,n,r,hl,e⟩:=I.lstM hH
 obtain⟨w,hw,rw'⟩:=r.get hy
 refine call_meets F.slot_list_pop ⟨_,e,rfl⟩ F.entry_list_pop (F.args_list_pop_2 _ _)
  (MeetsSeq.list_pop_at l its.toArray n i t k w (fitsIndex_both h1 h2) (by rw[Yv,<-hl];exact hk) (by rw[<-Array.getElem?_toList];exact hw) (by rw[Yv];omega)) ⟨e,?_⟩
 refine⟨y,_,I.lset (its':=its.eraseIdx k) hH e ?_ (r.eraseIdx k) ?_,rw',q⟩
 ·show its.toArray.eraseIdxIfInBounds k=(its.eraseIdx k).toArray
  rw[List.eraseIdxIfInBounds_toArray]
 ·have:=sW xs k
  omega
def b4E:V->List V->Hp->VK->Prop:=fun x vs H Q=>∃l xs,x= .ref l/\vs= []/\H l=some (.lst xs)/\Q .non (upd H l (.lst []))
def a7B:MtM X "list.clear" b4E:=by
 intro pins s σ H x vs v us Q I rx rv h
 obtain⟨l,xs,rfl,rfl,hH,q⟩:=h
 cases rx
 have hus:=rv.zero
 subst hus
 obtain⟨z,its,n,r,hl,e⟩:=I.lstM hH
 refine call_meets F.slot_list_clear ⟨_,e,rfl⟩ F.entry_list_clear (F.args_list_clear_1 _) (AutoSeq1.list_clear_list_0 l its.toArray n (by rw[Yv];omega)) ⟨e,?_⟩
 exact⟨.non,_,I.lset (its':=[]) (ys:=[]) hH e rfl .nil (YO _),rfl,q⟩
def c0E:R2:=fun x y H Q=>∃l b xs zs,x= .ref l/\y= .ref b/\H l=some (.lst xs)/\H b=some (.lst zs)/\xs.length+zs.length<=sizeLine/\∀p,H p=none->Q (.ref p) (upd H p (.lst (xs++zs)))
def b4T:OpR X (binaryOp .Add) c0E:=by
 intro pins s σ H x y v u Q I rx ry h
 obtain⟨l,b,xs,zs,rfl,rfl,hH,hB,hz,q⟩:=h
 cases rx
 cases ry
 obtain⟨z,its,n,r,hl,e⟩:=I.lstM hH
 obtain⟨z2,its2,n2,r2,hl2,e2⟩:=I.lstM hB
 refine PySem.P.add_list e e2 ?_ (by rw[Yv,Yv];omega)
 have ea:its.toArray++its2.toArray=(its++its2).toArray:=by simp
 rw[ea]
 exact⟨.ref _,_,I.lnew (t':=s.toks) (r.append r2) (by rw[Yc];omega),rfl,q _ I.fresh⟩
def c0A:R2:=fun x y H Q=>∃l k xs,x= .ref l/\y= .int k/\H l=some (.lst xs)/\ -(2 ^ 63)<=k/\k<2 ^ 63/\xs.length*k.toNat<=sizeLine/\
 ∀p,H p=none->Q (.ref p) (upd H p (.lst (List.replicate k.toNat xs).flatten))
def len_rep (xs:List α)(k:Nat):(List.replicate k xs).flatten.length=k*xs.length:=by
 induction k with
 |zero=>simp
 |succ k ih=>rw[Xk,Xs,Yc,ih,Nat.succ_mul,Nat.add_comm]
def b4Q:OpR X (binaryOp .Mult) c0A:=by
 intro pins s σ H x y v u Q I rx ry h
 obtain⟨l,k,xs,rfl,rfl,hH,h1,h2,hz,q⟩:=h
 cases rx
 obtain⟨t,rfl⟩:=ry
 obtain⟨z,its,n,r,hl,e⟩:=I.lstM hH
 have hlen:its.toArray.size*k.toNat<=sizeLine:=by rw[Yv,<-hl];exact hz
 have hcap:¬ its.toArray.size*k.toNat > (2 ^ 63-1) / 8:=by
  have:(sizeLine:Nat)<=(2 ^ 63-1) / 8:=by decide
  omega
 have hfit:¬ (!Builtin.List.listFitsIndex k)=true:=by
  rw[fitsIndex_both h1 h2]
  exact Yq
 have hlong:¬ Builtin.List.listTooLong (its.toArray.size*k.toNat)=true:=by
  rw[wG hlen]
  exact Yq
 have hnew:List.foldl (fun x1 x2=>x1++x2) #[] (List.replicate (if its.toArray.isEmpty=true then 0 else k.toNat) its.toArray)=(List.replicate k.toNat its).flatten.toArray:=by
  have f0:∀m:Nat,List.foldl (fun x1 x2=>x1++x2) #[] (List.replicate m its.toArray)=(List.replicate m its).flatten.toArray:=fun m=>by
   have:=foldl_rep its m []
   rw[List.nil_append]at this
   exact this
  rw[f0]
  cases its with
  |nil=>simp
  |cons a r'=>rw[if_neg (by simp)]
 refine wpAny_binaryOp_repeat_ref (T:="list") (U:="int") (by decide) ⟨_,e,rfl⟩ (fun s'=>typeIs_int s' k t) noFill_list_mul F.fills_int_mul F.slot_int_rmul repeat_list F.slot_int_index.lookup
  (call_meets F.slot_int_rmul (typeIs_int s k t) F.entry_int_rmul (F.args_int_rmul_2 _ _) (int___rmul___int_list k t l its.toArray n)
   ⟨e,rfl,⟨_,e,rfl⟩,call_meets F.slot_list_mul ⟨_,e,rfl⟩ F.entry_list_mul (F.args_list_mul_2 _ _) (AutoListH.list___mul___list_int_3 l its.toArray n k t hfit hcap hlong) ⟨e,?_⟩⟩)
 rw[hnew]
 exact⟨.ref _,_,I.lnew (t':=s.toks) (r.rep k.toNat) (by rw[len_rep,Nat.mul_comm];exact hz),rfl,q _ I.fresh⟩
end
section
variable {prog:Program}{w:World}{E:Value->Shared->Prop}
end
section
end
end L2
namespace Att
open PySem PySem.W PySem.Calls PyProof.Rows
def pG {P:Params}{h:Heap}:∀(ns:List Int)(vs:List Value),WellAll P h vs (ns.map WData.int)->IntsAre vs ns:=by
 intro ns
 induction ns with
 | nil=>
  intro vs w
  rw[List.map_nil]at w
  cases w
  exact .nil
 | cons n ns ih=>
  intro vs w
  rw[YI]at w
  cases w with
  | cons a b=>
   cases a
   exact .cons _ _ (ih _ b)
theorem a2K {l:OpenLaw}{n:Nat}(hn:l.most=some n){P:Params}{h:Heap}{args:List WData}{vals:List Value}
  (hpre:l.row.toRowW.claim.pre args=true) (hwl:WellAll P h vals args) :
  ∃a vs ns,vals= [Value.ref a]/\args= [WData.list (ns.map WData.int)]/\h.get? a=some { cls:= .type "list",data:= .seq vs.toArray }/\IntsAre vs ns/\ns.length<=n:=by
 have hsh:WShape.hasAll [] args [.list .int]=true:=(pre_splitW hpre).1
 have hc:l.pre.holds [] { args:=args }=true:=(pre_splitW hpre).2
 obtain⟨d,r,rfl,h1,h2⟩:=hasAllW_cons hsh
 obtain rfl:=hasAllW_nil h2
 obtain⟨xs,rfl,h3⟩:=hasW_list h1
 obtain⟨ns,rfl⟩:=items_int h3
 have hlen:ns.length<=n:=by
  unfold OpenLaw.pre at hc
  have h4:(WTm.not (.lt (.lit (.int (n:Int))) (.len (.arg 0)))).holds [] { args:=[.list (ns.map .int)] }=true:=by
   have h4:=(holds_andW hc).1
   rw[hn]at h4
   exact h4
  have h5:=condW_of h4 (w_not (w_lt w_lit (w_len_list (w_arg rfl))))
  rw[Ya]at h5
  refine Nat.le_of_not_lt fun q=>?_
  have q':(n:Int)<((ns.length:Nat):Int):=by omega
  first
   |(rw[Yp q']at h5;exact absurd h5 (by decide))
   |(simp at h5;omega)
 cases hwl with
 | cons w1 w2=>
  cases w2
  cases w1 with
  |list ho hall=>exact⟨_,_,ns,rfl,rfl,ho,pG ns _ hall,hlen⟩
def a2O (l:OpenLaw)(args:List WData):l.row.toRowW.claim.post args (.bool true) args=true:=
 postW_of (r:=l.row.toRowW) (X:=(true == true))
  (show WShape.has [] (.bool true) .bool=true by first | rfl | decide | simp[WShape.has,WShape.arms,WShape.armsAll])
  (show (WTm.eq .res (.lit (.bool true))).value [] { args:=args,res:=some (.bool true),after:=args }=some (.bool (true == true)) from w_eq_bool (w_res rfl) w_lit) rfl
theorem attach_call {l:OpenLaw}{n:Nat}{q:Program}{loose:List Str}{XP:(Str->Option Value)->Heap->Prop}{YP:World->Heap->Prop}{d:DefRec}
  (hn:l.most=some n) (hdf:d.params.defaults= [])
  (call:∀(w:World)(s₀ s₁:Shared)(mg mb:Str->Option Value)(fa:Addr)(o:Obj)(pm cd doc:Value)(a:Addr)(vs:List Value)(ns:List Int),
   Ground q loose [] XP w s₀ mg mb s₁.heap->YP w s₁.heap->
   s₁.heap.get? fa=some o->o.data= .func (docDef d.name d.params d.body d.scope pm cd doc)->s₁.heap.CodeRec cd d.name->mg d.name=some (.ref fa)->
   s₁.heap.get? a=some { cls:= .type "list",data:= .seq vs.toArray }->IntsAre vs ns->ns.length<=n->s₁.gens=#[]->
   codeAny (model l.prog w) callerA (.call (.ref fa) ⟨[.ref a], []⟩) (fun r s'=>r= .ok (.ret (.bool true))/\OldK s₁.heap s'.heap/\s'.os=s₁.os/\AllBare s'.gens) s₁) :
  WalkO q loose XP YP l.row.toRowW d [] (fun f vs=>PySem.call f vs):=by
 intro w s₀ s₁ mg mb G Y fa o pm cd doc dV kV ho hd hcd hD hmg hg args vals as hpre hlay hrd hwl hlo
 obtain rfl:dV= .none:=Dflts.none hD hdf
 obtain rfl:kV= .none:=Dflts.noKw hD
 obtain⟨a,vs,ns,rfl,rfl,hobj,hints,hlen⟩:=a2K hn hpre hwl
 refine enter_call (XO (call w s₀ s₁ mg mb fa o pm cd doc a vs ns G Y ho (fd_plain hd) hcd hmg hobj hints hlen hg) fun r s' hq=>?_)
 obtain⟨rfl,h2,h3,h4⟩:=hq
 exact⟨.inl ⟨.bool true,.bool true, [],rfl,fun _=>rfl,.bool true,a2O l _,fun _=>⟨List.Pairwise.nil,fun _ hm=>(nomatch hm)⟩⟩,h2,h3,h4⟩
section
variable {prog:Program}{w:World}{A:Around}{E:Value->Shared->Prop}{s:Shared}{K:Frag}
end
end Att
namespace L2
open PySem PySem.Spec PyProof.Rows
variable {X:Cx}{A:Around}{n:Nat}{B:Prop}{H:Hp}{K:W.Frag}{a:Nat}{i:Int}{z:Int}{e:Expr}{r:R2}{x:V}{es:List Expr}{t:TA}{pos:Pos}{scope:Scope}{env:Env}{y:Str}{s:Shared}{N:List Str}{ix:List Nat}{P:Program}{w:World}{mg:Str->Option Value}{base:Heap}{outer:List Env}{f:Addr}{E:XK}{C:Addr}
theorem rY:∀{vs:List Value}{ns:List Int},IntsAre vs ns->Vals (ns.map V.int) vs
 |_,_,.nil=> .nil
 |_,_,.cons n t h=> .cons ⟨t,rfl⟩ (rY h)
def iD (s:Stmt):Arguments:=match s with
 |.FunctionDef _ a _ _ _ _ _ _ _ _=>a
 |_=>{ posonlyargs:=[],args:=[],vararg:=none,kwonlyargs:=[],kw_defaults:=[],kwarg:=none,defaults:=[] }
def cZ (s:Stmt):List Stmt:=match s with
 |.FunctionDef _ _ b _ _ _ _ _ _ _=>b
 |_=>[]
def aR (s:Stmt):Scope:=match s with
 |.FunctionDef _ _ _ _ _ _ sc _ _ _=>sc
 |_=>{ kind:= .function,names:=[],isGenerator:=false,isCoroutine:=false }
abbrev CX0:CXT:=fun _ _ _ _ _ _=>False
abbrev E0:XK:=fun _ _ _=>False
def aM:gJ CX0 X E0:=fun _ _ _ _ _ _ _ h=>h.elim
structure Fun (K:W.Frag)(x qual:Str)(st:Stmt)(f:Addr)(fd:FuncData):Prop where
 ex :∃(oc:Value)(od:Option Addr)(kV doc pm:Value)(an:Option Addr)(cdv ct:Value)(osl:Array (Option Value)),
  fd=W.fnOf x qual (iD st) (cZ st) (aR st) .none kV doc pm an cdv ct/\K.lookup f=some ⟨oc,od,.func fd,osl⟩/\W.codeIn K cdv qual=true
 kp:W.keepIn K (.ref f)=true
section
theorem Fun.ok {x qual:Str}{st:Stmt}{f:Addr}{fd:FuncData}{N ps:List Str}{k:Nat}{sp:Sp}(F:Fun K x qual st f fd)(S:fY N ps (aR st))(len:∀vs H Q E,sp vs H Q E->vs.length=ps.length)
  (hbody:∀(cdv:Value)(A:Around)(outer:List Env)(s:Shared)(H:Hp)(vs:List V)(Q:VK)(E:XK),cX k (A.deeper (envOfC qual (aR st) s.heap.objs.size f cdv))->sp vs H Q E->
   ∃t,PSs (mG CX0 P w K mg base N qual (aR st) f cdv A outer s H E).nox (cZ st) t/\t { nx:=fun _ H'=>Q .non H',rt:=Q } (start N vs) H):fV P w K mg base CX0 (k+1) f fd ps sp:=by
 obtain⟨oc,od,kV,doc,pm,an,cdv,ct,osl,rfl,lk,hcd⟩:=F.ex
 refine b2W lk hcd S len fun A outer s H vs Q E hr hsp=>?_
 obtain⟨t,h,q⟩:=hbody cdv A outer s H vs Q E hr hsp
 exact⟨t,h.nox,q⟩
theorem Fun.binds {x qual:Str}{st:Stmt}{f:Addr}{fd:FuncData}{ps:List Str}(F:Fun K x qual st f fd)
  (h:∀(kV doc pm:Value)(an:Option Addr)(cdv ct:Value)(us:List Value),us.length=ps.length->bindArgs (W.fnOf x qual (iD st) (cZ st) (aR st) .none kV doc pm an cdv ct) ⟨us, []⟩=pure (ps.zip us)):Binds K fd ps []:=by
 obtain⟨oc,od,kV,doc,pm,an,cdv,ct,osl,rfl,lk,hcd⟩:=F.ex
 exact .all (h kV doc pm an cdv ct)
theorem uO {x qual:Str}{st:Stmt}{f:Addr}{oc:Value}{od an:Option Addr}{osl:Array (Option Value)}{kV doc pm cdv ct:Value}(l:K.lookup f=some ⟨oc,od,.func (W.fnOf x qual (iD st) (cZ st) (aR st) .none kV doc pm an cdv ct),osl⟩)
  (c:W.codeIn K cdv qual=true) (k:W.keepIn K (.ref f)=true):Fun K x qual st f (W.fnOf x qual (iD st) (cZ st) (aR st) .none kV doc pm an cdv ct):=⟨⟨oc,od,kV,doc,pm,an,cdv,ct,osl,rfl,l,c⟩,k⟩
end
def a0Y {k:Nat}(hr:cX k A):A.units+1<cLine:=X0 (Nat.add_le_add_left (by decide:1<=64) _) hr.units
def sJ (h:n<=1000):n<sizeLine:=X0 h (by decide)
section
theorem pv (i:Nat){x:Str}{pos:Pos}(hN:X.N[i]? =some x:=by rfl)(hv:Vis X.env.scope x:=by first | exact Or.inl rfl | exact Or.inr (Or.inl rfl) | exact Or.inr (Or.inr rfl))(hd:(x == ("__debug__":Str))=false:=by decide)
  (hcd:(x == ("__classdict__":Str))=false:=by decide):PE X (.Name x pos) (b3I i):=yU hN hv hd hcd
end
def zG {A:Prop}(h:B):if false=true then A else B:=by
 rw[if_neg Yq]
 exact h
def c0P {A:Prop}(h:A):if true=true then A else B:=by
 rw[if_pos rfl]
 exact h
def cC {c A:Prop}[Decidable c](h1:c->A)(h2:¬ c->B):if c then A else B:=by
 by_cases h:c
 ·rw[if_pos h]
  exact h1 h
 ·rw[if_neg h]
  exact h2 h
def qT {c A:Prop}[Decidable c](hc:c)(h:B):if (!decide c)=true then A else B:=by
 rw[Yp hc]
 exact zG h
def Same (H H':Hp):Prop:=∀b o,H b=some o->H' b=some o
def Same.refl (H:Hp):Same H H:=fun _ _ h=>h
def Vd:=@Same.refl
def Same.trans {H1 H2:Hp}(a:Same H H1)(b:Same H1 H2):Same H H2:=fun c o h=>b c o (a c o h)
def Same.seq {H':Hp}{a:Addr}{xs:List V}(e:Same H H')(h:SqL K H a xs):SqL K H' a xs:=by
 rcases h with (h | ⟨o,h⟩) | h
 ·exact .inl (.inl (e _ _ h))
 ·exact .inl (.inr ⟨o,e _ _ h⟩)
 ·exact .inr h
def dM:bootBuiltins "len"=some (.builtin "len"):=by decide +kernel
def a8P:bootBuiltins "min"=some (.builtin "min"):=by decide +kernel
def b6A:bootBuiltins "max"=some (.builtin "max"):=by decide +kernel
def dZ:bootBuiltins "isinstance"=some (.builtin "isinstance"):=by decide +kernel
def eN:bootBuiltins "list"=some (.type "list"):=by decide +kernel
def b5Z:bootBuiltins "str"=some (.type "str"):=by decide +kernel
def uX:bootBuiltins "int"=some (.type "int"):=by decide +kernel
def a1M:bootBuiltins "bool"=some (.type "bool"):=by decide +kernel
def a8O:bootBuiltins "tuple"=some (.type "tuple"):=by decide +kernel
def rE (a:Nat):Builtin.Int.intBits (a:Int)=if a=0 then 0 else a.log2+1:=by
 unfold Builtin.Int.intBits
 by_cases h:a=0
 ·subst h;rfl
 ·have h':¬ ((a:Int) == 0)=true:=by
   intro q
   have:=XN.mp q
   omega
  rw[if_neg h',if_neg h]
  rfl
def bits_le (h:a<2 ^ n):Builtin.Int.intBits (a:Int)<=n:=by
 rw[rE]
 split
 ·exact YO _
 ·rename_i h0
  exact(Nat.log2_lt h0).mpr h
def b1T (a:Nat):a<2 ^ Builtin.Int.intBits (a:Int):=by
 rw[rE]
 split
 ·rename_i h;subst h;exact Nat.one_pos
 ·exact Nat.lt_log2_self
def xO (h:i.natAbs<2 ^ n):Builtin.Int.intBits i<=n:=by
 unfold Builtin.Int.intBits
 split
 ·exact YO _
 ·rename_i h0
  have h1:i.natAbs≠0:=by
   intro q
   apply h0
   have:i=0:=by omega
   subst this;rfl
  exact(Nat.log2_lt h1).mpr h
def zR:∀(n a b:Nat),a<2 ^ n->b<2 ^ n->a+b=(a ^^^ b)+2*(a &&& b):=by
  intro n
  induction n with
  | zero => intro a b ha hb;have:a=0:=by simpa using ha
            have:b=0:=by simpa using hb
            subst_vars;rfl
  | succ n ih=>
    intro a b ha hb
    have e:=ih (a / 2) (b / 2) (by omega) (by omega)
    have x1:(a ^^^ b) / 2=a / 2 ^^^ b / 2:=Nat.xor_div_two
    have x2:(a &&& b) / 2=a / 2 &&& b / 2:=Nat.and_div_two
    rw[<-x1,<-x2]at e
    have y1:(a ^^^ b) % 2=(a % 2+b % 2) % 2:=by
      have:=Nat.xor_mod_two_eq_one (a:=a) (b:=b)
      omega
    have y2:(a &&& b) % 2=(a % 2)*(b % 2):=by
      have:=Nat.and_mod_two_pow (a:=a) (b:=b) (n:=1)
      rcases Xw a with h | h <;> rcases Xw b with h' | h' <;> simp[h,h']at this ⊢ <;> omega
    have z1:=Nat.div_add_mod (a ^^^ b) 2
    have z2:=Nat.div_add_mod (a &&& b) 2
    rcases Xw a with h | h <;> rcases Xw b with h' | h' <;> rw[h,h']at y1 y2 <;> omega
def a8X {b:Nat}(ha:a<2 ^ (n+1))(hb:b<2 ^ (n+1))(ha':2 ^ n<=a)(hb':2 ^ n<=b):a ^^^ b<2 ^ n:=by
 apply Nat.lt_pow_two_of_testBit
 intro i hi
 rw[XS]
 by_cases e:i=n
 ·subst e
  have h1:a.testBit i=true:=by
   rw[Y1]
   have:a / 2 ^ i=1:=by
    apply XU
    ·simpa using ha'
    ·rw[XX]at ha;omega
   rw[this];rfl
  have h2:b.testBit i=true:=by
   rw[Y1]
   have:b / 2 ^ i=1:=by
    apply XU
    ·simpa using hb'
    ·rw[XX]at hb;omega
   rw[this];rfl
  rw[h1,h2];rfl
 ·have h1:a.testBit i=false:=Y3 (Ye ha (Yw (by decide) (by omega)))
  have h2:b.testBit i=false:=Y3 (Ye hb (Yw (by decide) (by omega)))
  rw[h1,h2];rfl
def band (a b:Nat):Builtin.bitAnd (a:Int) (b:Int)=((a &&& b:Nat):Int):=by
 rw[PyProof.Rows.bitAnd_pp (by omega) (by omega)];rfl
def bxor (a b:Nat):Builtin.bitXor (a:Int) (b:Int)=((a ^^^ b:Nat):Int):=by
 have h:=zR (a+b) a b (X0 (Nat.le_add_right a b) Nat.lt_two_pow_self) (X0 (Nat.le_add_left b a) Nat.lt_two_pow_self)
 unfold Builtin.bitXor
 rw[PyProof.Rows.bitOr_and,band]
 omega
def qL (k:Nat):(2:Int) ^ ((k:Int)).toNat=((2 ^ k:Nat):Int):=by
 rw[YR];simp
def c0R (a k:Nat):(a:Int)*2 ^ ((k:Int)).toNat=((a <<< k:Nat):Int):=by
 rw[qL,Xm];simp
def c0Q (a k:Nat):(a:Int) / 2 ^ ((k:Int)).toNat=((a >>> k:Nat):Int):=by
 rw[qL,Nat.shiftRight_eq_div_pow];rfl
def bit_at (b k:Nat):(((b >>> k:Nat) &&& 1:Nat):Int)=1↔b.testBit k=true:=by
 unfold Nat.testBit
 rw[Nat.and_comm]
 have h:1 &&& b >>> k=(b >>> k) % 2:=by rw[Nat.and_comm];exact Nat.and_one_is_mod _
 rw[h]
 have:(b >>> k) % 2=0\/(b >>> k) % 2=1:=by omega
 rcases this with h | h <;> rw[h] <;> decide
section
def rN (C:Nat->Nat->Prop)(g:Nat->Nat->Nat):R2:=fun x y H Q=>∃a b:Nat,x= .int a/\y= .int b/\C a b/\Q (.int ((g a b:Nat):Int)) H
theorem opN {f:Value->Value->Sem Value}{C:Nat->Nat->Prop}{g:Nat->Nat->Nat}
  (rule:∀(i j:Nat)(t u:Tok)(s:Shared)(Q:Value->Shared->Prop)(E:Value->Shared->Prop),C i j->Q (.int ((g i j:Nat):Int) s.toks) { s with toks:=s.toks+1 }->wpAny (model X.prog X.w) X.A (f (.int i t) (.int j u)) Q E s) :
  OpR X f (rN C g):=by
 intro pins s σ H x y v u Q I rx ry h
 obtain⟨i,j,rfl,rfl,hc,q⟩:=h
 obtain⟨t,rfl⟩:=rx
 obtain⟨t',rfl⟩:=ry
 exact rule i j t t' s _ _ hc ⟨.int ((g i j:Nat):Int),H,I.tok _,⟨_,rfl⟩,q⟩
def a0M:OpR X (binaryOp .BitXor) (rN (fun _ _=>True) fun a b=>a ^^^ b):=opN fun i j _ _ _ _ _ _ q=>by
 refine xor_int ?_
 rw[bxor];exact q
def a0N:OpR X (binaryOp .LShift) (rN (fun a k=>a<2 ^ 4000/\k<=4000) fun a k=>a <<< k):=opN fun a k _ _ _ _ _ hc q=>by
 refine lshift_int (by omega) ?_ ?_
 ·have:=bits_le hc.1
  omega
 ·rw[c0R];exact q
def a1R (i j:Int):Prop:=i.natAbs<2 ^ 4000/\j.natAbs<2 ^ 4000
def a1R.ok {j:Int}(h:a1R i j):IntMulOk i j:=by
 unfold IntMulOk
 have h1:=xO h.1
 have h2:=xO h.2
 have h3:Builtin.Int.intTooBig ((Builtin.Int.intBits i:Int)+(Builtin.Int.intBits j:Int))=false:=by
  unfold Builtin.Int.intTooBig
  apply Yr
  have:(8000:Int)<=bitsLine:=by decide
  omega
 simp only[h3,Bool.and_false]
 decide
def b0M:OpR X (binaryOp .Mult) (rI a1R fun i j=> .int (i*j)):=opI fun _ _ _ _ _ _ _ hc q=>mul_int q hc.ok
def b8A:MtR X "int.bit_length" (fun x vs H Q=>∃i,x= .int i/\vs= []/\Q (.int ((Builtin.Int.intBits i:Nat):Int)) H):=by
 intro pins s σ H x xs v us Q I rx rv h
 obtain⟨i,rfl,rfl,q⟩:=h
 obtain⟨t,rfl⟩:=rx
 cases rv
 exact call_int_bit_length ⟨.int _,H,I.tok _,⟨_,rfl⟩,q⟩
def b5Y:V->Option Value
 |.ref a=>some (.ref a)
 |.ty n=>some (.type n)
 |_=>none
def b1R {c:V}{cv u:Value}(e:b5Y c=some cv)(r:RelV c u):u=cv:=by
 cases c <;> simp only[b5Y]at e <;> first | (cases e;exact r) | cases e
def a8N:fJ X (.builtin "isinstance") (fun xs H Q=>∃x c cv t b,xs= [x,c]/\b5Y c=some cv/\nU X.K H x t/\W.kitOne X.K t cv=some b/\Q (.bl b) H):=by
 intro pins s σ H xs us Q I rv h
 obtain⟨x,c,cv,t,b,rfl,ec,ty,e,q⟩:=h
 obtain⟨u,v,rfl,rx,rc⟩:=rv.two
 cases b1R ec rc
 exact a3I I rx ty e fun tk=>⟨.bl b,H,I.tok _,rfl,q⟩
end
section
def wZ:W.kitOne K (.type "int") (.type "int")=some true:=by rfl
def uK:W.kitOne K (.type "int") (.type "bool")=some false:=by first | rfl | decide +kernel
def rP:W.kitOne K (.type "bool") (.type "bool")=some true:=by rfl
def uL:W.kitOne K (.type "bool") (.type "int")=some true:=by first | rfl | decide +kernel
def rM:W.kitOne K (.type "list") (.type "list")=some true:=by rfl
def pD:W.kitOne K (.type "tuple") (.type "tuple")=some true:=by rfl
def wW:W.kitOne K (.type "str") (.type "str")=some true:=by rfl
end
section
variable {te:TE}{st:Stmt}{ts:TS}
def b9U (t:TE):TE:=fun σ H Q=>∃P:VK,t σ H P/\∀x H',P x H'->Q x H'
def cD (h:PE X e te):PE X e (b9U te):=by
 intro pins s σ H Q I hw
 obtain⟨P,h1,h2⟩:=hw
 exact thn (h pins s σ H P I h1) fun v s1 ⟨x,H1,I1,r,q⟩=>⟨x,H1,I1,r,h2 x H1 q⟩
def b6Y (t:TS):TS:=fun D σ H=>∃N:St->Hp->Prop,t { D with nx:=N } σ H/\∀σ' H',N σ' H'->D.nx σ' H'
def qJ (h:PS X st ts):PS X st (b6Y ts):=by
 intro pins s σ H D I hw
 obtain⟨N,h1,h2⟩:=hw
 refine thn (h pins s σ H { D with nx:=N } I h1) fun f s1 q=>?_
 cases f with
 |next=>obtain⟨σ',H',I',q⟩:=q;exact⟨σ',H',I',h2 σ' H' q⟩
 |ret v=>exact q
 |brk=>exact q
 |cont=>exact q
end
def dec_true {p:Prop}[Decidable p](h:decide p=true):p:=YL h
def dec_false {p:Prop}[Decidable p](h:¬ decide p=true):¬ p:=fun q=>h (Yp q)
def a2T (h0:0<=z)(h1:z<2 ^ n):z.natAbs<2 ^ n:=by
 obtain⟨k,rfl⟩:=Xa h0
 have:(k:Int)<((2 ^ n:Nat):Int):=by simpa using h1
 omega
def a8S (h:z.natAbs<2 ^ n)(hn:n<=4000:=by decide):z.natAbs<2 ^ 4000:=Ye h (Yw (by decide) hn)
def kW (h0: -18446744073709551616<z)(h1:z<18446744073709551616):z.natAbs<2 ^ 4000:=a8S (n:=64) (by omega)
def yC {b:Nat}(h:a<=b):(2:Int) ^ a<=2 ^ b:=by
 have:=Yw (n:=2) (by decide) h
 exact_mod_cast this
def a7H (h:a<2 ^ n)(hn:n<=4000:=by decide):a<2 ^ 4000:=Ye h (Yw (by decide) hn)
def b6E {ns:List Int}{k:Int}(h:0<ns.length):∃v:Int,atI (ns.map V.int) (k % (((ns.map V.int).length:Nat):Int))=some (.int v):=by
 rw[Ya]
 have h0:0<=k % ((ns.length:Nat):Int):=Int.emod_nonneg _ (by omega)
 have h1:k % ((ns.length:Nat):Int)<((ns.length:Nat):Int):=X1 _ (by omega)
 generalize k % ((ns.length:Nat):Int)=j at h0 h1
 have hk:j.toNat<ns.length:=by omega
 refine⟨ns[j.toNat],?_⟩
 have q:atI (ns.map V.int) ((j.toNat:Nat):Int)=some (.int ns[j.toNat]):=fC (by rw[Yl,Yb hk] <;> rfl)
 have e:((j.toNat:Nat):Int)=j:=by omega
 rw[e]at q
 exact q
def b3X (K:W.Frag):Sp:=fun vs H Q _=>∃(a:Addr)(ns:List Int)(k m:Int),vs= [.ref a,.int k,.int m]/\SqL K H a (ns.map V.int)/\ns.length<=63/\0<=k/\k<=100000/\0<m/\∀d:Int,0<=d->d<m->Q (.int d) H
section
variable {M:Model}{E:Value->Shared->Prop}{B:Heap}{l:List Env}{L e:Addr}{k a0:Value}{od:Option Addr}
end
section
variable {qual:Str}{cd:Value}
end
section
variable {qual:Str}{cd:Value}
end
section
variable {tx:St->Hp->VK->XK->Prop}{p1 np hpos:Pos}{n:Str}{i:Nat}{b₀:Stmt}{suite:List Stmt}{ts:TS}
end
section
variable {CX:CXT}{k:Nat}{fd:FuncData}{ps:List Str}{sp:Sp}{dvs:List V}{ds:List Value}{x m:Str}{p apos:Pos}{o:Expr}{ta:TE}
end
section
end
def PE.imp {t t':TE}(h:PE X e t)(i:∀σ H Q,t' σ H Q->t σ H Q):PE X e t':=fun pins s σ H Q I q=>h pins s σ H Q I (i σ H Q q)
def PS.imp {e:Stmt}{t t':TS}(h:PS X e t)(i:∀D σ H,t' D σ H->t D σ H):PS X e t':=fun pins s σ H D I q=>h pins s σ H D I (i D σ H q)
def OpR.imp {f:Value->Value->Sem Value}{r':R2}(h:OpR X f r)(i:∀x y H Q,r' x y H Q->r x y H Q):OpR X f r':=fun pins s σ H x y v u Q I rx ry q=>h pins s σ H x y v u Q I rx ry (i x y H Q q)
def UnR.imp {f:Value->Sem Value}{r r':V->Hp->VK->Prop}(h:UnR X f r)(i:∀x H Q,r' x H Q->r x H Q):UnR X f r':=fun pins s σ H x v Q I rx q=>h pins s σ H x v Q I rx (i x H Q q)
def fJ.imp {f:Value}{r r':List V->Hp->VK->Prop}(h:fJ X f r)(i:∀xs H Q,r' xs H Q->r xs H Q):fJ X f r':=fun pins s σ H xs us Q I rv q=>h pins s σ H xs us Q I rv (i xs H Q q)
def IxR.imp {r':R2}(h:IxR X r)(i:∀x y H Q,r' x y H Q->r x y H Q):IxR X r':=fun va sl pins s σ H x y v u Q I rx ry q hs=>h va sl pins s σ H x y v u Q I rx ry (i x y H Q q) hs
def oV (o:Option (Option V))(k:V->Prop):Prop:=@Option.rec (Option V) (fun _=>Prop) False (fun o=>@Option.rec V (fun _=>Prop) False k o) o
def vI (x:V)(k:Int->Prop):Prop:=@V.rec (fun _=>Prop) False (fun _=>False) k (fun _=>False) (fun _=>False) (fun _=>False) (fun _=>False) (fun _=>False) x
def vB (x:V)(k:Bool->Prop):Prop:=@V.rec (fun _=>Prop) False k (fun _=>False) (fun _=>False) (fun _=>False) (fun _=>False) (fun _=>False) (fun _=>False) x
def vR (x:V)(k:Addr->Prop):Prop:=@V.rec (fun _=>Prop) False (fun _=>False) (fun _=>False) (fun _=>False) (fun _=>False) (fun _=>False) k (fun _=>False) x
def l1 (vs:List V)(k:V->Prop):Prop:=@List.rec V (fun _=>Prop) False (fun x r _=>@List.rec V (fun _=>Prop) (k x) (fun _ _ _=>False) r) vs
def l2 (vs:List V)(k:V->V->Prop):Prop:=@List.rec V (fun _=>Prop) False (fun x r _=>l1 r fun y=>k x y) vs
def oV.ex {o:Option (Option V)}{k:V->Prop}(h:oV o k):∃v,o=some (some v)/\k v:=by
 cases o with
 |none=>exact h.elim
 | some o=>cases o with
  |none=>exact h.elim
  |some v=>exact⟨v,rfl,h⟩
def vI.ex {k:Int->Prop}(h:vI x k):∃i,x= .int i/\k i:=by
 cases x with
 |int i=>exact⟨i,rfl,h⟩
 |_=>exact h.elim
def vB.ex {k:Bool->Prop}(h:vB x k):∃i,x= .bl i/\k i:=by
 cases x with
 |bl i=>exact⟨i,rfl,h⟩
 |_=>exact h.elim
def vR.ex {k:Addr->Prop}(h:vR x k):∃i,x= .ref i/\k i:=by
 cases x with
 |ref i=>exact⟨i,rfl,h⟩
 |_=>exact h.elim
def l1.ex {vs:List V}{k:V->Prop}(h:l1 vs k):∃x,vs= [x]/\k x:=by
 match vs,h with
 |[x],h=>exact⟨x,rfl,h⟩
def l2.ex {vs:List V}{k:V->V->Prop}(h:l2 vs k):∃x y,vs= [x,y]/\k x y:=by
 match vs,h with
 |[x,y],h=>exact⟨x,y,rfl,h⟩
def c0Z (i:Nat):TE:=fun σ H Q=>oV σ[i]? fun v=>Q v H
section
theorem dv (i:Nat){x:Str}{pos:Pos}(hN:X.N[i]? =some x:=by rfl)(hv:Vis X.env.scope x:=by first | exact Or.inl rfl | exact Or.inr (Or.inl rfl) | exact Or.inr (Or.inr rfl))(hd:(x == ("__debug__":Str))=false:=by decide)
  (hcd:(x == ("__classdict__":Str))=false:=by decide):PE X (.Name x pos) (c0Z i):=(yU hN hv hd hcd).imp fun σ H Q h=>h.ex
def mI (C:Int->Int->Prop)(g:Int->Int->V):R2:=fun x y H Q=>vI x fun i=>vI y fun j=>C i j/\Q (g i j) H
def mI0 (g:Int->Int->V):R2:=fun x y H Q=>vI x fun i=>vI y fun j=>Q (g i j) H
def mI.to {C:Int->Int->Prop}{g:Int->Int->V}:∀x y H Q,mI C g x y H Q->rI C g x y H Q:=fun x y H Q h=>by
 obtain⟨i,rfl,h1⟩:=vI.ex h
 clear h
 obtain⟨j,rfl,h⟩:=vI.ex h1
 exact⟨_,_,rfl,rfl,h.1,h.2⟩
def mI0.to {g:Int->Int->V}:∀x y H Q,mI0 g x y H Q->rI0 g x y H Q:=fun x y H Q h=>by
 obtain⟨i,rfl,h1⟩:=vI.ex h
 clear h
 obtain⟨j,rfl,h⟩:=vI.ex h1
 exact⟨_,_,rfl,rfl,h⟩
def mU (g:Int->V):V->Hp->VK->Prop:=fun x H Q=>vI x fun i=>Q (g i) H
def mU.to {g:Int->V}:∀x H Q,mU g x H Q->rU g x H Q:=fun x H Q h=>vI.ex h
def dN:OpR X (binaryOp .Add) (mI0 fun i j=> .int (i+j)):=b4V.imp mI0.to
def lZ:OpR X (binaryOp .Sub) (mI0 fun i j=> .int (i-j)):=b4O.imp mI0.to
def oU:OpR X (binaryOp .Mult) (mI a1R fun i j=> .int (i*j)):=b0M.imp mI.to
def xY:OpR X (binaryOp .FloorDiv) (mI b9H fun i j=> .int (i / j)):=b0N.imp mI.to
def oW:OpR X (binaryOp .Mod) (mI (fun _ j=>0<j) fun i j=> .int (i % j)):=b4R.imp mI.to
def b2A:OpR X (binaryOp .RShift) (mI (fun _ j=>0<=j) fun i j=> .int (i / 2 ^ j.toNat)):=b4P.imp mI.to
def a4C:OpR X (binaryOp .BitAnd) (mI0 fun i j=> .int (Builtin.bitAnd i j)):=b4U.imp mI0.to
def b1Z:OpR X (binaryOp .BitXor) (mI0 fun i j=> .int (Builtin.bitXor i j)):=b4N.imp mI0.to
def b2B:UnR X (unaryOp .USub) (mU fun i=> .int (-i)):=b3G.imp mU.to
def a1S:OpR X (compareOp .Lt) (mI0 fun i j=> .bl (decide (i<j))):=b7R.imp mI0.to
def xV:OpR X (compareOp .LtE) (mI0 fun i j=> .bl (decide (i<=j))):=b7S.imp mI0.to
def a4A:OpR X (compareOp .Gt) (mI0 fun i j=> .bl (decide (j<i))):=b7T.imp mI0.to
def xX:OpR X (compareOp .GtE) (mI0 fun i j=> .bl (decide (j<=i))):=b7U.imp mI0.to
def dI {j:Int}:decide (V.int i=V.int j)=decide (i=j):=by
 by_cases h:i=j
 ·rw[Yp h,Yp (YJ V.int h)]
 ·rw[Yr h,Yr fun z=>h (V.int.inj z)]
def dS {i j:Str}:decide (V.str i=V.str j)=decide (i=j):=by
 by_cases h:i=j
 ·rw[Yp h,Yp (YJ V.str h)]
 ·rw[Yr h,Yr fun z=>h (V.str.inj z)]
def dB {i j:Bool}:decide (V.bl i=V.bl j)=decide (i=j):=by
 by_cases h:i=j
 ·rw[Yp h,Yp (YJ V.bl h)]
 ·rw[Yr h,Yr fun z=>h (V.bl.inj z)]
def eqW (f:Bool->Prop)(x y:V):Prop:=@V.rec (fun _=>Prop)
 (@V.rec (fun _=>Prop) (f true) (fun _=>False) (fun _=>f false) (fun _=>f false) (fun _=>False) (fun _=>False) (fun _=>False) (fun _=>False) y)
 (fun i=>@V.rec (fun _=>Prop) False (fun j=>f (decide (i=j))) (fun _=>False) (fun _=>False) (fun _=>False) (fun _=>False) (fun _=>False) (fun _=>False) y)
 (fun i=>@V.rec (fun _=>Prop) (f false) (fun _=>False) (fun j=>f (decide (i=j))) (fun _=>f false) (fun _=>False) (fun _=>False) (fun _=>False) (fun _=>False) y)
 (fun i=>@V.rec (fun _=>Prop) (f false) (fun _=>False) (fun _=>f false) (fun j=>f (decide (i=j))) (fun _=>False) (fun _=>False) (fun _=>False) (fun _=>False) y)
 (fun _=>False) (fun _=>False) (fun _=>False) (fun _=>False) x
def eqW.ex {f:Bool->Prop}{y:V}(h:eqW f x y):b3Z x y=true/\f (decide (x=y)):=by
 cases x with
 |non=>cases y <;> first | exact h.elim | exact⟨rfl,h⟩
 |bl i=>cases y <;> first | exact h.elim | (exact⟨rfl,by rw[dB];exact h⟩)
 |int i=>cases y <;> first | exact h.elim | exact⟨rfl,h⟩ | (exact⟨rfl,by rw[dI];exact h⟩)
 |str i=>cases y <;> first | exact h.elim | exact⟨rfl,h⟩ | (exact⟨rfl,by rw[dS];exact h⟩)
 |_=>exact h.elim
def mEq:R2:=fun x y H Q=>eqW (fun b=>Q (.bl b) H) x y
def mNe:R2:=fun x y H Q=>eqW (fun b=>Q (.bl (!b)) H) x y
def fW:OpR X (compareOp .Eq) mEq:=b7V.imp fun x y H Q h=>eqW.ex (f:=fun b=>Q (.bl b) H) h
def rH:OpR X (compareOp .NotEq) mNe:=b7Q.imp fun x y H Q h=>eqW.ex (f:=fun b=>Q (.bl (!b)) H) h
def vN (x:V)(k:Prop):Prop:=@V.rec (fun _=>Prop) k (fun _=>False) (fun _=>False) (fun _=>False) (fun _=>False) (fun _=>False) (fun _=>False) (fun _=>False) x
def vN.ex {k:Prop}(h:vN x k):x= .non/\k:=by
 cases x with
 |non=>exact⟨rfl,h⟩
 |_=>exact h.elim
def c0K:R2:=fun x y H Q=>vN y (Q (.bl (decide (x= .non))) H)
def b2C:OpR X (compareOp .Is) c0K:=b4S.imp fun x y H Q h=>vN.ex h
section
variable {a b c:Expr}{ta tb tc:TE}{rest:List Expr}
def pZ {k:Bool->Prop}:vB x k=∃i,x= .bl i/\k i:=propext ⟨vB.ex,fun ⟨i,e,h⟩=>by subst e;exact h⟩
def qZ (t:TE):TT:=fun σ H Q=>t σ H fun x H'=>vB x fun k=>Q k H'
def xK (t:TE):qZ t=a0G t:=by
 funext σ H Q
 unfold qZ a0G
 simp only[pZ]
def a3R (t:TE):qZ t=tB t:=by
 funext σ H Q
 unfold qZ tB
 simp only[pZ]
def bA {op:CmpOp}(ho:OpR X (compareOp op) r)(ha:PE X a ta)(hb:PE X b tb)(hm:behindInMarks op b=false):PT X (.Compare a [op] [b] pos) (qZ (tOp r ta tb)):=by
 rw[xK];exact a9Y ho ha hb hm
def bV {t:TE}(h:PE X e t)(he:∀whole,isTrue e X.env whole=(do let v<-whole;standAt e.pos;holding [v] (truthy v)):=by intro _;rfl):PT X e (qZ t):=by
 rw[a3R];exact b4F h he
def b5X (ta tb:TE):TE:=fun σ H Q=>ta σ H fun x H1=>vB x fun c=>if c=true then tb σ H1 Q else Q (.bl false) H1
def b5T (ta:TE):TE:=fun σ H Q=>ta σ H fun x H1=>vB x fun c=>Q (.bl (!c)) H1
def b1P:b5X ta tb=a4J ta tb:=by
 funext σ H Q
 unfold b5X a4J
 simp only[pZ]
def b1M:b5T ta=a4I ta:=by
 funext σ H Q
 unfold b5T a4I
 simp only[pZ]
def uE (ha:PE X a ta)(hb:PE X (.BoolOp .And (b::rest) pos) tb):PE X (.BoolOp .And (a::b::rest) pos) (b5X ta tb):=by
 rw[b1P];exact b4K ha hb
def b5A (ha:PE X a ta):PE X (.UnaryOp .Not a pos) (b5T ta):=by
 rw[b1M];exact b4J ha
end
def SqA (K:W.Frag)(H:Hp)(a:Addr)(xs:List V):Prop:=SqL K H a xs\/SqT K H a xs
def b8F (K:W.Frag):R2:=fun x y H Q=>vR x fun p=>vI y fun i=>∃xs v,SqL K H p xs/\atI xs i=some v/\Q v H
def b8E (K:W.Frag):R2:=fun x y H Q=>vR x fun p=>vI y fun i=>∃xs v,SqT K H p xs/\atI xs i=some v/\Q v H
def cT:IxR X (b8F X.K):=b1D.imp fun x y H Q h=>by
 obtain⟨p,rfl,h⟩:=vR.ex h
 obtain⟨i,rfl,xs,v,h1,h2,h3⟩:=vI.ex h
 exact⟨_,xs,_,v,rfl,rfl,h1,h2,h3⟩
def fK:IxR X (b8E X.K):=b5J.imp fun x y H Q h=>by
 obtain⟨p,rfl,h⟩:=vR.ex h
 obtain⟨i,rfl,xs,v,h1,h2,h3⟩:=vI.ex h
 exact⟨_,xs,_,v,rfl,rfl,h1,h2,h3⟩
def b8D (K:W.Frag):List V->Hp->VK->Prop:=fun xs H Q=>l1 xs fun x=>vR x fun p=>∃ys,SqA K H p ys/\Q (.int ys.length) H
def fZ:fJ X (.builtin "len") (b8D X.K):=uW.imp fun xs H Q h=>by
 obtain⟨x,rfl,h⟩:=l1.ex h
 obtain⟨p,rfl,ys,h1,h2⟩:=vR.ex h
 exact⟨_,ys,rfl,h1,h2⟩
def a0S (K:W.Frag):List V->Hp->VK->Prop:=fun xs H Q=>l1 xs fun x=>vR x fun p=>∃ys,SqA K H p ys/\∀l,H l=none->Q (.ref l) (upd H l (.lst ys))
def dF:fJ X (.type "list") (a0S X.K):=uV.imp fun xs H Q h=>by
 obtain⟨x,rfl,h⟩:=l1.ex h
 obtain⟨p,rfl,ys,h1,h2⟩:=vR.ex h
 exact⟨_,ys,rfl,h1,h2⟩
def b8C:List V->Hp->VK->Prop:=fun xs H Q=>l2 xs fun x y=>vI x fun i=>vI y fun j=>Q (.int (max i j)) H
def b3C (hc:X.calm=true):fJ X (.builtin "max") b8C:=(a3S hc).imp fun xs H Q h=>by
 obtain⟨x,y,rfl,h⟩:=l2.ex h
 obtain⟨i,rfl,h⟩:=vI.ex h
 obtain⟨j,rfl,h⟩:=vI.ex h
 refine⟨_,_,rfl,?_⟩
 have e:(if j > i then j else i)=max i j:=by omega
 rw[e];exact h
def a3J (T:String)(f:V->Hp->VK->Prop):List V->Hp->VK->Prop:=fun xs H Q=>l2 xs fun x c=>c= .ty T/\f x H Q
def b0W:V->Hp->VK->Prop:=fun x H Q=>@V.rec (fun _=>Prop) False (fun _=>Q (.bl true) H) (fun _=>Q (.bl true) H) (fun _=>Q (.bl false) H) (fun _=>False) (fun _=>False) (fun _=>False) (fun _=>False) x
def a7G:V->Hp->VK->Prop:=fun x H Q=>@V.rec (fun _=>Prop) False (fun _=>Q (.bl true) H) (fun _=>Q (.bl false) H) (fun _=>False) (fun _=>False) (fun _=>False) (fun _=>False) (fun _=>False) x
def b0V:V->Hp->VK->Prop:=fun x H Q=>@V.rec (fun _=>Prop) False (fun _=>False) (fun _=>Q (.bl false) H) (fun _=>Q (.bl true) H) (fun _=>False) (fun _=>False) (fun _=>False) (fun _=>False) x
def a7F:V->Hp->VK->Prop:=fun x H Q=>@V.rec (fun _=>Prop) False (fun _=>False) (fun _=>Q (.bl false) H) (fun _=>Q (.bl false) H) (fun _=>False) (fun _=>False) (fun p=>(∃xs,H p=some (.lst xs))/\Q (.bl true) H) (fun _=>False) x
def a3A:V->Hp->VK->Prop:=fun x H Q=>@V.rec (fun _=>Prop) False (fun _=>False) (fun _=>Q (.bl false) H) (fun _=>False) (fun _=>False) (fun _=>False) (fun p=>(∃xs,H p=some (.tup xs))/\Q (.bl true) H) (fun _=>False) x
end
section
def uJ:W.kitOne K (.type "int") (.type "list")=some false:=by first | rfl | decide +kernel
def wY:W.kitOne K (.type "int") (.type "str")=some false:=by first | rfl | decide +kernel
def rO:W.kitOne K (.type "int") (.type "tuple")=some false:=by first | rfl | decide +kernel
def uI:W.kitOne K (.type "str") (.type "list")=some false:=by first | rfl | decide +kernel
def wX:W.kitOne K (.type "str") (.type "int")=some false:=by first | rfl | decide +kernel
end
section
def qU {T:String}{f:V->Hp->VK->Prop}(h:∀x H Q,f x H Q->∃t b,nU X.K H x t/\W.kitOne X.K t (.type T)=some b/\Q (.bl b) H):fJ X (.builtin "isinstance") (a3J T f):=a8N.imp fun xs H Q q=>by
 obtain⟨x,c,rfl,q⟩:=l2.ex q
 obtain⟨ec,q2⟩:=q
 subst ec
 obtain⟨t,b,h1,h2,h3⟩:=h x H Q q2
 exact⟨_,_,_,t,b,rfl,rfl,h1,h2,h3⟩
def rT:fJ X (.builtin "isinstance") (a3J "int" b0W):=qU fun x H Q q=>by
 cases x with
 |int i=>exact⟨_,_,.int _,wZ,q⟩
 |bl i=>exact⟨_,_,.bl _,uL,q⟩
 |str i=>exact⟨_,_,.str _,wX,q⟩
 |_=>exact q.elim
def pU:fJ X (.builtin "isinstance") (a3J "bool" a7G):=qU fun x H Q q=>by
 cases x with
 |int i=>exact⟨_,_,.int _,uK,q⟩
 |bl i=>exact⟨_,_,.bl _,rP,q⟩
 |_=>exact q.elim
def a1U:fJ X (.builtin "isinstance") (a3J "str" b0V):=qU fun x H Q q=>by
 cases x with
 |int i=>exact⟨_,_,.int _,wY,q⟩
 |str i=>exact⟨_,_,.str _,wW,q⟩
 |_=>exact q.elim
def xW:fJ X (.builtin "isinstance") (a3J "list" a7F):=qU fun x H Q q=>by
 cases x with
 |int i=>exact⟨_,_,.int _,uJ,q⟩
 |str i=>exact⟨_,_,.str _,uI,q⟩
 | ref p=>
  obtain⟨⟨xs,hp⟩,q⟩:=q
  exact⟨_,_,.lst hp,rM,q⟩
 |_=>exact q.elim
def vM:fJ X (.builtin "isinstance") (a3J "tuple" a3A):=qU fun x H Q q=>by
 cases x with
 |int i=>exact⟨_,_,.int _,rO,q⟩
 | ref p=>
  obtain⟨⟨xs,hp⟩,q⟩:=q
  exact⟨_,_,.tup hp,pD,q⟩
 |_=>exact q.elim
def b6Z (t:TA):TA:=fun σ H Q=>∃P:List V->Hp->Prop,t σ H P/\∀x H',P x H'->Q x H'
def qN (h:PA X es t):PA X es (b6Z t):=by
 intro pos pins s σ H Q I hw
 obtain⟨P,h1,h2⟩:=hw
 exact thn (h pos pins s σ H P I h1) fun v s1 ⟨x,H1,I1,r,q⟩=>⟨x,H1,I1,r,h2 x H1 q⟩
section
variable {o:Expr}{to:TE}{apos cpos:Pos}
def dBl (to:TE):TE:=fun σ H Q=>to σ H fun x H1=>vI x fun i=>Q (.int ((Builtin.Int.intBits i:Nat):Int)) H1
def a0R (ho:PE X o to)(hbase:attributeBase o "bit_length" X.env (eval o X.env)=eval o X.env:=by rfl)(hline:(apos.endLine == cpos.line)=true:=by rfl):
  PE X (.Call (.Attribute o "bit_length" apos) [] [] cpos) (dBl to):=
 (a6Q PySem.F.plainAttrs_int PySem.F.slot_int_bit_length PySem.F.type_int_bit_length b8A (cD ho) hbase hline).imp fun σ H Q h=>⟨_,h,fun x H1 q=>by
  obtain⟨i,rfl,q⟩:=vI.ex q
  exact⟨rfl,i,rfl,rfl,q⟩⟩
def b1O (K:W.Frag)(to:TE)(t:TA):TE:=fun σ H Q=>to σ H fun x H1=>vR x fun l=>(∃xs,SqL K H1 l xs)/\t σ H1 fun vs H2=>l1 vs fun y=>∃xs,H2 l=some (.lst xs)/\xs.length<sizeLine/\Q .non (upd H2 l (.lst (xs++[y])))
theorem bR (ho:PE X o to)(ha:PA X [e] t)(hbase:attributeBase o "append" X.env (eval o X.env)=eval o X.env:=by rfl)
  (hfew:((backTo cpos (starEach [e] X.env)).all (fun x=>!x.1) && (backToKw cpos (keywordEach [] X.env)).all (fun x=>x.1.isSome)
   && decide (([e]:List Expr).length+([]:List Keyword).length+(if ([]:List Keyword).isEmpty then 0 else 1)<30))=true:=by rfl)
  (hline:(apos.endLine == cpos.line)=true:=by rfl) (hs:starEach [e] X.env=(false,eval e X.env)::starEach [] X.env:=by rfl) (hplain:(backTo cpos (starEach [] X.env)).any (·.1)=false:=by rfl) :
  PE X (.Call (.Attribute o "append" apos) [e] [] cpos) (b1O X.K to t):=
 (a6R XI PySem.F.slot_list_append PySem.F.type_list_append a2V (cD ho) (qN ha) hbase hfew hline hs hplain).imp fun σ H Q h=>⟨_,h,fun x H1 q=>by
  obtain⟨l,rfl,q1,q2⟩:=vR.ex q
  refine⟨.inl ⟨rfl,q1⟩,_,q2,fun vs H2 q3=>?_⟩
  obtain⟨y,rfl,xs,h1,h2,h3⟩:=l1.ex q3
  exact⟨l,xs,y,rfl,rfl,h1,h2,h3⟩⟩
def b8U (t:TE):TO:=fun σ H Q=>t σ H fun x H1=>vI x fun i=>Q (some i) H1
def PO.imp {e:Option Expr}{t t':TO}(h:PO X e t)(i:∀σ H Q,t' σ H Q->t σ H Q):PO X e t':=fun pins s σ H Q I q=>h pins s σ H Q I (i σ H Q q)
def jX (h:PE X e to):PO X (some e) (b8U to):=(b0G (cD h)).imp fun σ H Q q=>⟨_,q,fun x H1 z=>vI.ex z⟩
def b8B (K:W.Frag):V->Option Int->Option Int->Hp->VK->Prop:=fun x lo hi H Q=>vR x fun a=>∃xs,SqL K H a xs/\∀p,H p=none->Q (.ref p) (upd H p (.lst (pH xs lo hi)))
def SlR.imp {r r':V->Option Int->Option Int->Hp->VK->Prop}(h:SlR X r)(i:∀x lo hi H Q,r' x lo hi H Q->r x lo hi H Q):SlR X r':=by
 intro pins s σ H x v vl vu lo hi sl Q I rx hs pl pu q
 exact h pins s σ H x v vl vu lo hi sl Q I rx hs pl pu (i _ _ _ _ _ q)
def a0D:SlR X (b8B X.K):=a9Q.imp fun x lo hi H Q h=>by
 obtain⟨a,rfl,xs,h1,h2⟩:=vR.ex h
 exact⟨_,xs,rfl,h1,h2⟩
variable {tg:Expr}
def PI.imp {iter:Expr}{w w':TI}(h:PI X tg iter w)(i:∀σ H R,w' σ H R->w σ H R):PI X tg iter w':=fun pins s σ H R I q=>h pins s σ H R I (i σ H R q)
def b8V (K:W.Frag)(tl:TE):TI:=fun σ H R=>tl σ H fun x H1=>vR x fun a=>(∃xs,SqL K H1 a xs)/\R (Itl K a) H1
def cY {l:Expr}{tl:TE}(hl:PE X l tl):PI X tg l (b8V X.K tl):=(b0I (cD hl)).imp fun σ H R h=>⟨_,h,fun x H1 q=>vR.ex q⟩
def b8T (ta:TA):TI:=fun σ H R=>ta σ H fun vs H1=>l1 vs fun x=>vI x fun j=>(-(2 ^ 62)<=j/\j<2 ^ 62)/\R (Itr 0 j.toNat) H1
def cO {a:Expr}{ta:TA}{p:Pos}(hg:Gl X "range")(hm:X.mg "range"=none)(ha:PA X [a] ta)(hs:starEach [a] X.env= [(false,eval a X.env)]:=by rfl):PI X tg (.Call (.Name "range" p) [a] [] pos) (b8T ta):=
 (a2P hg hm (qN ha) hs).imp fun σ H R h=>⟨_,h,fun vs H1 q=>by
  obtain⟨x,rfl,q⟩:=l1.ex q
  obtain⟨j,rfl,q⟩:=vI.ex q
  exact⟨j,rfl,q.1.1,q.1.2,q.2⟩⟩
end
end
section
variable {M:Model}{E:Value->Shared->Prop}{B:Heap}{l:List Env}{L e:Addr}{k a0 fl:Value}{od:Option Addr}
end
def pC (N:List Str)(ix:List Nat):List Str:=ix.map fun i=>N.getD i ""
def kY (σ:St)(ix:List Nat):St:=ix.map fun i=>σ.getD i none
def a8J (X:Cx)(scope:Scope)(cl:List (Str×Addr))(C:Addr):Value->Shared->Prop:=notedBy (model X.prog X.w) X.A (compEnvC scope cl C X.env) fun e s'=>
 ∃m,s'.heap.Ns C m/\∀h',Heap.SameBut C s'.heap h'->∀cenv:Env,cenv.locals=C->wpAny (model X.prog X.w) X.A (PySem.passOn "comprehension.variables-let-go" e cenv:Sem Value) (fun _ _=>False) X.xe { s' with heap:=h' }
def dJ (X:Cx)(scope:Scope)(cl:List (Str×Addr))(x:Str)(ix:List Nat)(C:Addr)(fp:List Addr)(s₀:Shared)(H₀:Hp):Cx:=
 { X with N:=x::pC X.N ix,s₀:=s₀,H₀:=H₀,env:=compEnvC scope cl C X.env,outer:=X.stack,ex:=fp,fn:=fun _=>false,pn:=[],xe:=a8J X scope cl C }
structure fD (X:Cx)(scope:Scope)(cl:List (Str×Addr))(x:Str)(ix:List Nat):Prop where
 clos:closureFor scope X.env=pure cl
 kind:scope.kind= .function
 loc:scope.names.lookup x=some .local
 one:∀y∈scope.names,y.2= .local->y.1=x\/y.1=".0"
 locs:∀y∈scope.names,y.2= .local->scope.names.lookup y.1=some .local
 nocell:∀y∈scope.names,y.2≠ .cell
 free:∀y∈scope.names,y.2= .free->(X.env.kindOf y.1=some .cell\/X.env.kindOf y.1=some .free)
 cells:∀y∈scope.names,y.2= .free->∃c,cl.lookup y.1=some c
 same:∀y∈cl,X.env.cells.lookup y.1=some y.2
 nd:((".0":Str)::x::pC X.N ix).Nodup
theorem lookup_mem {α β:Type}[BEq α][LawfulBEq α]{a:α}{b:β}:∀{l:List (α×β)},l.lookup a=some b->(a,b)∈l
 |[],h=>by simp at h
 | (c,d)::r,h=>by
  rw[Y9]at h
  cases e:a == c with
  | true=>
   rw[e]at h
   cases h
   rw[eq_of_beq e];exact YH
  | false=>
   rw[e]at h
   exact Yz _ (lookup_mem h)
def gU {k:NameKind}(h:(relabel scope env).names.lookup y=some k):∃k0,scope.names.lookup y=some k0/\(k=k0\/(k0= .free/\k= .cell)):=by
  have gen :∀(names:List (Str×NameKind)),(names.map fun (n,k)=>if (k == NameKind.free && env.scope.kind == .function && env.kindOf n == some .cell) then (n,NameKind.cell) else (n,k)).lookup y=some k->
      ∃k0,names.lookup y=some k0/\(k=k0\/(k0= .free/\k= .cell)):=by
    intro names
    induction names with
    |nil=>intro h;simp at h
    | cons p r ih=>
      obtain⟨n,k1⟩:=p
      intro h
      rw[YI]at h
      dsimp only at h
      cases hc:(k1 == NameKind.free && env.scope.kind == .function && env.kindOf n == some .cell) with
      | true=>
        rw[hc,if_pos rfl,Y9]at h
        rw[Y9]
        cases e:y == n with
        | true=>
          rw[e]at h
          cases h
          simp only[Xx]at hc
          exact⟨k1,rfl,.inr ⟨eq_of_beq hc.1.1,rfl⟩⟩
        | false=>
          rw[e]at h
          exact ih h
      | false=>
        rw[hc,if_neg Yq,Y9]at h
        rw[Y9]
        cases e:y == n with
        | true=>
          rw[e]at h
          cases h
          exact⟨k,rfl,.inl rfl⟩
        | false=>
          rw[e]at h
          exact ih h
  exact gen scope.names h
section
variable {cl:List (Str×Addr)}{x:Str}{fp:List Addr}
def fD.look (S:fD X scope cl x ix){c:Addr}(h:cl.lookup y=some c):X.env.cells.lookup y=some c:=S.same _ (lookup_mem h)
theorem fD.ok (S:fD X scope cl x ix){pins:List (Addr×Obj)}{σ:St}(I:Inv X pins σ H s)(hf:∀b∈fp,pI X pins H b)(hfl:∀b∈fp,b<s.heap.objs.size)(hC:s.heap.objs.size<=C):
  (dJ X scope cl x ix C fp s H).Ok where
 mod:=I.ok.mod
 kind:=S.kind
 glob:=I.ok.glob
 blt:=I.ok.blt
 above:=hC
 inj:=fun y z c h1 h2=>I.ok.inj y z c (S.look h1) (S.look h2)
 has := fun y h=>by
  have h':(relabel scope X.env).names.lookup y=some .cell\/(relabel scope X.env).names.lookup y=some .free:=h
  have fr:scope.names.lookup y=some .free:=by
   rcases h' with h' | h'
   ·obtain⟨k0,e,q | q⟩:=gU h'
    ·exact absurd rfl (q▸S.nocell _ (lookup_mem e))
    ·rw[e,q.1]
   ·obtain⟨k0,e,q | q⟩:=gU h'
    ·rw[e,<-q]
    ·cases q.2
  exact S.cells _ (lookup_mem fr) rfl
 cab:=fun y c h=>absurd h Yq
 hd:=I.ok.hd
 frames:=I.ok.frames
 stk:= .inl rfl
 exf:=fun b hb=>⟨Yy (Ye (hfl b hb) hC),fun y c e=>(hf b hb).2.2.2.2.1 y c (S.look e)⟩
 bs:=I.bs
 bsz:=YN I.ok.bsz I.sz
 noex:=fun b o e hb=>by
  rcases (hf b hb).2.2.2.1 with z | z
  ·exact I.ok.noex b o e z
  ·exact absurd (Ye (Ym e) (YN I.ok.bsz z)) (YW _)
 exfs:=fun b hb z=>by
  rcases Yt.mp (I.stkSub b z) with e | e
  ·exact(hf b hb).2.1 e
  ·exact(hf b hb).2.2.1 e
 funs:=I.stack
 frf:=I.stkFree
def a4N {j:Nat}(h:(pC N ix)[j]? =some y):∃i,ix[j]? =some i/\y=N.getD i "":=by
 unfold pC at h
 rw[Yl]at h
 cases e:ix[j]? with
 |none=>rw[e]at h;cases h
 |some i=>rw[e]at h;cases h;exact⟨i,rfl,rfl⟩
def a4M {σ:St}{j:Nat}{v:V}(h:(kY σ ix)[j]? =some (some v)):∃i,ix[j]? =some i/\σ[i]? =some (some v):=by
 unfold kY at h
 rw[Yl]at h
 cases e:ix[j]? with
 |none=>rw[e]at h;cases h
 | some i=>
  rw[e]at h
  have h':σ.getD i none=some v:=by simpa using h
  refine⟨i,rfl,?_⟩
  rw[Yn]at h'
  cases e2:σ[i]? with
  |none=>rw[e2]at h';cases h'
  |some u=>rw[e2]at h';exact YJ some h'
theorem fD.inv (S:fD X scope cl x ix){pins:List (Addr×Obj)}{σ:St}{H:Hp}{s s1:Shared}{m:Str->Option Value}(I:Inv X pins σ H s)(hf:∀b∈fp,pI X pins H b)(hfl:∀b∈fp,b<s.heap.objs.size)
  (hC:s.heap.objs.size<=C) (os:s1.os=s.os) (bare:AllBare s1.gens) (k:∀b o,s.heap.get? b=some o->s1.heap.get? b=some o) (hn:s1.heap.Ns C m) :
  Inv (dJ X scope cl x ix C fp s H) [] (none::kY σ ix) H s1 where
 ok:=S.ok I hf hfl hC
 os:=os
 bare:=bare
 base:=Un.kept k
 loc := ⟨m, hn,fun i y v h1 h2 h3=>by
  cases i with
  |zero=>cases (show none=some v from Yo h2)
  | succ j =>
   obtain⟨i,e1,e2⟩:=a4N (N:=X.N) (show (pC X.N ix)[j]? =some y from h1)
   obtain⟨i',e1',e3⟩:=a4M (σ:=σ) (show (kY σ ix)[j]? =some (some v) from h2)
   rw[e1]at e1';cases e1'
   have hi:i<X.N.length:=by rw[<-I.len];exact(Yd.mp e3).1
   have hy:X.N[i]? =some y:=by rw[e2,Yn,Yb hi];rfl
   have ne:y≠x:=by
    rintro rfl
    have nd:=(Y7.mp S.nd).2
    exact(Y7.mp nd).1 (Yi (show (pC X.N ix)[j]? =some y from h1))
   have h3':(relabel scope X.env).names.lookup y=some .local\/(relabel scope X.env).names.lookup y=some .cell\/(relabel scope X.env).names.lookup y=some .free:=h3
   have fr :scope.names.lookup y=some .free/\((relabel scope X.env).names.lookup y=some .cell\/(relabel scope X.env).names.lookup y=some .free):=by
    rcases h3' with z | z | z
    ·obtain⟨k0,e,q | q⟩:=gU z
     ·rcases S.one _ (lookup_mem e) q.symm with z | z
      ·exact absurd z ne
      ·have z':y=".0":=z
       exact absurd (Yz _ (Yi (show (pC X.N ix)[j]? =some y from h1))) (z'▸(Y7.mp S.nd).1)
     ·cases q.2
    ·obtain⟨k0,e,q | q⟩:=gU z
     ·exact absurd rfl (q▸S.nocell _ (lookup_mem e))
     ·exact⟨by rw[e,q.1],.inl z⟩
    ·obtain⟨k0,e,q | q⟩:=gU z
     ·exact⟨by rw[e,<-q],.inr z⟩
     ·cases q.2
   have vis:=S.free _ (lookup_mem fr.1) rfl
   obtain⟨m0,_,l0⟩:=I.loc
   obtain⟨u,r,l⟩:=l0 i y v hy e3 (vis.elim (fun z=> .inr (.inl z)) fun z=> .inr (.inr z))
   refine⟨u,r,.inr ⟨fr.2,?_⟩⟩
   rcases l with ⟨k1,_⟩ | ⟨_,c,ec,oc,hoc,hd⟩
   ·rcases vis with z | z
    ·have:=k1.symm.trans z;cases this
    ·have:=k1.symm.trans z;cases this
   ·obtain⟨c',e'⟩:=S.cells _ (lookup_mem fr.1) rfl
    have:some c'=some c:=(S.look e').symm.trans ec
    cases this
    exact⟨c,e',oc,k _ _ hoc,hd⟩⟩
 cell:=fun y c e=>by
  obtain⟨v,oc,hoc,hd⟩:=I.cell y c (S.look e)
  exact⟨v,oc,k _ _ hoc,hd⟩
 free:=I.hok.fresh hC
 freeC:=fun y c e=>I.freeC y c (S.look e)
 pin:=fun p hp=>absurd (show p∈([]:List (Addr×Obj)) from hp) (by simp)
 hok:=I.hok.kept k
 len:=by show (none::kY σ ix).length=(x::pC X.N ix).length;simp[kY,pC]
end
def PTs (X:Cx)(ifs:List Expr)(t:TT):Prop:=
 ∀ (pins:List (Addr×Obj))(s:Shared)(σ:St)(H:Hp)(Q:Bool->Hp->Prop),Inv X pins σ H s->t σ H Q->
  wpAny (model X.prog X.w) X.A (forIn ifs true fun c r=>if r=true then do let ok<-isTrue c X.env (eval c X.env);pure (ForInStep.yield ok) else pure (ForInStep.yield r)) (TP X pins σ Q) X.xe s
def b9L:TT:=fun _ H Q=>Q true H
def eV:PTs X [] b9L:=fun _ _ _ H _ I h=>wpAny_tests_nil ⟨H,I,h⟩
section
variable {prog:Program}{R:Result->Shared->Prop}
theorem uT {elt target iter:Expr}{ifs:List Expr}{scope:Scope}{pos:Pos}{it acc:Value}{env:Env}(I:Nat->Shared->Prop)
    (turn : ∀ n s,I n s->wpAny (model prog w) A (pyNext it) (fun r s₁=>match r with
      |none=>R (.ok .next) s₁
      | some v =>wpAny (model prog w) A (letOwnedTupleGo target it v) (fun _ s₀=>wpAny (model prog w) A (assign target env v) (fun _ s₂=>
          wpAny (model prog w) A (forIn ifs true fun c r=>if r=true then do let ok<-isTrue c env (eval c env);pure (ForInStep.yield ok) else pure (ForInStep.yield r)) (fun ok s₃=>
            if ok=true then wpAny (model prog w) A (eval elt env) (fun x s₄=>
              wpAny (model prog w) A (call (.builtin "list.append") [acc,x]) (fun _ s₅=>∃m,m<n/\I m s₅) (notedBy (model prog w) A env fun e s'=>R (.error e) s') s₄) (notedBy (model prog w) A env fun e s'=>R (.error e) s') s₃
            else ∃m,m<n/\I m s₃) (notedBy (model prog w) A env fun e s'=>R (.error e) s') s₂) (notedBy (model prog w) A env fun e s'=>R (.error e) s') s₀) (notedBy (model prog w) A env fun e s'=>R (.error e) s') s₁) (notedBy (model prog w) A env fun e s'=>R (.error e) s') s)
    (n:Nat) (h:I n s) :
    codeAny (model prog w) A (.compLoop (.ListComp elt [⟨target,iter,ifs,0⟩] scope pos) 0 it acc env) R s:=by
  refine codeAny_loop rfl I (fun n s hI=>?_) n h
  show wpAny _ A ((compTurn (.ListComp elt [⟨target,iter,ifs,0⟩] scope pos) 0 it acc env).onRaise (fun x=>do noteFrame x env;theTreesLotGoes x)) _ _ s
  refine wpAny_noted ?_
  rw[compTurn_list]
  refine YY (wpAny_standAt (YY (Y4 (turn n s hI) (fun r s₁ h₁=>?_) fun _ _ h'=>h')))
  cases r with
  |none=>exact Xd h₁
  | some v=>
    refine YY (Y4 h₁ (fun _ s₀ h₀=>?_) fun _ _ h'=>h')
    refine YY (Y4 h₀ (fun _ s₂ h₂=>YY (Y4 h₂ (fun ok s₃ h₃=>?_) fun _ _ h'=>h')) fun _ _ h'=>h')
    cases ok with
    |false=>exact Xd ⟨rfl,h₃⟩
    | true=>
      exact YY (YY (Y4 h₃ (fun x s₄ h₄=>YY (Y4 h₄ (fun _ s₅ h₅=>Xd (Xd ⟨rfl,h₅⟩)) fun _ _ h'=>h')) fun _ _ h'=>h'))
end
def rD (J:It)(tt:TT)(te:TE)(σc:V->St)(H1:Hp)(Q:VK):Prop:=∃W:Nat->Nat->List V->Hp->Prop,(∃m,W 0 m [] H1)/\∀i m ys H,W i m ys H->ys.length<sizeLine/\
  ((J.stop i H/\∀p,H p=none->Q (.ref p) (upd H p (.lst ys)))\/
   (J.go i H/\∃N:List V->Hp->Prop,(∀ys' H',N ys' H'->∃m',m'<m/\W (i+1) m' ys' H')/\∀x H',J.yld i H x H'->tt (σc x) H' fun b H3=>if b=true then te (σc x) H3 fun y H4=>N (ys++[y]) H4 else N ys H3))
structure mO (X:Cx)(C:Addr)(fp:List Addr)(s:Shared)(H:Hp):Prop where
 inv:∃pins σ,Inv X pins σ H s/\∀b∈fp,pI X pins H b
 low:∀b∈fp,b<s.heap.objs.size
 up:s.heap.objs.size<=C
def b2L (ix:List Nat)(wi:TI)(tt:TT)(te:TE):TE:=fun σ H Q=>wi σ H fun J H1=>rD J tt te (fun x=>some x::kY σ ix) H1 Q
section
variable {cl:List (Str×Addr)}{x:Str}{elt iter:Expr}{ifs:List Expr}{px:Pos}{wi:TI}{tt:TT}{te:TE}
theorem rC (S:fD X scope cl x ix)(hc:X.calm=true)
    (ht:∀C fp s H,mO X C fp s H->PTs (dJ X scope cl x ix C fp s H) ifs tt) (he:∀C fp s H,mO X C fp s H->PE (dJ X scope cl x ix C fp s H) elt te)
    {pins:List (Addr×Obj)} {σ:St} {Q:VK} {itv:Value} {s2:Shared} {E:Value->Shared->Prop} {RR:Value->Addr->Result->Shared->Prop} (h2:PIE X pins σ (.Name x px) (fun J H1=>rD J tt te (fun x=>some x::kY σ ix) H1 Q) itv s2)
    (fin:∀(D C:Addr)(H:Hp)(s':Shared)(m:Str->Option Value),Inv X pins σ H s'->s'.heap.Ns C m->H C=none->s2.heap.objs.size<=C->(∀p∈X.pn++pins,p.1≠C)->X.env.locals≠C->(∀y c,X.env.cells.lookup y=some c->c≠C)->X.s₀.heap.objs.size<=C->Q (.ref D) H->RR (.ref D) C (.ok .next) s')
    (fex:∀(D C:Addr)(e:Value)(s':Shared),a8J X scope cl C e s'->notedBy (model X.prog X.w) X.A (compEnvC scope cl C X.env) (fun e s'=>RR (.ref D) C (.error e) s') e s') :
    wpAny (model X.prog X.w) X.A (newList []) (fun acc s₃=>wpAny (model X.prog X.w) X.A (newFunctionEnv scope X.env.globals cl [] X.env.qual none .none (some X.env)) (fun cenv s₄=>
      codeAny (model X.prog X.w) X.A (.compStart (.ListComp elt [⟨.Name x px,iter,ifs,0⟩] scope pos) 0 itv acc { cenv with scope:=relabel scope X.env }) (RR acc cenv.locals) s₄) E s₃) E s2:=by
  obtain⟨it,fp,tn,J,H2,rfl,I2,T,st2,f2,W,⟨m0,w0⟩,turn⟩:=h2
  have hfl:∀b∈fp,b<s2.heap.objs.size:=fun b hb=>by
    obtain⟨o,e,_⟩:=T.obj _ _ st2 b hb
    exact Ym e
  refine wpAny_newObj_type (wpAny_newFunctionEnv S.nocell (by intro y hy;simp at hy) (fun h₁ hns₁ hsb₁=>?_) S.kind)
  dsimp only at hns₁ hsb₁ ⊢
  generalize hH2:s2.heap.push { cls:= .type "list",dict:=none,data:= .seq ([]:List Value).toArray }=G2 at hns₁ hsb₁ ⊢
  have hC:G2.objs.size=s2.heap.objs.size+1:=by rw[<-hH2,Heap.size_push]
  have hDC:s2.heap.objs.size≠G2.objs.size:=by rw[hC];exact Yy (Xl _)
  have hCle:s2.heap.objs.size<=G2.objs.size:=by rw[hC];exact Xv _
  have below:∀b,b<s2.heap.objs.size->b≠G2.objs.size/\b≠s2.heap.objs.size:=fun b hb=>⟨by rw[hC];exact Yy (Nat.lt_succ_of_lt hb),Yy hb⟩
  have at0:mO X G2.objs.size fp s2 H2:=⟨⟨pins,σ,I2,f2⟩,hfl,hCle⟩
  have old:∀b o,s2.heap.get? b=some o->h₁.get? b=some o:=fun b o e=>hsb₁.extBut b o (below b (Ym e)).1 (Yg _ (hH2▸Yg _ e))
  have hacc:h₁.get? s2.heap.objs.size=some { cls:= .type "list",data:= .seq ([]:List Value).toArray 0 }:=hsb₁.extBut _ _ hDC (Yg _ (hH2▸Yu _ rfl))
  have st1:tn 0 h₁:=T.keep _ _ _ st2 fun b _ o e=>old b o e
  have stat:∀{H':Hp},(∀b∈fp,H' b=none)->∀b∈fp,pI (dJ X scope cl x ix G2.objs.size fp s2 H2) [] H' b:=fun hn b hb=>
    ⟨hn b hb,(below b (hfl b hb)).1,fun z=>by
      rcases Yt.mp (I2.stkSub b z) with e | e
      · exact(f2 b hb).2.1 e
      · exact(f2 b hb).2.2.1 e,.inl hb,fun y c e=>(f2 b hb).2.2.2.2.1 y c (S.look e),fun p hp=>absurd (show p∈([]:List (Addr×Obj)) from hp) (by simp)⟩
  have I3:∀s₃:Shared,s₃={ s2 with heap:=h₁,toks:=s2.toks+([]:List (Str×Value)).length }->Inv (dJ X scope cl x ix G2.objs.size fp s2 H2) [] (none::kY σ ix) H2 s₃:=fun s₃ e=>by
    subst e
    exact S.inv I2 f2 hfl hCle rfl I2.bare old hns₁
  let Acc:List V->Heap->Prop:=fun ys h=>∃its n,Vals ys its/\h.get? s2.heap.objs.size=some { cls:= .type "list",data:= .seq its.toArray n }
  have loop :∀s₃:Shared,s₃={ s2 with heap:=h₁,toks:=s2.toks+([]:List (Str×Value)).length }->
      codeAny (model X.prog X.w) X.A (.compLoop (.ListComp elt [⟨.Name x px,iter,ifs,0⟩] scope pos) 0 (.ref it) (.ref s2.heap.objs.size) (compEnvC scope cl G2.objs.size X.env)) (RR (.ref s2.heap.objs.size) G2.objs.size) s₃:=by
    intro s₃ e₃
    refine uT (fun n s'=>∃i ys H',Inv (dJ X scope cl x ix G2.objs.size fp s2 H2) [] (none::kY σ ix) H' s'/\H' s2.heap.objs.size=none/\Acc ys s'.heap/\tn i s'.heap/\(∀b∈fp,H' b=none)/\W i n ys H') ?_ m0
      ⟨0, [],H2,I3 s₃ e₃,I2.hok.fresh (Yf _),⟨[],0,.nil,by rw[e₃];exact hacc⟩,by rw[e₃];exact st1,fun b hb=>(f2 b hb).1,w0⟩
    rintro n s4 ⟨i,ys,H4,I4,hD4,⟨its,kk,rv,eD⟩,st4,fr4,w4⟩
    obtain⟨hsz,q4⟩:=turn i n ys H4 w4
    have hlen:=rv.length
    rcases q4 with ⟨stop,qn⟩ | ⟨go,N,hN,step⟩
    · refine Y4 (T.done (dJ X scope cl x ix G2.objs.size fp s2 H2) rfl rfl rfl hc i [(s2.heap.objs.size,{ cls:= .type "list",data:= .seq its.toArray kk })] s4 (none::kY σ ix) H4 (fun _ _=>False) ?_ ?_ st4 stop) (fun r s5 ⟨hr,I5⟩=>?_) fun _ _ z=>z.elim
      · refine I4.pins_of fun p hp=>?_
        rw[Yj.mp hp]
        exact⟨eD,hD4,hDC,fun z=>by
          have:=Heap.FunFrames.mem I2.stack z
          obtain⟨_,o,ho,_⟩:=this
          exact YW _ (Ym ho),fun v z=>by cases z⟩
      · intro b hb
        obtain⟨a1,a2,a3,a4,a5,_⟩:=stat fr4 b hb
        exact⟨a1,a2,a3,a4,a5,fun p hp=>by
          rw[Yj.mp hp]
          exact fun z=>(below b (hfl b hb)).2 z.symm⟩
      subst hr
      have eD5:=(I5.pin _ (by simp:(s2.heap.objs.size,({ cls:= .type "list",data:= .seq its.toArray kk }:Obj))∈(dJ X scope cl x ix G2.objs.size fp s2 H2).pn++[(s2.heap.objs.size,{ cls:= .type "list",data:= .seq its.toArray kk })])).1
      have neD:∀b u,H4 b=some u->b≠s2.heap.objs.size:=fun b u e z=>by rw[z,hD4]at e;cases e
      have new:HOk X.prog X.w (upd H4 s2.heap.objs.size (.lst ys)) s5.heap:=by
        intro b u e
        by_cases hb:b=s2.heap.objs.size
        · subst hb
          rw[aB]at e
          cases e
          exact⟨Y6 hsz,its,kk,rv,eD5⟩
        · rw[aH hb]at e
          exact(I5.hok b u e).stay (fun c v _ q=>q) (fun c q=>by rw[aH (neD c _ q)];exact q) fun c xs q=>by rw[aH (neD c _ q)];exact q
      have un:Un (frs X.stack) fp H2 (upd H4 s2.heap.objs.size (.lst ys)) s2.heap s5.heap:=by
        have B:=I5.base
        exact⟨B.keep,B.slot,fun b o e n hx=>by rw[aH (below b (Ym e)).2];exact B.free b o e n hx,B.there,
          fun b xs e=>by rw[aH (neD b _ (B.tups b xs e))];exact B.tups b xs e,fun b o u e=>by rw[aH (neD b _ (B.frzs b o u e))];exact B.frzs b o u e,
          fun b ps e=>by
            obtain⟨mm,z⟩:=B.tbls b ps e
            exact⟨mm,by rw[aH (neD b _ z)];exact z⟩⟩
      have J5:Inv X pins σ (upd H4 s2.heap.objs.size (.lst ys)) s5:=I2.call' (ch:=fp) I5.os un new I5.bare fun b hb=>⟨(f2 b hb).2.2.2.1,(f2 b hb).2.1,(f2 b hb).2.2.2.2.1,(f2 b hb).2.2.2.2.2⟩
      obtain⟨mC,hnC,_⟩:=I5.loc
      refine fin _ _ _ _ mC J5 hnC (by rw[aH (Va hDC)];exact I5.free) hCle (fun p hp z=>?_) (Yy (Ye I2.lt hCle)) (fun y c e z=>?_) (YN I2.sz hCle) (qn _ hD4)
      · exact absurd (Ye (Ym (I2.pin p hp).1) hCle) (by rw[z];exact YW _)
      · obtain⟨v,oc,hoc,_⟩:=I2.cell y c e
        exact absurd (Ye (Ym hoc) hCle) (by rw[z];exact YW _)
    · have pinD:∀{pl:List (Addr×Obj)}{σ':St}{H':Hp}{s':Shared}{its':List Value}{k':Nat},Inv (dJ X scope cl x ix G2.objs.size fp s2 H2) pl σ' H' s'->s'.heap.get? s2.heap.objs.size=some { cls:= .type "list",data:= .seq its'.toArray k' }->H' s2.heap.objs.size=none->
          Inv (dJ X scope cl x ix G2.objs.size fp s2 H2) [(s2.heap.objs.size,{ cls:= .type "list",data:= .seq its'.toArray k' })] σ' H' s':=fun I' e' n'=>I'.pins_of fun p hp=>by
        rw[Yj.mp hp]
        exact⟨e',n',hDC,fun z=>by
          obtain⟨_,o,ho,_⟩:=Heap.FunFrames.mem I2.stack z
          exact YW _ (Ym ho),fun v z=>by cases z⟩
      have stat2:∀{H':Hp},(∀b∈fp,H' b=none)->∀b∈fp,pI (dJ X scope cl x ix G2.objs.size fp s2 H2) [(s2.heap.objs.size,{ cls:= .type "list",data:= .seq its.toArray kk })] H' b:=fun hn b hb=>by
        obtain⟨a1,a2,a3,a4,a5,_⟩:=stat hn b hb
        exact⟨a1,a2,a3,a4,a5,fun p hp=>by
          rw[Yj.mp hp]
          exact fun z=>(below b (hfl b hb)).2 z.symm⟩
      refine Y4 (T.item (dJ X scope cl x ix G2.objs.size fp s2 H2) rfl rfl rfl hc i _ s4 _ H4 (fun _ _=>False) (pinD I4 eD hD4) (stat2 fr4) st4 go) (fun r s5 hz9=>?_) fun _ _ z=>z.elim
      obtain⟨u,hr,h5⟩:=hz9
      subst hr
      refine Y4 h5 (fun _ s6 hz9=>?_) fun _ _ z=>z.elim
      obtain⟨y,H6,I6,r6,y6,st6,fr6⟩:=hz9
      have I6':=I6.pinned (stat2 fr6) (T.obj _ _ st6)
      have hxl:(relabel scope X.env).names.lookup x=some .local:=lookup_relabel_local S.loc
      refine wpAny_assign_Name (kZ (X:=dJ X scope cl x ix G2.objs.size fp s2 H2) (i:=0) I6' (Y7.mp S.nd).2 rfl (.inl hxl) r6 (fun s7 I7=>?_) (.inr hxl))
      have q7:=step y H6 y6
      refine Y4 (ht _ _ _ _ at0 _ s7 (some y::kY σ ix) H6 _ I7 q7) (fun ok s8 hz9=>?_) fun _ _ z=>fex _ _ _ _ z
      obtain⟨H8,I8,q8⟩:=hz9
      have kept:∀{σ9:St}{H9:Hp}{s9:Shared},Inv (dJ X scope cl x ix G2.objs.size fp s2 H2) ([(s2.heap.objs.size,{ cls:= .type "list",data:= .seq its.toArray kk })]++qM fp s6.heap) σ9 H9 s9->
          s9.heap.get? s2.heap.objs.size=some { cls:= .type "list",data:= .seq its.toArray kk }/\H9 s2.heap.objs.size=none/\tn (i+1) s9.heap/\∀b∈fp,H9 b=none:=fun {σ9 H9 s9} I9=>by
        have p0:=I9.pin (s2.heap.objs.size,{ cls:= .type "list",data:= .seq its.toArray kk }) (YS _ (List.mem_append_left _ (Yj.mpr rfl)))
        refine⟨p0.1,p0.2.1,T.keep _ _ _ st6 fun b hb o e=>(I9.pin (b,o) (YS _ (YS _ (jW hb e)))).1,fun b hb=>?_⟩
        obtain⟨o,e,d⟩:=T.obj _ _ st6 b hb
        exact(I9.pin (b,o) (YS _ (YS _ (jW hb e)))).2.1
      have back:∀{pl:List (Addr×Obj)}{H9:Hp}{s9:Shared},Inv (dJ X scope cl x ix G2.objs.size fp s2 H2) pl (some y::kY σ ix) H9 s9->Inv (dJ X scope cl x ix G2.objs.size fp s2 H2) [] (none::kY σ ix) H9 s9:=fun {pl H9 s9} I9=>
        (I9.weak (σ':=none::kY σ ix) rfl fun j v e=>by
          cases j with
          |zero=>cases (show none=some v from Yo e)
          |succ j=>exact e).pins_of fun p hp=>nomatch hp
      cases ok with
      | true=>
        rw[if_pos rfl]at q8 ⊢
        refine Y4 (he _ _ _ _ at0 _ s8 (some y::kY σ ix) H8 _ I8 q8) (fun yv s9 hz9=>?_) fun _ _ z=>fex _ _ _ _ z
        obtain⟨yy,H9,I9,r9,n9⟩:=hz9
        obtain⟨m',hm',w9⟩:=hN _ _ n9
        obtain⟨kD,kn,kt,kf⟩:=kept I9
        refine append_at (hsz:=by rw[Yv];omega) kD fun h10 hs10 hD10=>?_
        have neD:∀b u,H9 b=some u->b≠s2.heap.objs.size:=fun b u e z=>by rw[z,kn]at e;cases e
        have I9':=back I9
        have cellne:∀y c,cl.lookup y=some c->c≠s2.heap.objs.size:=fun y c e z=>by
          obtain⟨v,oc,hoc,_⟩:=I2.cell y c (S.look e)
          exact absurd (Ym hoc) (by rw[z];exact YW _)
        have I10:Inv (dJ X scope cl x ix G2.objs.size fp s2 H2) [] (none::kY σ ix) H9 { s9 with heap:=h10 }:=I9'.turned (t':=s9.toks) (it:=s2.heap.objs.size) (fun b o hb e=>hs10.extBut b o hb e) kn hDC (.inr (Yf _)) cellne fun p hp=>absurd (show p∈([]:List (Addr×Obj)) from hp) (by simp)
        refine⟨m',hm',i+1,ys++[yy],H9,I10,kn,⟨its++[yv],kk+1,rv.append (.cons r9 .nil),?_⟩,T.keep _ _ _ kt fun b hb o e=>hs10.extBut b o (below b (hfl b hb)).2 e,kf,w9⟩
        refine hD10.trans (YJ some ?_)
        simp
      | false=>
        rw[if_neg Yq]at q8 ⊢
        obtain⟨m',hm',w9⟩:=hN _ _ q8
        obtain⟨kD,kn,kt,kf⟩:=kept I8
        exact⟨m',hm',i+1,ys,H8,back I8,kn,⟨its,kk,rv,kD⟩,kt,kf,w9⟩
  exact codeAny_compStart_list (loop _ rfl) (T.self _ 0 _ _ _ st1 (loop _ rfl))
def cN (env:Env):List (Str×NameKind)->List (Str×Addr)->List (Str×Addr)
 |[],cs=>cs
 |(n,k)::r,cs=>cN env r (if k == .free then (n,(env.cells.lookup n).getD 0)::cs else cs)
theorem uU:∀(names:List (Str×NameKind))(cs:List (Str×Addr)),(∀y∈names,y.2= .free->∃c,env.cells.lookup y.1=some c)->
  (forIn names cs fun (p:Str×NameKind) (r:List (Str×Addr))=>match p with | (name,kind)=>if (kind == .free)=true then do let c<-cellOf env name;pure (ForInStep.yield ((name,c)::r)) else pure (ForInStep.yield r):Sem (List (Str×Addr)))=pure (cN env names cs)
 |[],cs,_=>rfl
 | (n, k)::r,cs,h=>by
  rw[List.forIn_cons]
  cases hk:k == NameKind.free with
  | true=>
   obtain⟨c,hc⟩:=h (n,k) YH (eq_of_beq hk)
   have e1:cellOf env n=pure c:=by unfold cellOf;rw[hc]
   have e2:cN env ((n,k)::r) cs=cN env r ((n,c)::cs):=by
    show cN env r (if (k == .free)=true then (n,(env.cells.lookup n).getD 0)::cs else cs)=_
    rw[hk,if_pos rfl,hc];rfl
   rw[e2,<-uU r ((n,c)::cs) fun y hy=>h y (Yz _ hy)]
   dsimp only
   rw[if_pos hk,e1]
   rfl
  | false=>
   have e2:cN env ((n,k)::r) cs=cN env r cs:=by
    show cN env r (if (k == .free)=true then (n,(env.cells.lookup n).getD 0)::cs else cs)=_
    rw[hk,if_neg Yq]
   rw[e2,<-uU r cs fun y hy=>h y (Yz _ hy)]
   dsimp only
   rw[if_neg (by rw[hk];exact Yq)]
   rfl
theorem nM {y:Str×Addr}:∀(names:List (Str×NameKind))(cs:List (Str×Addr)),y∈cN env names cs->y∈cs\/∃k∈names,k.2= .free/\k.1=y.1/\y.2=(env.cells.lookup y.1).getD 0
 |[],cs,h=> .inl h
 | (n, k)::r,cs,h=>by
  rcases nM r _ h with z | ⟨p,hp,e⟩
  ·cases hk:k == NameKind.free with
   | true=>
    rw[hk,if_pos rfl]at z
    rcases Yt.mp z with z | z
    ·exact .inr ⟨(n,k),YH,eq_of_beq hk,by rw[z],by rw[z]⟩
    ·exact .inl z
   | false=>
    rw[hk,if_neg Yq]at z
    exact .inl z
  ·exact .inr ⟨p,Yz _ hp,e⟩
theorem iY {c:Addr}:∀{l:List (Str×Addr)},(y,c)∈l->∃d,l.lookup y=some d
 |[],h=>by simp at h
 | (n, d)::r,h=>by
  rw[Y9]
  cases e:y == n with
  |true=>exact⟨d,rfl⟩
  | false=>
   rcases Yt.mp h with z | z
   ·have:y=n:=(Prod.mk.inj z).1
    rw[this,beq_self_eq_true]at e;cases e
   ·exact iY z
theorem mX:∀(names:List (Str×NameKind))(cs:List (Str×Addr)),((y,NameKind.free)∈names\/∃c,(y,c)∈cs)->∃c,(y,c)∈cN env names cs
 | [],cs,h=>by
  rcases h with h | h
  ·simp at h
  ·exact h
 | (n, k)::r,cs,h=>by
  refine mX r _ ?_
  rcases h with h | ⟨c,h⟩
  ·rcases Yt.mp h with z | z
   ·obtain⟨e1,e2⟩:=Prod.mk.inj z
    subst e1 e2
    exact .inr ⟨(env.cells.lookup y).getD 0,by rw[if_pos (beq_self_eq_true _)];exact YH⟩
   ·exact .inl z
  ·refine .inr ⟨c,?_⟩
   split
   ·exact Yz _ h
   ·exact h
def zO (scope:Scope)(env:Env)(x:Str):Bool:=scope.names.all fun y=>(y.2 != .local || ((y.1 == x || y.1 == ".0") && scope.names.lookup y.1 == some .local)) && y.2 != .cell && (y.2 != .free || env.kindOf y.1 == some .cell || env.kindOf y.1 == some .free)
def nJ (ok:X.Ok)(hk:scope.kind= .function)(hx:scope.names.lookup x=some .local)(hall:zO scope X.env x=true)(nd:((".0":Str)::x::pC X.N ix).Nodup):fD X scope (cN X.env scope.names []) x ix:=by
 have all:∀y∈scope.names,(y.2= .local->(y.1=x\/y.1=".0")/\scope.names.lookup y.1=some .local)/\y.2≠ .cell/\(y.2= .free->(X.env.kindOf y.1=some .cell\/X.env.kindOf y.1=some .free)):=fun y hy=>by
  have z:=List.all_eq_true.mp hall y hy
  simp only[Xx,Bool.or_eq_true,bne_iff_ne,XN,ne_eq]at z
  refine⟨fun e=>z.1.1.resolve_left fun q=>q e,z.1.2,fun e=>?_⟩
  rcases z.2 with (q | q) | q
  ·exact absurd e q
  ·exact .inl q
  ·exact .inr q
 have cells:∀y∈scope.names,y.2= .free->∃c,X.env.cells.lookup y.1=some c:=fun y hy e=>ok.has y.1 ((all y hy).2.2 e)
 refine⟨?_,hk,hx,fun y hy e=>((all y hy).1 e).1,fun y hy e=>((all y hy).1 e).2,fun y hy=>(all y hy).2.1,fun y hy=>(all y hy).2.2,fun y hy e=>?_,fun y hy=>?_,nd⟩
 ·have q:=uU scope.names [] cells
  unfold closureFor
  have q2:(forIn scope.names [] fun (p:Str×NameKind) (r:List (Str×Addr))=>match p with | (name,kind)=>if (kind == .free)=true then do let c<-cellOf X.env name;pure (ForInStep.yield ((name,c)::r)) else pure (ForInStep.yield r):Sem (List (Str×Addr))) >>= (fun cs=>pure cs)=pure (cN X.env scope.names []):=by
   rw[q];rfl
  exact q2
 ·obtain⟨n,k⟩:=y
  have e':k= .free:=e
  subst e'
  obtain⟨c,hc⟩:=mX (env:=X.env) scope.names [] (.inl hy)
  exact iY hc
 ·rcases nM scope.names [] hy with z | ⟨p,hp,e1,e2,e3⟩
  ·simp at z
  ·obtain⟨c,hc⟩:=cells p hp e1
   rw[e2]at hc
   rw[e3,hc];rfl
theorem iM (hc:X.calm=true)(hi:PI X (.Name x px) iter wi)(ht:∀C fp s H,mO X C fp s H->PTs (dJ X scope (cN X.env scope.names []) x ix C fp s H) ifs tt)(he:∀C fp s H,mO X C fp s H->PE (dJ X scope (cN X.env scope.names []) x ix C fp s H) elt te)
  (hk:scope.kind= .function) (hx:scope.names.lookup x=some .local) (hall:zO scope X.env x=true) (nd:((".0":Str)::x::pC X.N ix).Nodup)
  (hs:∀x,foldedSetIterable iter X.env x=pure x:=by intro _;rfl):PE X (.ListComp elt [⟨.Name x px,iter,ifs,0⟩] scope pos) (b2L ix wi tt te):=by
 intro pins s σ H Q I h
 have S:fD X scope (cN X.env scope.names []) x ix:=nJ I.ok hk hx hall nd
 rw[eval_ListComp]
 refine wpAny_comprehension_free (use:=none) rfl hs S.clos S.kind S.locs (thn (hi pins s σ H _ I h) fun v s1 h1=>thn h1 fun itv s2 h2=>?_)
 refine rC S hc ht he h2 (fun D C H' s' m J hn hCn hCle hp hL hcl hs0 q=>?_) fun D C e s' z=>z
 exact⟨m,hn,fun h' sb=>⟨.ref D,H',J.turned (t':=s'.toks) (fun b o hb e=>sb.extBut b o hb e) hCn (Va hL) (.inr hs0) hcl hp,rfl,q⟩⟩
theorem iB {j:Nat}{y:Str}{py spos:Pos}(hN:X.N.Nodup)(hj:X.N[j]? =some y)(hy:X.env.scope.names.lookup y=some .local)(hc:X.calm=true)(hi:PI X (.Name x px) iter wi)
  (ht:∀C fp s H,mO X C fp s H->PTs (dJ X scope (cN X.env scope.names []) x ix C fp s H) ifs tt) (he:∀C fp s H,mO X C fp s H->PE (dJ X scope (cN X.env scope.names []) x ix C fp s H) elt te)
  (hk:scope.kind= .function) (hx:scope.names.lookup x=some .local) (hall:zO scope X.env x=true) (nd:((".0":Str)::x::pC X.N ix).Nodup)
  (hsw:swapsWith (.ListComp elt [⟨.Name x px,iter,ifs,0⟩] scope pos) (some (.Name y py)) spos.line X.env=pure true:=by rfl) (hs:∀x,foldedSetIterable iter X.env x=pure x:=by intro _;rfl) :
  PS X (.Assign [.Name y py] (.ListComp elt [⟨.Name x px,iter,ifs,0⟩] scope pos) spos) (b7B (b2L ix wi tt te) (xG j)):=by
 intro pins s σ H D I h
 have S:fD X scope (cN X.env scope.names []) x ix:=nJ I.ok hk hx hall nd
 rw[exec_Assign_Name_used _ _ _ _ hsw]
 refine YY (wpAny_standAt (YY ?_))
 show wpAny _ _ (do let _<-comprehension (.ListComp elt [⟨.Name x px,iter,ifs,0⟩] scope pos) scope X.env _ (newList []) false (eval iter X.env) (some (assign (.Name y py) X.env))) _ _ s
 refine YY (Y4 (wpAny_comprehension_free (use:=some (assign (.Name y py) X.env)) (Q:=fun _ s'=>SP X pins D .next s') rfl hs S.clos S.kind S.locs
  (thn (hi pins s σ H _ I h) fun v s1 h1=>thn h1 fun itv s2 h2=>?_)) (fun _ s' hq=>Xd (Xd hq)) fun _ _ e=>e)
 refine rC (Q:=fun v H1=>D.nx (σ.set j (some v)) H1) S hc ht he h2 (fun D' C H' s' m J hn hCn hCle hp hL hcl hs0 q=>?_) fun D' C e s' z=>z
 show wpAny _ _ (assign (.Name y py) X.env (.ref D')) _ _ _
 refine wpAny_assign_Name (sG J hN hj (.inl hy) (v:= .ref D') rfl (fun s'' J' hz9=>?_) (.inr hy))
 obtain⟨a,sb,ha⟩:=hz9
 have hCa:C≠a:=by
  rcases ha with e | e
  ·rw[e];exact Va hL
  ·exact Va (hcl y a e)
 exact⟨m,hn.sameBut sb hCa,fun h' sb'=>⟨σ.set j (some (.ref D')),H',J'.turned (t':=s''.toks) (fun b o hb e=>sb'.extBut b o hb e) hCn (Va hL) (.inr hs0) hcl hp,q⟩⟩
end
theorem gO {lo:Int}{n:Nat}{tt:TT}{te:TE}{σc:V->St}{H:Hp}{Q:VK}(Pv:Nat->List V->Hp->Prop)(hn:∀i ys H,i<=n->Pv i ys H->ys.length<sizeLine)(h0:Pv 0 [] H)
  (hs:∀i ys H,i<n->Pv i ys H->tt (σc (.int (lo+i))) H fun b H3=>if b=true then te (σc (.int (lo+i))) H3 fun y H4=>Pv (i+1) (ys++[y]) H4 else Pv (i+1) ys H3)
  (hd:∀ys H,Pv n ys H->∀p,H p=none->Q (.ref p) (upd H p (.lst ys))):rD (Itr lo n) tt te σc H Q:=by
 refine⟨fun i m ys H=>m=n-i/\i<=n/\Pv i ys H,⟨n,by simp,YO _,h0⟩,?_⟩
 rintro i m ys H ⟨rfl,hi,p⟩
 refine⟨hn i ys H hi p,?_⟩
 by_cases hlt:i<n
 ·refine .inr ⟨hlt,Pv (i+1),fun ys' H' q=>⟨n-(i+1),by omega,rfl,hlt,q⟩,fun x H' y=>?_⟩
  obtain⟨e,y⟩:=y
  subst e y
  exact hs i ys _ hlt p
 ·have e:i=n:=by omega
  subst e
  exact .inl ⟨Yf _,hd ys H p⟩
theorem gQ {K:W.Frag}{a:Addr}{xs:List V}{tt:TT}{te:TE}{σc:V->St}{H:Hp}{Q:VK}(Pv:Nat->List V->Hp->Prop)(hn:∀i ys H,i<=xs.length->Pv i ys H->ys.length<sizeLine)(h0:Pv 0 [] H)
  (hl:∀i ys H,i<=xs.length->Pv i ys H->SqL K H a xs)
  (hs:∀i x ys H,xs[i]? =some x->Pv i ys H->tt (σc x) H fun b H3=>if b=true then te (σc x) H3 fun y H4=>Pv (i+1) (ys++[y]) H4 else Pv (i+1) ys H3)
  (hd:∀ys H,Pv xs.length ys H->∀p,H p=none->Q (.ref p) (upd H p (.lst ys))):rD (Itl K a) tt te σc H Q:=by
 refine⟨fun i m ys H=>m=xs.length-i/\i<=xs.length/\Pv i ys H,⟨xs.length,by simp,YO _,h0⟩,?_⟩
 rintro i m ys H ⟨rfl,hi,p⟩
 have q:=hl i ys H hi p
 refine⟨hn i ys H hi p,?_⟩
 by_cases hlt:i<xs.length
 ·refine .inr ⟨⟨xs,xs[i],q,by simp[hlt]⟩,Pv (i+1),fun ys' H' q=>⟨xs.length-(i+1),by omega,rfl,hlt,q⟩,fun x H' y=>?_⟩
  obtain⟨e,y⟩:=y
  subst e
  exact hs i x ys _ (y xs q) p
 ·have e:i=xs.length:=by omega
  subst e
  exact .inl ⟨⟨xs,q,Yf _⟩,hd ys H p⟩
end L2
namespace L2
open PySem PySem.Spec PyProof.Rows PySem.W PySem.Builtin PySem.Builtin.ObjectAttr PySem.Builtin.Getset_descriptor
section
variable {prog:Program}{w:World}{A:Around}{E:Value->Shared->Prop}{K:W.Frag}{a C:Addr}
end
section
variable {X:Cx}
end
end L2
namespace L2
open PySem PySem.Spec PyProof.Rows
mutual
inductive DV (K:W.Frag)(H:Hp):V->PyData->Prop
 |non:DV K H .non .none
 |bl (b:Bool):DV K H (.bl b) (.bool b)
 |int (i:Int):DV K H (.int i) (.int i)
 |str (x:Str):DV K H (.str x) (.str x)
 |lst {a:Addr} {xs:List V} {ds:List PyData}:SqL K H a xs->DVs K H xs ds->DV K H (.ref a) (.list ds)
 |tup {a:Addr} {xs:List V} {ds:List PyData}:SqT K H a xs->DVs K H xs ds->DV K H (.ref a) (.tuple ds)
inductive DVs (K:W.Frag)(H:Hp):List V->List PyData->Prop
 |nil:DVs K H [] []
 |cons {x:V} {xs:List V} {d:PyData} {ds:List PyData}:DV K H x d->DVs K H xs ds->DVs K H (x::xs) (d::ds)
end
variable {K:W.Frag}{H:Hp}{d:PyData}{s:Shared}{X:Cx}{pos:Pos}
theorem DVs.ints:∀ns:List Int,DVs K H (ns.map V.int) (ns.map PyData.int)
 |[]=> .nil
 |n::r=> .cons (.int n) (DVs.ints r)
def DV.ints {a:Addr}{ns:List Int}(h:SqL K H a (ns.map V.int)):DV K H (.ref a) (.list (ns.map .int)):= .lst h (DVs.ints ns)
section
variable {pins:List (Addr×Obj)}{σ:St}
mutual
theorem Inv.reads (I:Inv X pins σ H s):∀{x:V}{d:PyData}{u:Value},DV X.K H x d->RelV x u->∃as,Reads s.heap u d as
 |_,_,_,.non,r=>by cases r;exact⟨_,Reads.none⟩
 |_,_,_,.bl b,r=>by cases r;exact⟨_,Reads.bool b⟩
 |_,_,_,.int i,r=>by obtain⟨t,rfl⟩:=r;exact⟨_,Reads.int i t⟩
 |_,_,_,.str x,r=>by obtain⟨t,rfl⟩:=r;exact⟨_,Reads.str x t⟩
 | _,_,_,.lst h r,rr=>by
  cases rr
  obtain⟨its,rv,⟨o,n,e,c,_,dt⟩,_⟩:=I.list h
  obtain⟨as,q⟩:=Inv.readsAll I r rv
  exact⟨_,reads_list_at e c dt (by simpa using q)⟩
 | _,_,_,.tup h r,rr=>by
  cases rr
  obtain⟨its,rv,⟨o,e,c,n,dt⟩,_⟩:=I.tuple h
  obtain⟨as,q⟩:=Inv.readsAll I r rv
  exact⟨_,reads_tuple_at e c dt (by simpa using q)⟩
theorem Inv.readsAll (I:Inv X pins σ H s):∀{xs:List V}{ds:List PyData}{us:List Value},DVs X.K H xs ds->Vals xs us->∃as,ReadsAll s.heap us ds as
 |_,_,_,.nil,.nil=>⟨_,ReadsAll.nil⟩
 | _,_,_,.cons h r,.cons q p=>by
  obtain⟨as,q1⟩:=Inv.reads I h q
  obtain⟨bs,q2⟩:=Inv.readsAll I r p
  exact⟨_,ReadsAll.cons q1 q2⟩
end
end
section
def b6P (hu:X.A.units+64<cLine):OpR X (compareOp .Eq) (fun x y H Q=>∃d e,DV X.K H x d/\DV X.K H y e/\SeqAt.shaped d=true/\SeqAt.shaped e=true/\Q (.bl (PyData.eqv d e)) H):=by
 intro pins s σ H x y v u Q I rx ry h
 obtain⟨d,e,hd,he,sd,se,q⟩:=h
 obtain⟨as,ra⟩:=I.reads hd rx
 obtain⟨bs,rb⟩:=I.reads he ry
 exact eq_dataH ra rb sd se hu ⟨.bl _,H,I,rfl,q⟩
def b6L (hu:X.A.units+64<cLine):OpR X (compareOp .NotEq) (fun x y H Q=>∃d e,DV X.K H x d/\DV X.K H y e/\SeqAt.shaped d=true/\SeqAt.shaped e=true/\Q (.bl (!PyData.eqv d e)) H):=by
 intro pins s σ H x y v u Q I rx ry h
 obtain⟨d,e,hd,he,sd,se,q⟩:=h
 obtain⟨as,ra⟩:=I.reads hd rx
 obtain⟨bs,rb⟩:=I.reads he ry
 exact ne_dataH ra rb sd se hu ⟨.bl _,H,I,rfl,q⟩
def a4B (hu:X.A.units+64<cLine):OpR X (compareOp .Eq) (fun x y H Q=>∃d,DV X.K H x d/\DV X.K H y d/\SeqAt.shaped d=true/\Q (.bl true) H):=(b6P hu).imp fun x y H Q ⟨d,h1,h2,h3,q⟩=>⟨d,d,h1,h2,h3,h3,by rw[SeqAt.eqv_refl d (XQ h3)];exact q⟩
def b6K (hu:X.A.units+64<cLine):OpR X (compareOp .NotEq) (fun x y H Q=>∃d,DV X.K H x d/\DV X.K H y d/\SeqAt.shaped d=true/\Q (.bl false) H):=(b6L hu).imp fun x y H Q ⟨d,h1,h2,h3,q⟩=>⟨d,d,h1,h2,h3,h3,by rw[SeqAt.eqv_refl d (XQ h3)];exact q⟩
def c0I (K:W.Frag):R2:=fun x y H Q=>vR x fun a=>vR y fun b=>∃ns ms:List Int,SqL K H a (ns.map V.int)/\SqL K H b (ms.map V.int)/\Q (.bl (!decide (ns=ms))) H
def a3W (hu:X.A.units+64<cLine):OpR X (compareOp .NotEq) (c0I X.K):=by
 intro pins s σ H x y v u Q I rx ry h
 obtain⟨a,rfl,hh⟩:=vR.ex h
 clear h
 obtain⟨b,rfl,ns,ms,h1,h2,q⟩:=vR.ex hh
 cases rx;cases ry
 obtain⟨its,rv,pl,_⟩:=I.list h1
 obtain⟨jts,rw',pl',_⟩:=I.list h2
 exact W.ne_intsK pl.isList (intsAre_of rv) pl'.isList (intsAre_of rw') hu ⟨.bl _,H,I,rfl,q⟩
end
def a9R {ds:List PyData}(h:∀d∈ds,d.canLay0=true/\d.depth<=60):SeqAt.shaped (.list ds)=true:=by
 have all:∀ds:List PyData,(∀d∈ds,d.canLay0=true/\d.depth<=60)->PyData.canLayAll0 ds=true/\PyData.depthAll ds<=60:=by
  intro ds
  induction ds with
  |nil=>intro _;simp[PyData.canLayAll0,PyData.depthAll]
  | cons d r ih=>
   intro h
   have h1:=h d YH
   have h2:=ih fun z hz=>h z (Yz _ hz)
   simp only[PyData.canLayAll0,PyData.depthAll,h1.1,h2.1,Bool.and_self,true_and]
   have:=h1.2;have:=h2.2;omega
 have z:=all ds h
 unfold SeqAt.shaped
 rw[Xx]
 refine⟨by simp only[PyData.canLay0];exact z.1,Yp ?_⟩
 simp only[PyData.depth]
 have:=z.2;omega
section
def zH {its:List Value}{ns:List Int}(hi:IntsAre its ns):∃xs:Array (Int×Tok),its.toArray=intItems xs/\ns=xs.toList.map (·.1):=by
 obtain⟨xs,hx⟩:=hi.allInts.items
 refine⟨xs,hx,?_⟩
 rw[<-nums_intItems,<-hx]
 exact(show numsOf its.toArray.toList=ns from hi.numsOf).symm
def b8I (K:W.Frag)(lt:Int->Int->Prop):List V->Hp->VK->Prop:=fun xs H Q=>l1 xs fun x=>vR x fun p=>∃ns:List Int,SqL K H p (ns.map V.int)/\ns≠ []/\∀m,m∈ns->(∀z∈ns,lt m z)->Q (.int m) H
def a3X (hc:X.calm=true):fJ X (.builtin "min") (b8I X.K (·<= ·)):=by
 intro pins s σ H xs us Q I r h
 obtain⟨x,rfl,h⟩:=l1.ex h
 obtain⟨p,rfl,ns,hS,hne,q⟩:=vR.ex h
 obtain⟨u,rfl,ru⟩:=vals1 r
 cases ru
 obtain⟨its,rv,pl,_⟩:=I.list hS
 obtain⟨zs,e1,e2⟩:=zH (intsAre_of rv)
 have hl:s.heap.IsList p (intItems zs):=e1▸pl.isList
 have hsz:0<zs.size:=by
  have h3:0<ns.length:=List.length_pos_iff.mpr hne
  rw[e2,Ya,Xy]at h3;exact h3
 refine min_intList (I.ok.hd hc) hl hsz fun v h' tk hv hk=>?_
 obtain⟨t,rfl⟩:=intItems_at hv
 obtain⟨h1,h2⟩:=argBest_lt (numAt zs) (zs.size-1)
 refine⟨.int _,H,I.kept hk,⟨_,rfl⟩,q _ ?_ fun a ha=>?_⟩
 ·rw[e2,numAt_eq];exact getD_mem (by rw[Ya,Xy];omega)
 ·rw[e2]at ha
  obtain⟨j,hj,rfl⟩:=mem_getD ha
  rw[Ya,Xy]at hj
  rw[<-numAt_eq];exact h2 j (by omega)
def c0M:R2:=fun x y H Q=>vR x fun l=>vR y fun b=>∃xs zs,H l=some (.lst xs)/\H b=some (.lst zs)/\xs.length+zs.length<=sizeLine/\∀p,H p=none->Q (.ref p) (upd H p (.lst (xs++zs)))
def mD:OpR X (binaryOp .Add) c0M:=b4T.imp fun x y H Q h=>by
 obtain⟨l,rfl,hh⟩:=vR.ex h
 clear h
 obtain⟨b,rfl,xs,zs,h1,h2,h3,h4⟩:=vR.ex hh
 exact⟨l,b,xs,zs,rfl,rfl,h1,h2,h3,h4⟩
end
def b1Q {bs:List Int}{a n:Nat}(h:a+n<=bs.length):pH (bs.map V.int) (some (a:Int)) (some ((a+n:Nat):Int))=((bs.drop a).take n).map V.int:=by
 unfold pH
 rw[HT.sIx_nat,HT.sIx_nat,Ya,Nat.min_eq_left (by omega),Nat.min_eq_left (by omega),Nat.add_sub_cancel_left,List.map_take,List.map_drop]
section
variable {tg:Expr}
end
section
end
section
variable {a b c:Expr}{ta tb tc:TE}
def uR (r r':R2)(ta tb tc:TE):TE:=fun σ H Q=>ta σ H fun x H1=>tb σ H1 fun y H2=>r x y H2 fun z H3=>vB z fun k=>if k=true then tc σ H3 fun u H4=>r' y u H4 Q else Q (.bl false) H3
def tE (r r':R2)(ta tb tc:TE):uR r r' ta tb tc=tV r r' ta tb tc:=by
 funext σ H Q
 unfold uR tV
 simp only[pZ]
theorem wQ {op op':CmpOp}{r r':R2}(ho:OpR X (compareOp op) r)(ho':OpR X (compareOp op') r')(ha:PE X a ta)(hb:PE X b tb)(hc:PE X c tc)
  (hm:lastMarks [op,op'] [b,c]=false:=by with_unfolding_all rfl):PE X (.Compare a [op,op'] [b,c] pos) (uR r r' ta tb tc):=by
 rw[tE];exact a6O ho ho' ha hb hc hm
theorem wJ {op op':CmpOp}{r r':R2}(ho:OpR X (compareOp op) r)(ho':OpR X (compareOp op') r')(ha:PE X a ta)(hb:PE X b tb)(hc:PE X c tc)
  (hm:lastMarks [op,op'] [b,c]=false:=by with_unfolding_all rfl):PT X (.Compare a [op,op'] [b,c] pos) (qZ (uR r r' ta tb tc)):=by
 rw[tE,xK];exact a6F ho ho' ha hb hc hm
theorem qX (z:Int):∀ns:List Int,inV (.int z) (ns.map V.int)=decide (z∈ns)/\(ns.map V.int).all nH=true
 |[]=>⟨rfl,rfl⟩
 | n ::r=>by
  have ih:=qX z r
  refine⟨?_,?_⟩
  ·unfold inV at ih ⊢
   rw[YI,Xj,ih.1]
   show ((n == z) || decide (z∈r))=decide (z∈n::r)
   rw[XB]
   simp only[Bool.or_eq_true,XN,XH,Yt]
   exact⟨fun h=>h.imp Eq.symm id,fun h=>h.imp Eq.symm id⟩
  ·rw[YI,Xz,ih.2];rfl
def b8G (K:W.Frag)(f:Bool->Bool):R2:=fun x y H Q=>vI x fun z=>vR y fun p=>∃ns:List Int,SqA K H p (ns.map V.int)/\Q (.bl (f (decide (z∈ns)))) H
def b2E:OpR X (compareOp .In) (b8G X.K id):=a2Q.imp fun x y H Q h=>by
 obtain⟨z,rfl,hh⟩:=vI.ex h
 clear h
 obtain⟨p,rfl,ns,h1,q⟩:=vR.ex hh
 have e:=qX z ns
 exact⟨p,_,rfl,h1,rfl,e.2,by show Q (.bl (inV (.int z) (ns.map V.int))) H;rw[e.1];exact q⟩
def vL:OpR X (compareOp .NotIn) (b8G X.K not):=uA.imp fun x y H Q h=>by
 obtain⟨z,rfl,hh⟩:=vI.ex h
 clear h
 obtain⟨p,rfl,ns,h1,q⟩:=vR.ex hh
 have e:=qX z ns
 exact⟨p,_,rfl,h1,rfl,e.2,by show Q (.bl (!inV (.int z) (ns.map V.int))) H;rw[e.1];exact q⟩
end
section
def a3Z (hK:X.K=K:=by rfl):IxR X (b8F K):=by subst hK;exact cT
def a3Y (hK:X.K=K:=by rfl):IxR X (b8E K):=by subst hK;exact fK
def b3D (hK:X.K=K:=by rfl):fJ X (.builtin "len") (b8D K):=by subst hK;exact fZ
def a1T (hK:X.K=K:=by rfl):fJ X (.type "list") (a0S K):=by subst hK;exact dF
def b3B (hK:X.K=K:=by rfl):SlR X (b8B K):=by subst hK;exact a0D
end
def b6B:bootBuiltins "all"=some (.builtin "all"):=by decide +kernel
section
def c0H:R2:=fun x y H Q=>vR x fun l=>vI y fun k=>∃xs,H l=some (.lst xs)/\(-(2 ^ 63)<=k/\k<2 ^ 63)/\xs.length*k.toNat<=sizeLine/\∀p,H p=none->Q (.ref p) (upd H p (.lst (List.replicate k.toNat xs).flatten))
def b6J:OpR X (binaryOp .Mult) c0H:=b4Q.imp fun x y H Q h=>by
 obtain⟨l,rfl,h⟩:=vR.ex h
 obtain⟨k,rfl,xs,h1,h2,h3,h4⟩:=vI.ex h
 exact⟨l,k,xs,rfl,rfl,h1,h2.1,h2.2,h3,h4⟩
def c0L:List V->Hp->VK->Prop:=fun xs H Q=>l1 xs fun x=>@V.rec (fun _=>Prop) False (fun b=>Q (.int (if b then 1 else 0)) H) (fun i=>Q (.int i) H) (fun _=>False) (fun _=>False) (fun _=>False) (fun _=>False) (fun _=>False) x
def b2D:fJ X (.type "int") c0L:=a3T.imp fun xs H Q h=>by
 obtain⟨x,rfl,h⟩:=l1.ex h
 cases x with
 |int i=>exact .inl ⟨i,rfl,h⟩
 |bl b=>exact .inr ⟨b,rfl,h⟩
 |_=>exact h.elim
section
variable {o e:Expr}{es:List Expr}{to:TE}{t:TA}{apos cpos:Pos}
def b1N (to:TE)(t:TA):TE:=fun σ H Q=>to σ H fun x H1=>vR x fun l=>(∃xs,H1 l=some (.lst xs))/\t σ H1 fun vs H2=>l1 vs fun y=>vR y fun b=>∃xs zs,H2 l=some (.lst xs)/\H2 b=some (.lst zs)/\xs.length+zs.length<=sizeLine/\Q .non (upd H2 l (.lst (xs++zs)))
theorem a2X (ho:PE X o to)(ha:PA X [e] t)(hbase:attributeBase o "extend" X.env (eval o X.env)=eval o X.env:=by rfl)
  (hfew:((backTo cpos (starEach [e] X.env)).all (fun x=>!x.1) && (backToKw cpos (keywordEach [] X.env)).all (fun x=>x.1.isSome)
   && decide (([e]:List Expr).length+([]:List Keyword).length+(if ([]:List Keyword).isEmpty then 0 else 1)<30))=true:=by rfl)
  (hline:(apos.endLine == cpos.line)=true:=by rfl) (hs:starEach [e] X.env=(false,eval e X.env)::starEach [] X.env:=by rfl) (hplain:(backTo cpos (starEach [] X.env)).any (·.1)=false:=by rfl) :
  PE X (.Call (.Attribute o "extend" apos) [e] [] cpos) (b1N to t):=
 (a6R XI PySem.F.slot_list_extend PySem.F.type_list_extend a2U (cD ho) (qN ha) hbase hfew hline hs hplain).imp fun σ H Q h=>⟨_,h,fun x H1 q=>by
  obtain⟨l,rfl,⟨xs,q1⟩,q2⟩:=vR.ex q
  refine⟨.inl ⟨rfl,xs,Vb q1⟩,_,q2,fun vs H2 q3=>?_⟩
  obtain⟨y,rfl,q3⟩:=l1.ex q3
  obtain⟨b,rfl,xs,zs,h1,h2,h3,h4⟩:=vR.ex q3
  exact⟨l,b,xs,zs,rfl,rfl,h1,h2,h3,h4⟩⟩
def b5S (to:TE)(t:TA):TE:=fun σ H Q=>to σ H fun x H1=>vR x fun l=>(∃xs,H1 l=some (.lst xs))/\t σ H1 fun vs H2=>l1 vs fun y=>vI y fun i=>∃xs k y,H2 l=some (.lst xs)/\(-(2 ^ 63)<=i/\i<2 ^ 63)/\seqIndex? i xs.length=some k/\xs[k]? =some y/\Q y (upd H2 l (.lst (xs.eraseIdx k)))
theorem a7C (ho:PE X o to)(ha:PA X [e] t)(hbase:attributeBase o "pop" X.env (eval o X.env)=eval o X.env:=by rfl)
  (hfew:((backTo cpos (starEach [e] X.env)).all (fun x=>!x.1) && (backToKw cpos (keywordEach [] X.env)).all (fun x=>x.1.isSome)
   && decide (([e]:List Expr).length+([]:List Keyword).length+(if ([]:List Keyword).isEmpty then 0 else 1)<30))=true:=by rfl)
  (hline:(apos.endLine == cpos.line)=true:=by rfl) (hs:starEach [e] X.env=(false,eval e X.env)::starEach [] X.env:=by rfl) (hplain:(backTo cpos (starEach [] X.env)).any (·.1)=false:=by rfl) :
  PE X (.Call (.Attribute o "pop" apos) [e] [] cpos) (b5S to t):=
 (a6R XI PySem.F.slot_list_pop PySem.F.type_list_pop a7A (cD ho) (qN ha) hbase hfew hline hs hplain).imp fun σ H Q h=>⟨_,h,fun x H1 q=>by
  obtain⟨l,rfl,⟨xs,q1⟩,q2⟩:=vR.ex q
  refine⟨.inl ⟨rfl,xs,Vb q1⟩,_,q2,fun vs H2 q3=>?_⟩
  obtain⟨y,rfl,q3⟩:=l1.ex q3
  obtain⟨i,rfl,xs,k,y,h1,h2,h3,h4,h5⟩:=vI.ex q3
  exact⟨l,xs,i,k,y,rfl,rfl,h1,h2.1,h2.2,h3,h4,h5⟩⟩
end
theorem pY:∀{bs:List Bool}{us:List Value},Vals (bs.map V.bl) us->us=bs.map Value.bool
 |[],_,.nil=>rfl
 | b::r,_,.cons h t=>by
  cases (show _=Value.bool b from h)
  rw[pY t];rfl
def c0N (K:W.Frag):List V->Hp->VK->Prop:=fun xs H Q=>l1 xs fun x=>vR x fun p=>∃bs:List Bool,SqL K H p (bs.map V.bl)/\Q (.bl (bs.all id)) H
def all_range (bs:List Bool):(List.range bs.length).all (fun i=>bs.getD i false)=bs.all id:=by
 have e:(List.range bs.length).map (fun i=>bs.getD i false)=bs:=by
  apply List.ext_getElem
  ·simp
  ·intro i h1 h2
   simp[Yn,h2]
 conv=>rhs;rw[<-e,List.all_map]
 rfl
def b6Q (hc:X.calm=true):fJ X (.builtin "all") (c0N X.K):=by
 intro pins s σ H xs us Q I r h
 obtain⟨x,rfl,h⟩:=l1.ex h
 obtain⟨p,rfl,bs,hS,q⟩:=vR.ex h
 obtain⟨u,rfl,ru⟩:=vals1 r
 cases ru
 obtain⟨its,rv,pl,_⟩:=I.list hS
 have ei:=pY rv
 subst ei
 have hl:=pl.isList
 have hlt:p<s.heap.objs.size:=by obtain⟨_,e,_⟩:=hl;exact Ym e
 refine call_all_walk (wpAny_pyIter_list hl ?_)
 refine⟨_,_,_,_,_,_,fun i=>bs.getD i false,rfl,Walks.list (A:=X.A.in1) (I.ok.hd hc) _ p (Yy hlt) _,⟨⟨_,Yu _ rfl,rfl,rfl⟩,hl.push _⟩,?_,fun h' tk hk=>?_⟩
 ·intro i v s' Q' E' hP hq
  have hv:(bs.map Value.bool)[i]? =some v:=by simpa using hP
  rw[Yl]at hv
  obtain⟨b,hb,rfl⟩:=YM.mp hv
  have:bs.getD i false=b:=by rw[Yn,hb];rfl
  simp only[this]at hq
  exact Xc hq
 ·have e:(bs.map Value.bool).toArray.size=bs.length:=by simp
  rw[e,all_range]
  exact⟨.bl _,H,I.kept (old_kept hk),rfl,q⟩
end
section
variable {P:Program}{w:World}{mg:Str->Option Value}{base:Heap}{N:List Str}{qual:Str}{scope:Scope}{f:Addr}{cd:Value}{A:Around}{outer:List Env}{E:XK}
end
section
variable {np hpos:Pos}{y n:Str}{C:Addr}{i:Nat}{b₀:Stmt}{suite:List Stmt}{ts:TS}{hs:List ExceptHandler}{th:TH}
end
section
variable {o e value:Expr}{es:List Expr}{to ta tv:TE}{t:TA}{apos cpos pos':Pos}{C:Addr}{f m:Str}
def b5W (to:TE):TE:=fun σ H Q=>to σ H fun x H1=>vR x fun l=>∃xs,H1 l=some (.lst xs)/\Q .non (upd H1 l (.lst []))
def wO (ho:PE X o to)(hbase:attributeBase o "clear" X.env (eval o X.env)=eval o X.env:=by rfl)(hline:(apos.endLine == cpos.line)=true:=by rfl):PE X (.Call (.Attribute o "clear" apos) [] [] cpos) (b5W to):=
 (a6Q XI PySem.F.slot_list_clear PySem.F.type_list_clear a7B (cD ho) hbase hline).imp fun σ H Q h=>⟨_,h,fun x H1 q=>by
  obtain⟨l,rfl,xs,h1,h2⟩:=vR.ex q
  exact⟨.inl ⟨rfl,xs,Vb h1⟩,l,xs,rfl,rfl,h1,h2⟩⟩
def c1D (C:Addr)(ta:TE)(f:Str):TE:=fun σ H Q=>ta σ H fun x H1=>vR x fun a=>∃dx fs v,H1 a=some (.ins C dx fs)/\fs.lookup f=some v/\Q v H1
def aP (c:Cls X.K C)(n:bL X.K C f)(he:PE X e ta)(hb:attributeBase e f X.env (eval e X.env)=eval e X.env:=by rfl):PE X (.Attribute e f pos) (c1D C ta f):=
 (a6K (cD he) hb).imp fun σ H Q h=>⟨_,h,fun x H1 q=>by
  obtain⟨a,rfl,dx,fs,v,h1,h2,h3⟩:=vR.ex q
  exact⟨a,C,dx,fs,v,rfl,h1,c,n,h2,h3⟩⟩
def c1B (C:Addr)(ta tv:TE)(f:Str):TS:=fun D σ H=>tv σ H fun y H1=>ta σ H1 fun x H2=>vR x fun a=>∃dx fs,H2 a=some (.ins C dx fs)/\fs.length<1000/\D.nx σ (upd H2 a (.ins C dx (gH f y fs)))
def bW (c:Cls X.K C)(n:bL X.K C f)(ha:PE X o ta)(hv:PE X value tv)(hs:swapsWith value (some (.Attribute o f pos')) pos.line X.env=pure false:=by rfl):
  PS X (.Assign [.Attribute o f pos'] value pos) (c1B C ta tv f):=
 (a6H (cD ha) (cD hv) hs).imp fun D σ H h=>⟨_,h,fun y H1 q=>⟨_,q,fun x H2 q2=>by
  obtain⟨a,rfl,dx,fs,h1,h2,h3⟩:=vR.ex q2
  exact⟨a,C,dx,fs,rfl,h1,c,n,h2,h3⟩⟩⟩
variable {CX:CXT}{k:Nat}{fa:Addr}{fd:FuncData}{ps:List Str}{sp:Sp}{dvs:List V}{ds:List Value}{E:XK}
def b2X (C:Addr)(m:Str)(sp:Sp)(dvs:List V)(E:XK)(ta:TE)(t:TA):TE:=fun σ H Q=>ta σ H fun x H1=>vR x fun a=>(∃dx fs,H1 a=some (.ins C dx fs)/\fs.lookup m=none)/\t σ H1 fun vs H2=>sp (.ref a::(vs++dvs)) H2 Q E
theorem bB {pl:Sem Bool}(c:Cls X.K C)(hm:Meth X.K C m fa)(F:fV X.prog X.w X.K X.mg X.base CX k fa fd ps sp)(hr:cX k X.A)(hb:Binds X.K fd ps ds)(hd:Vals dvs ds)(hx:gJ CX X E)(he:PE X o ta)(ha:PA X (e::es) t)
  (hst:starEach (e::es) X.env=(false,eval e X.env)::starEach es X.env:=by rfl) (hpl:(backTo pos (starEach es X.env)).any (·.1)=false:=by rfl)
  (ht:eval (.Call (.Attribute o m apos) (e::es) [] pos) X.env=(do
   let ov<-eval o X.env
   standAt apos.atName
   let (f,first)<-holding [ov] (getMethod ov m pl)
   callWith pos f first (backTo pos (starEach (e::es) X.env)) (backToKw pos (keywordEach [] X.env))):=by rfl) :
  PE X (.Call (.Attribute o m apos) (e::es) [] pos) (b2X C m sp dvs E ta t):=
 (b0L (pl:=pl) (cD he) c hm F hr hb hd hx (qN ha) hst hpl ht).imp fun σ H Q h=>⟨_,h,fun x H1 q=>by
  obtain⟨a,rfl,⟨dx,fs,h1,h2⟩,h3⟩:=vR.ex q
  exact⟨a,dx,fs,rfl,h1,h2,_,h3,fun vs H2 z=>z⟩⟩
theorem bD {pl:Sem Bool}(c:Cls X.K C)(hm:Meth X.K C m fa)(F:fV X.prog X.w X.K X.mg X.base CX k fa fd ps sp)(hr:cX k X.A)(hb:Binds X.K fd ps ds)(hd:Vals dvs ds)(hx:gJ CX X E)(he:PE X o ta)
  (ht:eval (.Call (.Attribute o m apos) [] [] pos) X.env=(do
   let ov<-eval o X.env
   standAt apos.atName
   let (f,first)<-holding [ov] (getMethod ov m pl)
   callWith pos f first (backTo pos (starEach [] X.env)) (backToKw pos (keywordEach [] X.env))):=by rfl) :
  PE X (.Call (.Attribute o m apos) [] [] pos) (b2X C m sp dvs E ta yG):=
 (a6I (pl:=pl) (cD he) c hm F hr hb hd hx ht).imp fun σ H Q h=>⟨_,h,fun x H1 q=>by
  obtain⟨a,rfl,⟨dx,fs,h1,h2⟩,h3⟩:=vR.ex q
  exact⟨a,dx,fs,rfl,h1,h2,h3⟩⟩
end
section
noncomputable def zM (h:Heap)(d:PyData):Value->Bool:=by
 classical
 exact fun y=>if g:∃d' as,Reads h y d' as then PyData.eqv g.choose d else false
def a1D {h:Heap}{d':PyData}{y:Value}{as:List Addr}(r:Reads h y d' as):zM h d y=PyData.eqv d' d:=by
 have g:∃d' as,Reads h y d' as:=⟨d',as,r⟩
 unfold zM
 simp only[dif_pos g]
 obtain⟨bs,r'⟩:=g.choose_spec
 rw[(reads_det (fun b o e _=>e) r r').1]
theorem a1P {h:Heap}:∀{us:List Value}{ds:List PyData}{as:List Addr},ReadsAll h us ds as->us.any (zM h d)=ds.any fun e=>PyData.eqv e d
 |_,_,_,.nil=>rfl
 |_,_,_,.cons r t=>by rw[Xj,Xj,a1D r,a1P t]
theorem a0Q {A:Around}{v:Value}{bs:List Addr}(rv:Reads s.heap v d bs)(hd:SeqAt.shaped d=true)(hu:A.units+64<cLine):∀{us:List Value}{ds:List PyData}{as:List Addr},ReadsAll s.heap us ds as->(∀e∈ds,SeqAt.shaped e=true)->∀u∈us,SeqAt.EqAt A s u v (zM s.heap d u)
 |_,_,_,.nil,_=>fun u hu=>by cases hu
 | _, _,_,.cons r t,f=>fun u hm=>by
  rcases Yt.mp hm with rfl | hm
  ·rw[a1D r]
   have h1:=f _ YH
   exact SeqAt.eqAt_reads _ _ A s _ _ _ _ r rv (XQ h1) (XQ hd) (SeqAt.room_of_shaped h1 hu)
  ·exact a0Q rv hd hu t (fun e he=>f e (Yz _ he)) u hm
def b8H (K:W.Frag)(f:Bool->Bool):R2:=fun x y H Q=>vR y fun p=>∃d ds xs,DV K H x d/\SqL K H p xs/\DVs K H xs ds/\SeqAt.shaped d=true/\(∀e∈ds,SeqAt.shaped e=true)/\Q (.bl (f (ds.any fun e=>PyData.eqv e d))) H
def b6O (hu:X.A.in1.units+64<cLine):OpR X (compareOp .In) (b8H X.K id):=by
 intro pins s σ H x y v u Q I rx ry h
 obtain⟨p,rfl,d,ds,xs,hd,hS,hs,sd,ss,q⟩:=vR.ex h
 cases ry
 obtain⟨its,rv,pl,_⟩:=I.list hS
 obtain⟨as,ra⟩:=I.reads hd rx
 obtain⟨bs,rb⟩:=I.readsAll hs rv
 refine SeqAt.in_listAt (zM s.heap d) pl.isList (fun w hw=>a0Q ra sd hu rb ss w (by simpa using hw)) ⟨.bl _,H,I,rfl,?_⟩
 rw[show its.toArray.any (zM s.heap d)=its.any (zM s.heap d) by simp,a1P rb]
 exact q
end
def prD (p:Int×Int):PyData:= .tuple [.int p.1,.int p.2]
def b0C (p q:Int×Int):PyData.eqv (prD p) (prD q)=decide (p=q):=by
 obtain⟨a,b⟩:=p
 obtain⟨c,d⟩:=q
 simp only[prD,PyData.eqv,PyData.eqvAll,Bool.and_true]
 by_cases h1:a=c <;> by_cases h2:b=d <;> simp[h1,h2]
def b0D (p:Int×Int)(ps:List (Int×Int)):(ps.map prD).any (fun e=>PyData.eqv e (prD p))=decide (p∈ps):=by
 induction ps with
 |nil=>simp
 | cons q r ih=>
  rw[YI,Xj,ih,b0C]
  by_cases h1:q=p
  ·simp[h1]
  ·have h2:¬ p=q:=fun z=>h1 z.symm
   simp[h1,h2]
def qK (p:Int×Int):SeqAt.shaped (prD p)=true:=by
 obtain⟨a,b⟩:=p
 rfl
inductive xR (K:W.Frag)(H:Hp):List Addr->List (Int×Int)->Prop
 |nil:xR K H [] []
 |cons {q:Addr} {p:Int×Int} {qs:List Addr} {ps:List (Int×Int)}:SqT K H q [.int p.1,.int p.2]->xR K H qs ps->xR K H (q::qs) (p::ps)
theorem xR.dvs:∀{qs:List Addr}{ps:List (Int×Int)},xR K H qs ps->DVs K H (qs.map V.ref) (ps.map prD)
 |_,_,.nil=> .nil
 |_,_,.cons h t=> .cons (.tup h (.cons (.int _) (.cons (.int _) .nil))) (xR.dvs t)
section
def b0X (K:W.Frag)(f:Bool->Bool):R2:=fun x y H Q=>vR x fun t=>vR y fun l=>∃(p:Int×Int)(ps:List (Int×Int))(qs:List Addr),SqT K H t [.int p.1,.int p.2]/\SqL K H l (qs.map V.ref)/\xR K H qs ps/\Q (.bl (f (decide (p∈ps)))) H
def b0X.to {f:Bool->Bool}:∀x y H Q,b0X K f x y H Q->b8H K f x y H Q:=fun x y H Q h=>by
 obtain⟨t,rfl,hh⟩:=vR.ex h
 obtain⟨l,rfl,p,ps,qs,h1,h2,h3,q⟩:=vR.ex hh
 refine⟨prD p,ps.map prD,qs.map V.ref,.tup h1 (.cons (.int _) (.cons (.int _) .nil)),h2,h3.dvs,qK p,fun e he=>?_,?_⟩
 ·obtain⟨z,_,rfl⟩:=YD.mp he
  exact qK z
 ·rw[b0D];exact q
def b6N (hu:X.A.in1.units+64<cLine):OpR X (compareOp .In) (b0X X.K id):=(b6O hu).imp b0X.to
end
end L2
namespace L2
open PySem
variable {K:W.Frag}{a:Addr}
def cX.units1 {k:Nat}{A:Around}(r:cX k A):A.in1.units+64<cLine:=by have:=r.un;show A.units+1+64<_;omega
def Same.seqT {H H':Hp}{xs:List V}(e:Same H H')(h:SqT K H a xs):SqT K H' a xs:=by
 rcases h with (h | ⟨o,h⟩) | h
 ·exact .inl (.inl (e _ _ h))
 ·exact .inl (.inr ⟨o,e _ _ h⟩)
 ·exact .inr h
def zT (K:W.Frag)(a:Addr)(ns:List Int):Prop:=∃(o:Obj)(its:Array Value)(n:Nat),K.lookup a=some o/\o.cls= .type "tuple"/\o.data= .seq its n/\its.size<=sizeLine/\Vals (ns.map V.int) its.toList
def zT.of {od:Option Addr}{sl:Array (Option Value)}{n:Nat}{its:Array Value}{ns:List Int}(h:K.lookup a=some ⟨.type "tuple",od,.seq its n,sl⟩)(hs:its.size<=sizeLine)(hv:Vals (ns.map V.int) its.toList):zT K a ns:=⟨_,its,n,h,rfl,rfl,hs,hv⟩
def zT.sq {ns:List Int}(h:zT K a ns)(H:Hp):SqT K H a (ns.map V.int):= .inr h
end L2
namespace L2
open PySem PySem.Spec PyProof.Rows
variable {X:Cx}{o:Expr}{e:Expr}{to:TE}{t:TA}{apos:Pos}{cpos:Pos}
def fX {s:Stmt}:PS X s (fun _ _ _=>False):=fun _ _ _ _ _ _ h=>h.elim
section
end
section
end
section
end
end L2
namespace L2
open PySem PySem.Spec PyProof.Rows PySem.MeetsSeq PySem.SeqAt
section
variable {X:Cx}{o e:Expr}{to:TE}{t:TA}{apos cpos:Pos}
end
end L2
namespace L2
open PySem PySem.Spec PyProof.Rows
variable {w:World}{X:Cx}
set_option maxRecDepth 100000
section
variable {prog:Program}{A:Around}{I:Addr}{fp wr:List Addr}{n:Nat}{P:Nat->Value->Prop}{St:Nat->Heap->Prop}{d:Value}
end
section
variable {prog:Program}{A:Around}{E:Value->Shared->Prop}{s:Shared}
end
section
end
def uY:bootBuiltins "enumerate"=some (.type "enumerate"):=by decide +kernel
section
variable {pins:List (Addr×Obj)}{σ:St}{H:Hp}{s:Shared}
theorem Inv.turnedT {h':Heap}{t':Nat}{fp:List Addr}{T:Addr}{xs:List V}(I:Inv X pins σ H s)(hf:∀b∈fp,pI X pins H b)(k:∀b o,b∉fp->s.heap.get? b=some o->h'.get? b=some o)(hT:s.heap.objs.size<=T)
  (new:eE X.prog X.w (upd H T (.tup xs)) h' T (.tup xs)):Inv X pins σ (upd H T (.tup xs)) { s with heap:=h',toks:=t' }:=by
 have hN:H T=none:=I.hok.fresh hT
 have neT:∀b o,s.heap.get? b=some o->b≠T:=fun b o e z=>by
  have:=Ym e
  rw[z]at this
  exact absurd (Ye this hT) (YW _)
 have up:∀b u,H b=some u->upd H T (.tup xs) b=some u:=fun b u e=>by rw[aH (aJ e hN)];exact e
 have nit:∀b u,H b=some u->b∉fp:=fun b u e z=>by rw[(hf b z).1]at e;cases e
 refine I.step (g':=s.gens) (d':=s.drawn) (ch:=fp) (fun b hb=>?_) (fun b o _ _ hc e _=>k b o hc e) (fun b o _ _ hc e _=>⟨o.slots,k b o hc e⟩) (fun b o _ e n=>by rw[aH (neT b o e)];exact n)
  (fun b o hc e=>⟨o,k b o hc e⟩) (fun b _ e=>up b _ e) (fun b _ _ e=>up b _ e) (fun b ps e=>⟨#[],by rw[up b _ e];simp⟩) (fun m hm=>?_) (fun b u e=>?_) I.bare
 ·obtain⟨f0,f1,f2,f3,f4,f5⟩:=hf b hb
  exact⟨f3,f1,f4,f5⟩
 ·obtain⟨o,es,ep,ho,r⟩:=hm
  exact⟨o,es,ep,k _ o (fun z=>(hf _ z).2.1 rfl) ho,r⟩
 ·by_cases hb:b=T
  ·subst hb
   rw[aB]at e
   cases e
   exact new
  ·rw[aH hb]at e
   refine(I.hok b u e).stay (fun c v hc q=>k c v ?_ q) (fun _ q=>up _ _ q) fun _ _ q=>up _ _ q
   rcases hc with z | z
   ·rw[z];exact nit b u e
   ·exact nit c _ z
end
def Ite (K:W.Frag)(a:Addr):It:=
 ⟨fun i H=>∃xs x,SqL K H a xs/\xs[i]? =some x,fun i H v H'=>∃p x,H p=none/\v= .ref p/\(∀xs,SqL K H a xs->xs[i]? =some x)/\H'=upd H p (.tup [.int ((i:Nat):Int),x]),fun i H=>∃xs,SqL K H a xs/\xs.length<=i⟩
def a1V {P:Program}{K:W.Frag}{elts:List Expr}{k':Nat}{pos:Pos}(a e it:Addr)(hei:e≠it):
  Turn P w K (.Tuple elts k' pos) (Ite K a) [e,it] e (fun i h=>(∃old,IsEnum h e it ((i:Nat):Int) old)/\h.IsListIter it a i) where
 mem:=by simp
 obj := fun i h st b hb=>by
  obtain⟨⟨old,he⟩,o,e1,c,d⟩:=st
  simp only[Yt,XM,or_false]at hb
  rcases hb with rfl | rfl
  ·exact⟨_,he,fun v z=>by
    have z':Data.fields _=Data.cell v:=z
    cases z'⟩
  ·exact⟨o,e1,fun v z=>by rw[d]at z;cases z⟩
 keep:=fun i h h' st k=>by
  obtain⟨⟨old,he⟩,hit⟩:=st
  exact⟨⟨old,k e (by simp) _ he⟩,hit.at fun o x=>k it (by simp) o x⟩
 item :=by
  intro X hP hw hK hc i pins s σ H E I hf st hg
  subst hP hw hK
  obtain⟨⟨old,he⟩,hit⟩:=st
  obtain⟨xs,x,hq,hx⟩:=hg
  obtain⟨its,rv,p,hz⟩:=I.list hq
  obtain⟨u,hu,ru⟩:=rv.get hx
  refine wpAny_pyNext_enum_item he hit p.isList (x:=u) (by simpa using hu) hei fun h1 ho hit1 hT hsz hk=>?_
  refine⟨_,rfl,wpAny_letOwnedTupleGo_enum (s:={ s with heap:=h1,toks:=s.toks+1 }) ho fun h2 he2 hs2=>?_⟩
  have hs2':Heap.SameBut e h1 h2:=hs2
  have eT:e≠s.heap.objs.size:=Yy (Ym he)
  have iT:it≠s.heap.objs.size:=by obtain⟨o,e1,_⟩:=hit;exact Yy (Ym e1)
  have hN:H s.heap.objs.size=none:=I.hok.fresh (Yf _)
  refine⟨.ref s.heap.objs.size,upd H s.heap.objs.size (.tup [.int ((i:Nat):Int),x]),I.turnedT hf (fun b o hb q=>?_) (Yf _) ?_,rfl,⟨_,x,hN,rfl,fun ys hy=>by rw[I.list_inj hy hq];exact hx,rfl⟩,⟨⟨u,?_⟩,?_⟩,fun b hb=>?_⟩
  ·have b1:b≠e:=fun z=>hb (by simp[z])
   have b2:b≠it:=fun z=>hb (by simp[z])
   exact(hs2'.2 b b1).trans (hk b o b1 b2 q)
  ·exact⟨(by show 2<=sizeLine;decide), [.int ((i:Nat):Int) s.toks,u],.cons ⟨_,rfl⟩ (.cons ru .nil),⟨_,(hs2'.2 _ (Va eT)).trans hT,rfl,_,rfl⟩⟩
  ·have:((i+1:Nat):Int)=((i:Nat):Int)+1:=by push_cast;rfl
   rw[this];exact he2
  ·exact hit1.at fun o y=>(hs2'.2 it (Va hei)).trans y
  ·have h1:=(hf b hb).1
   have:b≠s.heap.objs.size:=by
    simp only[Yt,XM,or_false]at hb
    rcases hb with rfl | rfl
    ·exact eT
    ·exact iT
   rw[aH this];exact h1
 done:=by
  intro X hP hw hK hc i pins s σ H E I hf st hg
  subst hP hw hK
  obtain⟨⟨old,he⟩,hit⟩:=st
  obtain⟨xs,hq,hx⟩:=hg
  obtain⟨its,rv,p,hz⟩:=I.list hq
  obtain⟨f0,f1,f2,f3,f4,f5⟩:=hf it (by simp)
  have hl:=rv.length
  exact wpAny_pyNext_enum_end (I.ok.hd hc) he hit p.isList (Array.getElem?_eq_none (by simp;omega)) fun h' eb=>⟨rfl,I.turned (t':=s.toks) (fun b o hb e=>eb b o hb e) f0 f1 f3 f4 f5⟩
 self:=fun _ _ _ _ _ st h=>by
  obtain⟨⟨old,he⟩,_⟩:=st
  exact wpAny_pyIter_enum he h
section
def b8X (K:W.Frag)(ta:TA):TI:=fun σ H R=>ta σ H fun vs H1=>l1 vs fun x=>vR x fun a=>(∃xs,SqL K H1 a xs)/\R (Ite K a) H1
def b0U {a:Expr}{ta:TA}{p pos tpos:Pos}{elts:List Expr}{k':Nat}(hg:Gl X "enumerate")(hm:X.mg "enumerate"=none)(ha:PA X [a] ta)(hs:starEach [a] X.env= [(false,eval a X.env)]:=by rfl):
  PI X (.Tuple elts k' tpos) (.Call (.Name "enumerate" p) [a] [] pos) (b8X X.K ta):=by
 intro pins s σ H R I h
 refine Call_ (qR I hg hm uY (PyProof.Rows.callWith_type1 (thn (ha pos pins s σ H _ I h) fun us s1 hz9=>?_) hs rfl))
 obtain⟨vs,H1,I1,r1,q1⟩:=hz9
 obtain⟨x,rfl,q1⟩:=l1.ex q1
 obtain⟨l,rfl,⟨xs,hq⟩,q⟩:=vR.ex q1
 obtain⟨u,rfl,ru⟩:=vals1 r1
 cases ru
 obtain⟨its,rv,pl,hz⟩:=I1.list hq
 refine call_enumerate_list pl.isList fun h' he hit hsz hk=>?_
 refine wpAny_pyIter_enum (s:={ s1 with heap:=h' }) he ?_
 have I2:Inv X pins σ H1 { s1 with heap:=h' }:=I1.kept (t':=s1.toks) hk
 refine⟨s1.heap.objs.size+1, [s1.heap.objs.size+1,s1.heap.objs.size],_,_,H1,rfl,I2,a1V l _ _ (Nat.succ_ne_self _),⟨⟨_,he⟩,hit⟩,fun b hb=>?_,q⟩
 simp only[Yt,XM,or_false]at hb
 rcases hb with rfl | rfl
 ·exact I1.fpOk (Xv _) (I1.hok.fresh (Xv _))
 ·exact I1.fpOk (Yf _) (I1.hok.fresh (Yf _))
end
def gT2 (K:W.Frag)(i j:Nat):TG:=fun v σ H Q=>vR v fun a=>∃x y,SqT K H a [x,y]/\Q ((σ.set i (some x)).set j (some y)) H
def mg2 {tg:Expr}{i j:Nat}(h:PG X tg (b8N X.K 2 (a7X (xG i) (a7X (xG j) b8O)))):PG X tg (gT2 X.K i j):=by
 intro pins s σ H v u Q I r q
 obtain⟨a,rfl,x,y,h1,h2⟩:=vR.ex q
 exact h pins s σ H _ u Q I r ⟨a,_,rfl,h1,rfl,_,_,rfl,_,_,rfl,rfl,h2⟩
theorem a7Y {K:W.Frag}{a:Addr}{xs:List V}{g:TG}{tb:TS}{D:Ends}{σ:St}{H:Hp}(Pv:Nat->St->Hp->Prop)(h0:Pv 0 σ H)(hl:∀i σ H,i<=xs.length->Pv i σ H->SqL K H a xs)
  (hs:∀i x σ H p,xs[i]? =some x->Pv i σ H->H p=none->g (.ref p) σ (upd H p (.tup [.int ((i:Nat):Int),x])) fun σ2 H2=>tb { D with nx:=Pv (i+1),ct:=Pv (i+1),bk:=D.nx } σ2 H2) (hd:∀σ H,Pv xs.length σ H->D.nx σ H) :
  ∃ W:Nat->Nat->St->Hp->Prop,(∃m,W 0 m σ H)/\∀i m σ H,W i m σ H->
   ((Ite K a).stop i H/\D.nx σ H)\/((Ite K a).go i H/\∃N:St->Hp->Prop,(∀σ' H',N σ' H'->∃m',m'<m/\W (i+1) m' σ' H')/\∀x H',(Ite K a).yld i H x H'->g x σ H' fun σ2 H2=>tb { D with nx:=N,ct:=N,bk:=D.nx } σ2 H2):=by
 refine⟨fun i m σ H=>m=xs.length-i/\i<=xs.length/\Pv i σ H,⟨xs.length,by simp,YO _,h0⟩,?_⟩
 rintro i m σ H ⟨rfl,hi,p⟩
 have q:=hl i σ H hi p
 by_cases hlt:i<xs.length
 ·refine .inr ⟨⟨xs,xs[i],q,by simp[hlt]⟩,Pv (i+1),fun σ' H' p'=>⟨xs.length-(i+1),by omega,rfl,hlt,p'⟩,?_⟩
  rintro v H' ⟨t,x,ht,rfl,hx,rfl⟩
  exact hs i x σ H t (hx xs q) p ht
 ·have e:i=xs.length:=by omega
  subst e
  exact .inl ⟨⟨xs,q,Yf _⟩,hd σ H p⟩
section
end
end L2
namespace L2
open PySem PySem.Spec PyProof.Rows
open PySem.SeqAt PySem.AutoSeq1 MeetsSeq MeetsSeq2 MeetsSeq3 SeqRoads2
section
variable {X:Cx}
end
section
variable {X:Cx}{o e:Expr}{to:TE}{t:TA}{apos cpos:Pos}
end
variable {X:Cx}
def rQ (A:Around)(s:Shared)(y x:Value)(b:Bool):Prop:=
 ∀(prog:Program)(w:World)(E:Value->Shared->Prop)(Q:Value->Shared->Prop),Q (.bool b) s->wpAny (model prog w) A (richCompare .LtE y x) Q E s
def yF (l b:Addr)(items items2:Array Value)(n n2:Nat)(dd dd2:Option Addr)(sl sl2:Array (Option Value))(t:Nat)(c:Bool)(t1:t<items.size)(t2:t<items2.size):
  Meets (Builtin.«tuple.__le__» ⟨[.ref l,.ref b], []⟩)
   (fun A R s=>s.heap.get? l=some { cls:= .type "tuple",dict:=dd,data:= .seq items n,slots:=sl }/\s.heap.get? b=some { cls:= .type "tuple",dict:=dd2,data:= .seq items2 n2,slots:=sl2 }/\
    (∀j (h1:j<items.size)(h2:j<items2.size),j<t->EqAt A.in1 s items[j] items2[j] true)/\EqAt A.in1 s items[t] items2[t] false/\rQ A.in1 s items[t] items2[t] c/\
    R (.ok (.ret (.bool c))) s):=
 .of_wp fun prog w A R s h=>by
  obtain⟨hp,g,d,tk,os⟩:=s;obtain⟨hl,hb,he,h0,hg,h⟩:=h
  have f2:=AutoSeq1.sub_tuple_tuple
  have hZ:(items.toList.zip items2.toList).length=min items.size items2.size:=by simp
  wp_walk using wpAny_loadPart' hl,wpAny_loadPart' hb,wpAny_forIn_list _ (fun rest b s'=>b.1=none/\s'=⟨hp,g,d,tk,os⟩/\∃i,i<=t/\rest=(items.toList.zip items2.toList).drop i) _
  case turn=>
   rintro ⟨y,x⟩ rest b s' ⟨hb',rfl,i,hit,hz⟩
   have h1:i<items.size:=by omega
   have h2:i<items2.size:=by omega
   have hlt:i<(items.toList.zip items2.toList).length:=by omega
   rw[List.drop_eq_getElem_cons hlt]at hz
   injection hz with hyx hrest
   have hy:y=items[i]:=by have:=YJ Prod.fst hyx;simpa using this
   have hx:x=items2[i]:=by have:=YJ Prod.snd hyx;simpa using this
   subst hy hx
   by_cases e0:i=t
   ·subst e0
    refine YY (h0 prog w _ _ ?_)
    have hg':∀(E:Value->Shared->Prop)(Q:Value->Shared->Prop),Q (.bool c) ⟨hp,g,d,tk,os⟩->wpAny (model prog w) A.in1 (richCompare .LtE items[i] items2[i]) Q E ⟨hp,g,d,tk,os⟩:=hg prog w
    generalize richCompare CmpOp.LtE items[i] items2[i]=rc at hg' ⊢
    wp_walk using hg' _ _
    exact⟨_,rfl,h⟩
   ·refine YY (he i h1 h2 (by omega) prog w _ _ ?_)
    wp_walk
    exact⟨rfl,rfl,i+1,by omega,hrest⟩
  case fin=>
   rintro ⟨b1,b2⟩ s' ⟨hb',rfl,i,hit,hz⟩
   have hlt:i<(items.toList.zip items2.toList).length:=by omega
   rw[List.drop_eq_getElem_cons hlt]at hz
   cases hz
  case h=>
   exact⟨rfl,rfl,0,YO _,rfl⟩
theorem rQ.tuples {A:Around}{s:Shared}{l b:Addr}{items items2:Array Value}{t:Nat}{c:Bool}(hl:s.heap.IsTuple l items)(hb:s.heap.IsTuple b items2)(t1:t<items.size)(t2:t<items2.size)(hu:A.units<cLine)
  (he:∀j (h1:j<items.size)(h2:j<items2.size),j<t->EqAt A.in1 s items[j] items2[j] true) (h0:EqAt A.in1 s items[t] items2[t] false) (hg:rQ A.in1 s items[t] items2[t] c):rQ A s (.ref l) (.ref b) c:=fun prog w E Q h=>by
 obtain⟨⟨cls,dd,data,sl⟩,ho,hc,n,hd⟩:=id hl
 obtain⟨⟨cls2,dd2,data2,sl2⟩,ho2,hc2,n2,hd2⟩:=id hb
 simp only at hc hd hc2 hd2
 subst hc hd hc2 hd2
 exact richCompare_meets_room (op:= .LtE) ⟨_,ho,rfl⟩ ⟨_,ho2,rfl⟩ F.slot_tuple_le F.entry_tuple_le (F.args_tuple_le_2 _ _) (yF l b items items2 n n2 dd dd2 sl sl2 t c t1 t2)
  ⟨ho,ho2,he,h0,hg,show Value.bool c≠Value.notImplemented/\Q (.bool c) s from ⟨(fun x=>nomatch x),h⟩⟩ hu
def rQ.ints {A:Around}{s:Shared}(a b:Int)(t u:Tok):rQ A s (.int a t) (.int b u) (decide (a<=b)):=fun prog w E Q h=>le_int (t:=t) (u:=u) (w:=w) (prog:=prog) (A:=A) (E:=E) h
def c0J (K:W.Frag):R2:=fun x y H Q=>vR x fun p=>vR y fun p'=>∃(i j k l:Int),SqT K H p [.int i,.int j]/\SqT K H p' [.int k,.int l]/\(k<i\/(k=i/\l<j))/\Q (.bl false) H
section
def b6M (hu:X.A.in1.units+64<cLine):OpR X (compareOp .LtE) (c0J X.K):=by
 intro pins s σ H x y v u Q I rx ry h
 obtain⟨p,rfl,h9⟩:=vR.ex h
 clear h
 obtain⟨p',rfl,i,j,k,l,h1,h2,lx,q⟩:=vR.ex h9
 cases rx
 cases ry
 obtain⟨its,rv,⟨o,e,c,n,dt⟩,_⟩:=I.tuple h1
 obtain⟨its',rv',⟨o',e',c',n',dt'⟩,_⟩:=I.tuple h2
 rcases rv with _ | ⟨r1,rv⟩
 rcases rv with _ | ⟨r2,rv⟩
 cases rv
 rcases rv' with _ | ⟨r1',rv'⟩
 rcases rv' with _ | ⟨r2',rv'⟩
 cases rv'
 obtain⟨t1,rfl⟩:=r1
 obtain⟨t1',rfl⟩:=r1'
 obtain⟨t2,rfl⟩:=r2
 obtain⟨t2',rfl⟩:=r2'
 have hT:s.heap.IsTuple p _:=⟨o,e,c,n,dt⟩
 have hT':s.heap.IsTuple p' _:=⟨o',e',c',n',dt'⟩
 have u1:X.A.in1.units=X.A.units+1:=rfl
 have ne:∀{a b:Int}{t t':Tok},a≠b->EqAt X.A.in1 s (.int a t) (.int b t') false:=fun {a b t t'} z=>by
  have:=EqAt.int_int (A:=X.A.in1) (s:=s) a t b t'
  rw[show (a == b)=false from by simpa using z]at this
  exact this
 have le:∀{a b:Int}{t t':Tok},b<a->rQ X.A.in1 s (.int a t) (.int b t') false:=fun {a b t t'} z=>by
  have:=rQ.ints (A:=X.A.in1) (s:=s) a b t t'
  rw[Yr (by omega)]at this
  exact this
 show wpAny _ _ (richCompare .LtE _ _) _ _ _
 rcases lx with lt | ⟨rfl,lt⟩
 ·exact rQ.tuples (A:=X.A) (t:=0) (c:=false) hT hT' (by simp) (by simp) (by omega) (fun j h1 h2 hj=>absurd hj (Nat.not_lt_zero _)) (ne (by omega)) (le lt) _ _ _ _ ⟨.bl _,H,I,rfl,q⟩
 ·refine rQ.tuples (A:=X.A) (t:=1) (c:=false) hT hT' (by simp) (by simp) (by omega) (fun j h1 h2 hj=>?_) (ne (by omega)) (le lt) _ _ _ _ ⟨.bl _,H,I,rfl,q⟩
  have:j=0:=by omega
  subst this
  have:=EqAt.int_int (A:=X.A.in1) (s:=s) k t1 k t1'
  rw[show (k == k)=true from beq_self_eq_true k]at this
  exact this
end
end L2
namespace L2
open PySem PySem.W PyProof.Rows
section
variable {N:Nat}{K:Nat->Nat}{cmp:Nat->Nat->(Bool->Shared->Prop)->Shared->Prop}{s:Shared}
end
section
variable {prog:Program}{w:World}{A:Around}{E:Value->Shared->Prop}{s:Shared}
end
section
variable {X:Cx}
end
end L2
namespace L2
open PySem PySem.Spec PyProof.Rows
section
variable {X:Cx}{scope:Scope}{cl:List (Str×Addr)}{x:Str}{ix:List Nat}{C:Addr}{fp:List Addr}
end
section
variable {X:Cx}{scope:Scope}{cl:List (Str×Addr)}{x:Str}{ix:List Nat}{elt iter:Expr}{ifs:List Expr}{pos px:Pos}{wi:TI}{tt:TT}{te:TE}
end
variable {X:Cx}{x:Str}{C:Addr}{pos:Pos}{o:Expr}{e:Expr}{es:List Expr}{ta:TE}{t:TA}{apos:Pos}{m:Str}{k:Nat}{fa:Addr}{fd:FuncData}{ps:List Str}{sp:Sp}{dvs:List V}{ds:List Value}
structure b3A (K:W.Frag)(C:Addr)(m:Str)(f:Addr):Prop where
 ga:W.specialIn K (.ref C) "__getattribute__"=some (some (.builtin "type.__getattribute__"))
 rd:W.readsIn K C (.type "type")=true
 at_:W.findCls K (.ref C) (.type "type") m=some (.val (.ref f))
 kp:W.keepIn K (.ref f)=true
section
variable {value:Expr}{to tv:TE}{cpos pos':Pos}{f:Str}
variable {CX:CXT}{E:XK}
def b5V (C:Addr)(sp:Sp)(dvs:List V)(E:XK)(ta:TE)(t:TA):TE:=fun σ H Q=>ta σ H fun x H1=>x= .ref C/\t σ H1 fun vs H2=>sp (vs++dvs) H2 Q E
theorem wN {pl:Sem Bool}(hm:b3A X.K C m fa)(F:fV X.prog X.w X.K X.mg X.base CX k fa fd ps sp)(hr:cX k X.A)(hb:Binds X.K fd ps ds)(hd:Vals dvs ds)(hx:gJ CX X E)(he:PE X o ta)(ha:PA X (e::es) t)
  (hst:starEach (e::es) X.env=(false,eval e X.env)::starEach es X.env:=by rfl) (hpl:(backTo pos (starEach es X.env)).any (·.1)=false:=by rfl)
  (ht:eval (.Call (.Attribute o m apos) (e::es) [] pos) X.env=(do
   let ov<-eval o X.env
   standAt apos.atName
   let (f,first)<-holding [ov] (getMethod ov m pl)
   callWith pos f first (backTo pos (starEach (e::es) X.env)) (backToKw pos (keywordEach [] X.env))):=by rfl) :
  PE X (.Call (.Attribute o m apos) (e::es) [] pos) (b5V C sp dvs E ta t):=by
 intro pins s σ H Q I h
 refine Xe (pl:=pl) (thn (he pins s σ H _ I h) fun u s1 hz9=>?_) ht
 obtain⟨x,H1,I1,rx,ex,q⟩:=hz9
 subst ex
 obtain rfl:u=Value.ref C:=rx
 refine W.method_cls I1.kIn hm.ga (W.cls_value I1.kIn hm.rd hm.at_ rfl ?_)
 refine XG (first:=[]) (h₀:=X.base) I.ok.mod.kin hm.kp (thn (ha pos pins _ σ H1 _ (I1.tok _) q) fun us s2 ⟨vs,H2,I2,r,q2⟩=>⟨I2.kIn,?_⟩) hst hpl
 exact jR F hr hb hd hx I2 r q2
def b8W (K:W.Frag)(ta:TE)(f:Str):TE:=fun σ H Q=>ta σ H fun x H1=>vR x fun a=>∃C dx fs v,H1 a=some (.ins C dx fs)/\Cls K C/\bL K C f/\fs.lookup f=some v/\Q v H1
def fH (he:PE X e ta)(hb:attributeBase e f X.env (eval e X.env)=eval e X.env:=by rfl):PE X (.Attribute e f pos) (b8W X.K ta f):=
 (a6K (cD he) hb).imp fun σ H Q h=>⟨_,h,fun x H1 q=>by
  obtain⟨a,rfl,C,dx,fs,v,h1,c,n,h2,h3⟩:=vR.ex q
  exact⟨a,C,dx,fs,v,rfl,h1,c,n,h2,h3⟩⟩
def b8S (K:W.Frag)(ta tv:TE)(f:Str):TS:=fun D σ H=>tv σ H fun y H1=>ta σ H1 fun x H2=>vR x fun a=>∃C dx fs,H2 a=some (.ins C dx fs)/\Cls K C/\bL K C f/\fs.length<1000/\D.nx σ (upd H2 a (.ins C dx (gH f y fs)))
def lN (ha:PE X o ta)(hv:PE X value tv)(hs:swapsWith value (some (.Attribute o f pos')) pos.line X.env=pure false:=by rfl):
  PS X (.Assign [.Attribute o f pos'] value pos) (b8S X.K ta tv f):=
 (a6H (cD ha) (cD hv) hs).imp fun D σ H h=>⟨_,h,fun y H1 q=>⟨_,q,fun x H2 q2=>by
  obtain⟨a,rfl,C,dx,fs,h1,c,n,h2,h3⟩:=vR.ex q2
  exact⟨a,C,dx,fs,rfl,h1,c,n,h2,h3⟩⟩⟩
def a8F (K:W.Frag)(m:Str)(fa:Addr)(sp:Sp)(dvs:List V)(E:XK)(ta:TE)(t:TA):TE:=fun σ H Q=>ta σ H fun x H1=>vR x fun a=>(∃C dx fs,H1 a=some (.ins C dx fs)/\Cls K C/\Meth K C m fa/\fs.lookup m=none)/\t σ H1 fun vs H2=>sp (.ref a::(vs++dvs)) H2 Q E
theorem qQ {pl:Sem Bool}(F:fV X.prog X.w X.K X.mg X.base CX k fa fd ps sp)(hr:cX k X.A)(hb:Binds X.K fd ps ds)(hd:Vals dvs ds)(hx:gJ CX X E)(he:PE X o ta)(ha:PA X (e::es) t)
  (hst:starEach (e::es) X.env=(false,eval e X.env)::starEach es X.env:=by rfl) (hpl:(backTo pos (starEach es X.env)).any (·.1)=false:=by rfl)
  (ht:eval (.Call (.Attribute o m apos) (e::es) [] pos) X.env=(do
   let ov<-eval o X.env
   standAt apos.atName
   let (f,first)<-holding [ov] (getMethod ov m pl)
   callWith pos f first (backTo pos (starEach (e::es) X.env)) (backToKw pos (keywordEach [] X.env))):=by rfl) :
  PE X (.Call (.Attribute o m apos) (e::es) [] pos) (a8F X.K m fa sp dvs E ta t):=by
 intro pins s σ H Q I h
 refine Xe (pl:=pl) (thn (he pins s σ H _ I h) fun u s1 hz9=>?_) ht
 obtain⟨x,H1,I1,rx,q⟩:=hz9
 obtain⟨a,rfl,⟨C,dx,fs,ea,c,hm,l⟩,q⟩:=vR.ex q
 obtain rfl:u=Value.ref a:=rx
 refine fB I1 ea c hm l ?_
 refine XG (first:=[.ref a]) (h₀:=X.base) I.ok.mod.kin hm.kp (thn (ha pos pins s1 σ H1 _ I1 q) fun us s2 ⟨vs,H2,I2,r,q2⟩=>⟨I2.kIn,?_⟩) hst hpl
 exact jR (us:= .ref a::us) (vs:= .ref a::vs) F hr hb hd hx I2 (.cons rfl r) q2
theorem sU {pl:Sem Bool}(F:fV X.prog X.w X.K X.mg X.base CX k fa fd ps sp)(hr:cX k X.A)(hb:Binds X.K fd ps ds)(hd:Vals dvs ds)(hx:gJ CX X E)(he:PE X o ta)
  (ht:eval (.Call (.Attribute o m apos) [] [] pos) X.env=(do
   let ov<-eval o X.env
   standAt apos.atName
   let (f,first)<-holding [ov] (getMethod ov m pl)
   callWith pos f first (backTo pos (starEach [] X.env)) (backToKw pos (keywordEach [] X.env))):=by rfl) :
  PE X (.Call (.Attribute o m apos) [] [] pos) (a8F X.K m fa sp dvs E ta yG):=by
 intro pins s σ H Q I h
 refine Xe (pl:=pl) (thn (he pins s σ H _ I h) fun u s1 hz9=>?_) ht
 obtain⟨x,H1,I1,rx,q⟩:=hz9
 obtain⟨a,rfl,⟨C,dx,fs,ea,c,hm,l⟩,q⟩:=vR.ex q
 obtain rfl:u=Value.ref a:=rx
 refine fB I1 ea c hm l ?_
 exact XZ (first:=[.ref a]) I1.kIn hm.kp (jR (us:=[.ref a]) (vs:=[.ref a]) F hr hb hd hx I1 (.cons rfl .nil) q)
end
section
end
section
variable {tg:Expr}
def c1C (K:W.Frag)(tl:TE):TI:=fun σ H R=>tl σ H fun x H1=>vR x fun a=>((∃xs,SqL K H1 a xs)/\R (Itl K a) H1)\/((∃xs,SqT K H1 a xs)/\R (Itt K a) H1)
def b4Z {l:Expr}{tl:TE}(hl:PE X l tl):PI X tg l (c1C X.K tl):=by
 intro pins s σ H R I h
 refine thn (hl pins s σ H _ I h) fun v s1 hz9=>?_
 obtain⟨x,H1,I1,r1,q1⟩:=hz9
 obtain⟨a,e,q⟩:=vR.ex q1
 subst e
 cases r1
 rcases q with ⟨⟨xs,hq⟩,q⟩ | ⟨⟨xs,hq⟩,q⟩
 ·obtain⟨its,rv,p,hz⟩:=I1.list hq
  refine wpAny_pyIter_list p.isList ?_
  refine⟨s1.heap.objs.size, [s1.heap.objs.size],_,_,H1,rfl,I1.kept (t':=s1.toks) fun b o e=>Yg _ e,sE a _,⟨_,Yu _ rfl,rfl,rfl⟩,fun b hb=>?_,q⟩
  have e:b=s1.heap.objs.size:=by simpa using hb
  subst e
  exact I1.fpOk (Yf _) (I1.hok.fresh (Yf _))
 ·obtain⟨its,rv,p,hz⟩:=I1.tuple hq
  refine wpAny_pyIter_tuple (show s1.heap.IsTuple a its.toArray from p) ?_
  refine⟨s1.heap.objs.size, [s1.heap.objs.size],_,_,H1,rfl,I1.kept (t':=s1.toks) fun b o e=>Yg _ e,yD a _,⟨_,Yu _ rfl,rfl,rfl⟩,fun b hb=>?_,q⟩
  have e:b=s1.heap.objs.size:=by simpa using hb
  subst e
  exact I1.fpOk (Yf _) (I1.hok.fresh (Yf _))
end
theorem a8H {K:W.Frag}{a:Addr}{xs:List V}{tt:TT}{te:TE}{σc:V->St}{H:Hp}{Q:VK}(Pv:Nat->List V->Hp->Prop)(hn:∀i ys H,i<=xs.length->Pv i ys H->ys.length<sizeLine)(h0:Pv 0 [] H)
  (hl:∀i ys H,i<=xs.length->Pv i ys H->SqT K H a xs)
  (hs:∀i x ys H,xs[i]? =some x->Pv i ys H->tt (σc x) H fun b H3=>if b=true then te (σc x) H3 fun y H4=>Pv (i+1) (ys++[y]) H4 else Pv (i+1) ys H3)
  (hd:∀ys H,Pv xs.length ys H->∀p,H p=none->Q (.ref p) (upd H p (.lst ys))):rD (Itt K a) tt te σc H Q:=by
 refine⟨fun i m ys H=>m=xs.length-i/\i<=xs.length/\Pv i ys H,⟨xs.length,by simp,YO _,h0⟩,?_⟩
 rintro i m ys H ⟨rfl,hi,p⟩
 have q:=hl i ys H hi p
 refine⟨hn i ys H hi p,?_⟩
 by_cases hlt:i<xs.length
 ·refine .inr ⟨⟨xs,xs[i],q,by simp[hlt]⟩,Pv (i+1),fun ys' H' q=>⟨xs.length-(i+1),by omega,rfl,hlt,q⟩,fun x H' y=>?_⟩
  obtain⟨e,y⟩:=y
  subst e
  exact hs i x ys _ (y xs q) p
 ·have e:i=xs.length:=by omega
  subst e
  exact .inl ⟨⟨xs,q,Yf _⟩,hd ys H p⟩
theorem a8I {K:W.Frag}{a:Addr}{xs:List V}{tt:TT}{te:TE}{σc:V->St}{H:Hp}{Q:VK}(h:SqA K H a xs)(Pv:Nat->List V->Prop)(hn:∀i ys,i<=xs.length->Pv i ys->ys.length<sizeLine)(h0:Pv 0 [])
  (hs:∀i x ys,xs[i]? =some x->Pv i ys->tt (σc x) H fun b H3=>if b=true then te (σc x) H3 fun y H4=>Pv (i+1) (ys++[y])/\H4=H else Pv (i+1) ys/\H3=H)
  (hd:∀ys,Pv xs.length ys->∀p,H p=none->Q (.ref p) (upd H p (.lst ys))):((∃xs,SqL K H a xs)/\rD (Itl K a) tt te σc H Q)\/((∃xs,SqT K H a xs)/\rD (Itt K a) tt te σc H Q):=by
 rcases h with h | h
 ·refine .inl ⟨⟨_,h⟩,gQ (xs:=xs) (fun i ys H'=>Pv i ys/\H'=H) (fun i ys H' hi z=>hn i ys hi z.1) ⟨h0,rfl⟩ (fun i ys H' hi z=>by rw[z.2];exact h) ?_ ?_⟩
  ·rintro i x ys H' hx ⟨z,rfl⟩
   exact hs i x ys hx z
  ·rintro ys H' ⟨z,rfl⟩
   exact hd ys z
 ·refine .inr ⟨⟨_,h⟩,a8H (xs:=xs) (fun i ys H'=>Pv i ys/\H'=H) (fun i ys H' hi z=>hn i ys hi z.1) ⟨h0,rfl⟩ (fun i ys H' hi z=>by rw[z.2];exact h) ?_ ?_⟩
  ·rintro i x ys H' hx ⟨z,rfl⟩
   exact hs i x ys hx z
  ·rintro ys H' ⟨z,rfl⟩
   exact hd ys z
def MOk (P:Program)(w:World)(K:W.Frag)(mg:Str->Option Value)(base:Heap)(CX:CXT)(k:Nat)(C:Addr)(m:Str)(sp:Sp):Prop:=
 ∃fa fd ps,Cls K C/\Meth K C m fa/\fV P w K mg base CX k fa fd ps sp/\Binds K fd ps []
section
variable {value:Expr}{to tv:TE}{cpos pos' p:Pos}{f:Str}
variable {CX:CXT}{E:XK}{R:Addr->Sp->Prop}
def a8G (R:Addr->Sp->Prop)(m:Str)(E:XK)(ta:TE)(t:TA):TE:=fun σ H Q=>ta σ H fun x H1=>vR x fun a=>∃C dx fs sp,H1 a=some (.ins C dx fs)/\fs.lookup m=none/\R C sp/\t σ H1 fun vs H2=>sp (.ref a::vs) H2 Q E
theorem wM {pl:Sem Bool}(hR:∀C sp,R C sp->MOk X.prog X.w X.K X.mg X.base CX k C m sp)(hr:cX k X.A)(hx:gJ CX X E)(he:PE X o ta)(ha:PA X (e::es) t)
  (hst:starEach (e::es) X.env=(false,eval e X.env)::starEach es X.env:=by rfl) (hpl:(backTo pos (starEach es X.env)).any (·.1)=false:=by rfl)
  (ht:eval (.Call (.Attribute o m apos) (e::es) [] pos) X.env=(do
   let ov<-eval o X.env
   standAt apos.atName
   let (f,first)<-holding [ov] (getMethod ov m pl)
   callWith pos f first (backTo pos (starEach (e::es) X.env)) (backToKw pos (keywordEach [] X.env))):=by rfl) :
  PE X (.Call (.Attribute o m apos) (e::es) [] pos) (a8G R m E ta t):=by
 intro pins s σ H Q I h
 refine Xe (pl:=pl) (thn (he pins s σ H _ I h) fun u s1 hz9=>?_) ht
 obtain⟨x,H1,I1,rx,q⟩:=hz9
 obtain⟨a,rfl,C,dx,fs,sp,ea,l,hC,q⟩:=vR.ex q
 obtain⟨fa,fd,ps,c,hm,F,hb⟩:=hR C sp hC
 obtain rfl:u=Value.ref a:=rx
 refine fB I1 ea c hm l ?_
 refine XG (first:=[.ref a]) (h₀:=X.base) I.ok.mod.kin hm.kp (thn (ha pos pins s1 σ H1 _ I1 q) fun us s2 ⟨vs,H2,I2,r,q2⟩=>⟨I2.kIn,?_⟩) hst hpl
 exact jR (dvs:=[]) (us:= .ref a::us) (vs:= .ref a::vs) F hr hb .nil hx I2 (.cons rfl r) (by rw[YQ];exact q2)
theorem a2W {pl:Sem Bool}(hR:∀C sp,R C sp->MOk X.prog X.w X.K X.mg X.base CX k C m sp)(hr:cX k X.A)(hx:gJ CX X E)(he:PE X o ta)
  (ht:eval (.Call (.Attribute o m apos) [] [] pos) X.env=(do
   let ov<-eval o X.env
   standAt apos.atName
   let (f,first)<-holding [ov] (getMethod ov m pl)
   callWith pos f first (backTo pos (starEach [] X.env)) (backToKw pos (keywordEach [] X.env))):=by rfl) :
  PE X (.Call (.Attribute o m apos) [] [] pos) (a8G R m E ta yG):=by
 intro pins s σ H Q I h
 refine Xe (pl:=pl) (thn (he pins s σ H _ I h) fun u s1 hz9=>?_) ht
 obtain⟨x,H1,I1,rx,q⟩:=hz9
 obtain⟨a,rfl,C,dx,fs,sp,ea,l,hC,q⟩:=vR.ex q
 obtain⟨fa,fd,ps,c,hm,F,hb⟩:=hR C sp hC
 obtain rfl:u=Value.ref a:=rx
 refine fB I1 ea c hm l ?_
 exact XZ (first:=[.ref a]) I1.kIn hm.kp (jR (dvs:=[]) (us:=[.ref a]) (vs:=[.ref a]) F hr hb .nil hx I1 (.cons rfl .nil) q)
structure MkB (K:W.Frag)(C:Addr):Prop where
 makes:W.makesIn K C=true
 init:W.findIn K (.ref C) "__init__"=some (some (.builtin "object.__init__"))
 kp:W.keepIn K (.ref C)=true
def b3J (C:Addr):TE:=fun _ H Q=>∀x dx,H x=none->H dx=none->dx≠x->Q (.ref x) (upd (upd H dx (.own x)) x (.ins C dx []))
def a6J (M:MkB X.K C)(hg:Gl X x)(hm:X.mg x=some (.ref C))(hdb:(x == ("__debug__":Str))=false:=by decide):PE X (.Call (.Name x p) [] [] pos) (b3J C):=by
 intro pins s σ H Q I h
 refine Xf (lQ I hg hm ?_ hdb)
 refine XZ I.kIn M.kp ?_
 have hq:=h (s.heap.objs.size+1) s.heap.objs.size (I.hok.fresh (Xv _)) (I.hok.fresh (Yf _)) (Yy (Xl _))
 have I2:=Inv.made (C:=C) I
 refine wpAny_call (a2Z I.kIn M.makes M.init (fun self=>W.Looks.of_pure (W.oi_bind self)) ?_)
 have Y:=W.makes_of (M:=model X.prog X.w) I.kIn M.makes
 have hx:((s.heap.push W.emptyDict).push (W.instObj C s.heap.objs.size)).get? (s.heap.objs.size+1)=some (W.instObj C s.heap.objs.size):=by
  have:=Yu (s.heap.push W.emptyDict) (o:=W.instObj C s.heap.objs.size) rfl
  rwa [Heap.size_push]at this
 have t1:W.Looks (model X.prog X.w) ((s.heap.push W.emptyDict).push (W.instObj C s.heap.objs.size)) (typeOf (.ref (s.heap.objs.size+1))) (.ref C):=(W.Looks.ld hx).andThen .now
 have t2:W.Looks (model X.prog X.w) ((s.heap.push W.emptyDict).push (W.instObj C s.heap.objs.size)) (isInstance (.ref (s.heap.objs.size+1)) (.type "object")) true:=t1.andThen (Y.top.keeps fun b o e=>Yg _ (Yg _ e))
 refine codeAny_call_builtin W.oi_plain W.entry_oi (@W.check_slot (model X.prog X.w) _ _ _ "object.__init__" "object" "__init__" (.ref (s.heap.objs.size+1)) [] [] _ W.oi_kind W.oi_split t2 (W.oi_args (.ref (s.heap.objs.size+1))) ?_)
 rw[W.oi_run]
 exact Xd (And.intro rfl ⟨V.ref (s.heap.objs.size+1),_,I2,rfl,hq⟩)
end
end L2
namespace L2
open PySem
def cX.mo {j k:Nat}{A:Around}(r:cX k A)(h:j<=k:=by decide):cX j A:=r.mono h
end L2
namespace L2
open PySem PySem.Spec PyProof.Rows
section
variable {X:Cx}{o e e2:Expr}{to:TE}{t:TA}{apos cpos:Pos}
end
section
variable {κ:Type}[DecidableEq κ]
def gZ (kvs:List (κ×V))(k:κ):Option V:=(kvs.find? fun kv=>decide (kv.1=k)).map (·.2)
def putK (kvs:List (κ×V))(k:κ)(v:V):List (κ×V):=
 if (kvs.any fun kv=>decide (kv.1=k))=true then kvs.map (fun kv=>if kv.1=k then (kv.1,v) else kv) else kvs++[(k,v)]
def a4G {k:κ}:gZ ([]:List (κ×V)) k=none:=rfl
def fL {p:κ×V}{r:List (κ×V)}{k:κ}(e:p.1=k):gZ (p::r) k=some p.2:=by simp[gZ,XC,e]
def fM {p:κ×V}{r:List (κ×V)}{k:κ}(e:¬ p.1=k):gZ (p::r) k=gZ r k:=by simp[gZ,XC,e]
theorem mQ (k:κ):∀kvs:List (κ×V),(kvs.any fun kv=>decide (kv.1=k))=(gZ kvs k).isSome
 |[]=>rfl
 | p::r=>by
  rw[Xj]
  by_cases e:p.1=k
  ·simp only[fL e,Yp e,Bool.true_or,Option.isSome_some]
  ·rw[fM e,Yr e,Bool.false_or];exact mQ k r
theorem vP (k j:κ)(y:V):∀kvs:List (κ×V),gZ (kvs.map fun kv=>if kv.1=k then (kv.1,y) else kv) j=(gZ kvs j).map fun x=>if j=k then y else x
 |[]=>rfl
 | p ::r=>by
  have ih:=vP k j y r
  rw[YI]
  by_cases h:p.1=k
  ·rw[if_pos h]
   by_cases e:p.1=j
   ·rw[fL (p:=(p.1,y)) e,fL e,XD,if_pos (e.symm.trans h)]
   ·rw[fM (p:=(p.1,y)) e,fM e,ih]
  ·rw[if_neg h]
   by_cases e:p.1=j
   ·rw[fL (p:=p) e,fL e,XD,if_neg (fun z=>h (e.trans z))]
   ·rw[fM (p:=p) e,fM e,ih]
theorem rZ (k j:κ)(y:V):∀kvs:List (κ×V),gZ kvs k=none->gZ (kvs++[(k,y)]) j=if j=k then some y else gZ kvs j
 | [],_=>by
  by_cases e:k=j
  ·rw[if_pos e.symm];exact fL (p:=(k,y)) e
  ·rw[if_neg (fun z=>e z.symm)];exact fM (p:=(k,y)) e
 | p::r,hn=>by
  rw[List.cons_append]
  have hk:¬ p.1=k:=fun z=>by rw[fL z]at hn;cases hn
  rw[fM hk]at hn
  have ih:=rZ k j y r hn
  by_cases e:p.1=j
  ·rw[fL e,fL e,if_neg (fun z=>hk (e.trans z))]
  ·rw[fM e,fM e,ih]
def vO (kvs:List (κ×V))(k j:κ)(y:V):gZ (putK kvs k y) j=if j=k then some y else gZ kvs j:=by
 unfold putK
 by_cases a:(kvs.any fun kv=>decide (kv.1=k))=true
 ·rw [if_pos a,vP]
  rw[mQ]at a
  by_cases e:j=k
  ·obtain⟨x,hx⟩:=Option.isSome_iff_exists.mp a
   rw[if_pos e,e,hx,XD,if_pos rfl]
  ·rw[if_neg e]
   cases gZ kvs j with
   |none=>rfl
   |some x=>rw[XD,if_neg e]
 ·rw[if_neg a]
  refine rZ k j y kvs ?_
  rw[mQ]at a
  cases q:gZ kvs k with
  |none=>rfl
  |some x=>rw[q]at a;exact(a rfl).elim
def lB (kvs:List (κ×V))(k:κ)(v:V):(putK kvs k v).length<=kvs.length+1:=by
 unfold putK
 split
 ·rw[Ya];omega
 ·rw[Yc,YU,List.length_nil];omega
def lY.isSome_eq {o:Option V}{u:Option Value}(r:lY o u):o.isSome=u.isSome:=by
 cases o with
 | none=>cases u with
  |none=>rfl
  |some _=>exact(show False from r).elim
 | some _=>cases u with
  |none=>exact(show False from r).elim
  |some _=>rfl
def lY.getD {o:Option V}{u:Option Value}{d:V}{d':Value}(r:lY o u)(rd:RelV d d'):RelV (o.getD d) (u.getD d'):=by
 cases o with
 | none=>cases u with
  |none=>exact rd
  |some _=>exact(show False from r).elim
 | some _=>cases u with
  |none=>exact(show False from r).elim
  |some _=>exact r
def KV.val {kvs:List (κ×V)}{vs:List (κ×Value)}(r:KV kvs vs)(k:κ):lY (gZ kvs k) (valueAt vs k):=by
 unfold KV at r
 induction r with
 |nil=>exact True.intro
 | @cons p q ps qs h t ih=>
  obtain⟨h1,h2⟩:=h
  by_cases e:p.1=k
  ·have e':q.1=k:=h1.symm.trans e
   have b:valueAt (q::qs) k=some q.2:=by simp[valueAt,XC,e']
   rw[fL e,b];exact h2
  ·have e':¬ q.1=k:=fun z=>e (h1.trans z)
   have b:valueAt (q::qs) k=valueAt qs k:=by simp[valueAt,XC,e']
   rw[fM e,b];exact ih
def KV.any {kvs:List (κ×V)}{vs:List (κ×Value)}(r:KV kvs vs)(k:κ):(kvs.any fun kv=>decide (kv.1=k))=vs.any fun kv=>decide (kv.1=k):=by
 unfold KV at r
 induction r with
 |nil=>rfl
 |cons h t ih=>rw[Xj,Xj,ih,h.1]
def KV.repl {kvs:List (κ×V)}{vs:List (κ×Value)}(r:KV kvs vs)(k:κ){y:V}{u:Value}(ry:RelV y u):
  KV (kvs.map fun kv=>if kv.1=k then (kv.1,y) else kv) (vs.map fun kv=>if kv.1=k then (kv.1,u) else kv):=by
 unfold KV at r ⊢
 induction r with
 |nil=>exact .nil
 | @cons p q ps qs h t ih=>
  rw[YI,YI]
  refine .cons ?_ ih
  obtain⟨h1,h2⟩:=h
  by_cases e:p.1=k
  ·rw[if_pos e,if_pos (h1.symm.trans e)];exact⟨h1,ry⟩
  ·rw[if_neg e,if_neg (fun z=>e (h1.trans z))];exact⟨h1,h2⟩
def KV.put {kvs:List (κ×V)}{vs:List (κ×Value)}(r:KV kvs vs)(k:κ){y:V}{u:Value}(ry:RelV y u):KV (putK kvs k y) (stored vs k u):=by
 unfold putK stored
 rw[r.any k]
 by_cases e:(vs.any fun kv=>decide (kv.1=k))=true
 ·rw[if_pos e,if_pos e];exact r.repl k ry
 ·rw[if_neg e,if_neg e];exact Paired.snoc r ⟨rfl,ry⟩
def KV.length {kvs:List (κ×V)}{vs:List (κ×Value)}(r:KV kvs vs):kvs.length=vs.length:=Paired.length r
end
variable {o:Option V}{kvs:List (List Key×V)}{y:V}{u:Value}{P:Program}{w:World}{H:Hp}{xs:List (List Key×Addr×Value)}{b:Addr}{H':Hp}{Q:Value->Shared->Prop}{h':Heap}{X:Cx}{pins:List (Addr×Obj)}{σ:St}{s:Shared}{a:Addr}{cs:List Addr}{cl:List (Str×Addr)}{qual:Str}{c':Addr}{f:Addr}{params:Arguments}{body:Expr}{scope:Scope}{K:W.Frag}{i:Nat}{e:Expr}{t:TA}{A:Around}{E:Value->Shared->Prop}{pos:Pos}
def a0X {k:Key}(r:RelV (kV k) u):(eZ P w).is k u=true:=by
 cases k with
 |inl i=>obtain⟨t,e⟩:=(show ∃t,u=Value.int i t from r);subst e;exact wL P w i t
 |inr x=>obtain⟨t,e⟩:=(show ∃t,u=Value.str x t from r);subst e;exact wK P w x t
theorem sY:∀{ks:List Key}{us:List Value},Vals (ks.map kV) us->ItemsAre (eZ P w) ks us
 |[],_,r=>by rw[List.map_nil]at r;cases r;exact .nil
 | k::ks,_,r=>by
  rw[YI]at r
  cases r with
  |cons h t=>exact .cons (a0X h) (sY t)
abbrev KT (H:Hp):List (List Key×V)->List (List Key×Addr×Value)->Prop:=Paired fun p q=>p.1=q.1/\H q.2.1=some (.tup (p.1.map kV))/\RelV p.2 q.2.2
def KT.val (r:KT H kvs xs)(k:List Key):lY (gZ kvs k) ((atKey xs k).map (·.2)):=by
 induction r with
 |nil=>exact True.intro
 | @cons p q ps qs h t ih=>
  obtain⟨h1,_,h2⟩:=h
  by_cases e:p.1=k
  ·have e':q.1=k:=h1.symm.trans e
   have b:atKey (q::qs) k=some q.2:=by simp[atKey,XC,e']
   rw[fL e,b];exact h2
  ·have e':¬ q.1=k:=fun z=>e (h1.trans z)
   have b:atKey (q::qs) k=atKey qs k:=by simp[atKey,XC,e']
   rw[fM e,b];exact ih
def KT.repl (r:KT H kvs xs)(k:List Key)(ry:RelV y u):
  KT H (kvs.map fun kv=>if kv.1=k then (kv.1,y) else kv) (xs.map (putAt k u)):=by
 induction r with
 |nil=>exact .nil
 | @cons p q ps qs h t ih=>
  rw[YI,YI]
  refine .cons ?_ ih
  obtain⟨h1,h2,h3⟩:=h
  unfold putAt
  by_cases e:p.1=k
  ·rw[if_pos e,if_pos (h1.symm.trans e)];exact⟨h1,h2,ry⟩
  ·rw[if_neg e,if_neg (fun z=>e (h1.trans z))];exact⟨h1,h2,h3⟩
def KT.put (r:KT H kvs xs)(k:List Key)(hb:H b=some (.tup (k.map kV)))(ry:RelV y u):
  KT H (putK kvs k y) (storedH xs k b u):=by
 have e:(kvs.any fun kv=>decide (kv.1=k))=(atKey xs k).isSome:=by
  rw[mQ,(r.val k).isSome_eq,Option.isSome_map]
 unfold putK storedH
 rw[e]
 by_cases q:(atKey xs k).isSome=true
 ·rw[if_pos q,if_pos q];exact r.repl k ry
 ·rw[if_neg q,if_neg q];exact Paired.snoc r ⟨rfl,hb,ry⟩
def KT.keeps (r:KT H kvs xs)(ht:∀b ys,H b=some (.tup ys)->H' b=some (.tup ys)):KT H' kvs xs:=
 Paired.mapP r fun _ _ z=>⟨z.1,ht _ _ z.2.1,z.2.2⟩
section
variable {h:Heap}
def b2Q {u:HO}(ok:HOk P w H h)(e:Rd H a u):eE P w H h a u:=e.ok ok
def a1F {kvs:List (Key×V)}(ok:HOk P w H h)(e:Rd H a (.dK kvs)):kvs.length<=sizeLine/\(a == sysModules)=false/\∃vs,KV kvs vs/\h.DictOf (eZ P w) a vs:=
 show eE P w H h a (.dK kvs) from b2Q ok e
def b8R {kvs:List (Key×V)}(ok:HOk P w H h)(e:H a=some (.dK kvs)):kvs.length<=sizeLine/\(a == sysModules)=false/\∃vs,KV kvs vs/\h.DictOf (eZ P w) a vs:=a1F ok (.inl e)
def uH {ks:List Key}(ok:HOk P w H h)(e:H a=some (.tup (ks.map kV))):(tupleKind (eZ P w)).is h ks a:=by
 obtain⟨_,its,r,o,h1,h2,n,h3⟩:=(show eE P w H h a (.tup (ks.map kV)) from ok a _ e)
 exact⟨o,its.toArray,n,h1,h2,h3,by simpa using sY r⟩
def a1E (ok:HOk P w H h)(e:Rd H a (.dT kvs)):kvs.length<=sizeLine/\(a == sysModules)=false/\
  ∃xs,KT H kvs xs/\h.DictOfH (tupleKind (eZ P w)) a xs:=by
 obtain⟨z,y,xs,r,o,es,ep,h1,h2,h3,h4,h5⟩:=(show eE P w H h a (.dT kvs) from b2Q ok e)
 refine⟨z,y,xs,r,o,es,ep,h1,h2,h3,h4,fun x hx=>?_,h5⟩
 have all:∀{l:List (List Key×V)}{m:List (List Key×Addr×Value)},KT H l m->∀x∈m,(tupleKind (eZ P w)).is h x.1 x.2.1:=by
  intro l m q
  induction q with
  |nil=>intro x hx;exact nomatch hx
  | @cons p q ps qs hq t ih=>
   intro x hx
   rcases Yt.mp hx with e | hx
   ·subst e
    exact uH ok (by rw[<-hq.1];exact hq.2.1)
   ·exact ih x hx
 exact all r x hx
theorem b8Q (ok:HOk P w H h)(e:H a=some (.dT kvs)):kvs.length<=sizeLine/\(a == sysModules)=false/\
  ∃xs,KT H kvs xs/\h.DictOfH (tupleKind (eZ P w)) a xs:=a1E ok (.inl e)
end
def b1X (H:Hp)(a:Addr)(y:V)(r:Option V):Prop:=
 (∃kvs k,Rd H a (.dK kvs)/\y=kV k/\r=gZ kvs k)\/∃kvs k b,Rd H a (.dT kvs)/\y= .ref b/\H b=some (.tup (k.map kV))/\r=gZ kvs k
def b9G (H:Hp)(a:Addr)(y v:V)(H':Hp):Prop:=
 (∃kvs k,H a=some (.dK kvs)/\y=kV k/\kvs.length<sizeLine/\H'=upd H a (.dK (putK kvs k v)))\/
 ∃kvs k b,H a=some (.dT kvs)/\y= .ref b/\H b=some (.tup (k.map kV))/\kvs.length<sizeLine/\H'=upd H a (.dT (putK kvs k v))
section
variable {v:V}{r:Value}
def Inv.big (I:Inv X pins σ H s):sysModules<s.heap.objs.size:=by
 have h:mainGlobals<s.heap.objs.size:=(I.mod.glob.keeps I.bk).lt
 exact Nat.lt_trans (by decide) h
def c0Y (hu:A.units+1<cLine)(I:Inv X pins σ H s)(g:b1X H a y o)(ry:RelV y u)(h:∀s',Inv X pins σ H s'->Q (.bool o.isSome) s'):
  wpAny (model X.prog X.w) A (compareOp .In u (.ref a)) Q E s:=by
 rcases g with ⟨kvs,k,e,ey,l⟩ | ⟨kvs,k,b,e,ey,eb,l⟩
 ·subst ey
  obtain⟨z,hd,vs,rel,dd⟩:=a1F I.hok e
  refine wpAny_in_of (a0X ry) hd dd.mapOf ?_
  rw[<-(rel.val k).isSome_eq,<-l]
  exact h _ (I.tok _)
 ·subst ey
  cases (show u=Value.ref b from ry)
  obtain⟨z,hd,xs,rel,dd⟩:=a1E I.hok e
  refine wpAny_in_heap (tupleKind_room_in1 hu) (uH I.hok eb) hd dd ?_
  have q:=(rel.val k).isSome_eq
  rw[Option.isSome_map]at q
  rw[<-q,<-l]
  exact h _ (I.tok _)
def a1K {t':Nat}{ob:HO}(I:Inv X pins σ H s)(mu:Mut (H a))(hs:Heap.SameBut a s.heap h')(he:∃q,h'.get? a=some q)(new:eE X.prog X.w (upd H a ob) h' a ob):
  Inv X pins σ (upd H a ob) { s with heap:=h',toks:=t' }:=
 I.write (x:=a) (e:=a) mu (.inl rfl) (fun b q hb z=>(hs.2 b hb).trans z) he new
theorem b5Q {kvs:List (Key×V)}{vs:List (Key×Value)}(z:kvs.length<=sizeLine)(hd:(a == sysModules)=false)(rel:KV kvs vs)(dd:h'.DictOf (eZ P w) a vs):
  eE P w H' h' a (.dK kvs):=⟨z,hd,vs,rel,dd⟩
def a3Q {Q:Unit->Shared->Prop}(hu:A.units+1<cLine)(I:Inv X pins σ H s)(g:b9G H a y v H')(ry:RelV y u)(rv:RelV v r)(h:∀s',Inv X pins σ H' s'->Q () s'):
  wpAny (model X.prog X.w) A (setItem (.ref a) u r) Q E s:=by
 rcases g with ⟨kvs,k,e,ey,l,eH⟩ | ⟨kvs,k,b,e,ey,eb,l,eH⟩
 ·subst ey eH
  obtain⟨z,hd,vs,rel,dd⟩:=b8R I.hok e
  have hz:vs.length<=sizeLine:=by rw[<-rel.length];exact z
  have hl:(putK kvs k v).length<=sizeLine:=by have:=lB kvs k v;omega
  refine wpAny_setItem_pairs (hsz:=hz) (a0X ry) dd fun h' dd' hs=>h _ ?_
  have he:∃q,h'.get? a=some q:=let ⟨q,_,_,hq,_⟩:=dd';⟨q,hq⟩
  exact a1K I (by rw[e];exact True.intro) hs he (b5Q hl hd (rel.put k rv) dd')
 ·subst ey eH
  cases (show u=Value.ref b from ry)
  obtain⟨z,hd,xs,rel,dd⟩:=b8Q I.hok e
  have hz:xs.length<=sizeLine:=by rw[<-Paired.length rel];exact z
  have hl:(putK kvs k v).length<=sizeLine:=by have:=lB kvs k v;omega
  refine wpAny_setItem_heap (hsz:=hz) (tupleKind_room_in1 hu) (uH I.hok eb) dd fun h' dd' hs=>h _ ?_
  obtain⟨q,es,ep,hq,h2,h3,h4,_,h5⟩:=dd'
  refine a1K I (by rw[e];exact True.intro) hs ⟨q,hq⟩ ⟨hl,hd,_,(rel.put k eb rv).keeps fun c ys ec=>?_,q,es,ep,hq,h2,h3,h4,h5⟩
  rw[aH (b7Z ec e (fun z=>nomatch z))]
  exact ec
end
section
variable {kvs:List (Key×V)}{k:Key}
end
def b9T (ty td:TE):TE:=fun σ H Q=>ty σ H fun y H1=>td σ H1 fun x H2=>∃a o,x= .ref a/\b1X H2 a y o/\Q (.bl o.isSome) H2
def b7M (td ty tv:TE):TS:=fun D σ H=>tv σ H fun v H1=>td σ H1 fun x H2=>ty σ H2 fun y H3=>∃a H4,x= .ref a/\b9G H3 a y v H4/\D.nx σ H4
section
variable {o i value:Expr}{pos' tpos:Pos}{td ty tv:TE}
def b4L (hu:X.A.units+1<cLine)(hi:PE X i ty)(ho:PE X o td):PC X .In i o (b9T ty td):=by
 intro pins s σ H Q I h
 refine thn (hi pins s σ H _ I h) fun iv s1 ⟨y,H1,I1,ry,q1⟩=>thn (ho pins s1 σ H1 _ I1 q1) fun u s2 ⟨x,H2,I2,rx,a,ov,ex,g,q2⟩=>?_
 subst ex
 obtain rfl:u=Value.ref a:=rx
 exact c0Y hu I2 g ry fun s3 I3=>⟨.bl ov.isSome,H2,I3,rfl,q2⟩
def a0L (hu:X.A.units+1<cLine)(ho:PE X o td)(hi:PE X i ty)(hv:PE X value tv)(hs:swapsWith value (some (.Subscript o i pos')) pos.line X.env=pure false):
  PS X (.Assign [.Subscript o i pos'] value pos) (b7M td ty tv):=by
 intro pins s σ H D I h
 refine wpAny_Assign_Subscript (thn (hv pins s σ H _ I h) fun r s1 ⟨v,H1,I1,rv,q1⟩=>thn (ho pins s1 σ H1 _ I1 q1) fun u s2 ⟨x,H2,I2,rx,q2⟩=>thn (hi pins s2 σ H2 _ I2 q2) fun iv s3 ⟨y,H3,I3,ry,a,H4,ex,g,q3⟩=>?_) hs
 subst ex
 obtain rfl:u=Value.ref a:=rx
 exact a3Q hu I3 g ry rv fun s4 I4=>⟨σ,H4,I4,q3⟩
end
def a8B (h:Heap)(hb:sysModules<h.objs.size):eE P w H (h.push { cls:= .type "dict",data:= .dict #[] }) h.objs.size (.dK []):=
 ⟨YO _,YZ.mpr (Va (Yy hb)), [],.nil,Heap.DictOf.new h⟩
def a8A (h:Heap)(hb:sysModules<h.objs.size):eE P w H (h.push { cls:= .type "dict",data:= .dict #[] }) h.objs.size (.dT []):=
 ⟨YO _,YZ.mpr (Va (Yy hb)), [],.nil,_, #[],0,Yu _ rfl,⟨rfl,rfl,rfl⟩,rfl,rfl,List.nodup_nil⟩
def b3L:TE:=fun _ H Q=>∀p,H p=none->Q (.ref p) (upd H p (.dK []))
def b3K:TE:=fun _ H Q=>∀p,H p=none->Q (.ref p) (upd H p (.dT []))
section
def a6M:PE X (.Dict [] [] pos) b3L:=fun pins s σ H Q I h=>
 wpAny_Dict_empty ⟨.ref s.heap.objs.size,_,I.laid (a:=s.heap.objs.size) (o:= .dK []) (t':=s.toks) (fun _ _ q=>Yg _ q) (Yf _) (a8B s.heap I.big),rfl,h _ (I.hok.fresh (Yf _))⟩
def a6L:PE X (.Dict [] [] pos) b3K:=fun pins s σ H Q I h=>
 wpAny_Dict_empty ⟨.ref s.heap.objs.size,_,I.laid (a:=s.heap.objs.size) (o:= .dT []) (t':=s.toks) (fun _ _ q=>Yg _ q) (Yf _) (a8A s.heap I.big),rfl,h _ (I.hok.fresh (Yf _))⟩
end
structure M2 (X:Cx)(o:Expr)(m:Str)(apos:Pos)(e f:Expr)(cpos:Pos):Prop where
 base:attributeBase o m X.env (eval o X.env)=eval o X.env
 few:((backTo cpos (starEach [e,f] X.env)).all (fun x=>!x.1) && (backToKw cpos (keywordEach [] X.env)).all (fun x=>x.1.isSome)
  && decide (([e,f]:List Expr).length+([]:List Keyword).length+(if ([]:List Keyword).isEmpty then 0 else 1)<30))=true
 line:(apos.endLine == cpos.line)=true
 trees:backTo cpos (starEach [e,f] X.env)= [(false,eval e X.env),(false,eval f X.env)]
def IsD (H:Hp)(a:Addr):Prop:=(∃kvs,Rd H a (.dK kvs))\/∃kvs,Rd H a (.dT kvs)
def b5L (I:Inv X pins σ H s)(d:IsD H a):
  s.TypeIs (.ref a) "dict"/\(∀b,Value.ref a= .ref b->∃ob,s.heap.get? b=some ob/\ob.dict=none)/\(a == sysModules)=false:=by
 rcases d with ⟨kvs,e⟩ | ⟨kvs,e⟩
 ·obtain⟨_,hd,vs,_,dd⟩:=a1F I.hok e
  refine⟨dd.typeIs,fun b q=>?_,hd⟩
  cases q
  obtain⟨ob,_,_,h1,h2,_⟩:=dd
  exact⟨ob,h1,h2.2.1⟩
 ·obtain⟨_,hd,xs,_,dd⟩:=a1E I.hok e
  refine⟨dd.typeIs,fun b q=>?_,hd⟩
  cases q
  obtain⟨ob,_,_,h1,h2,_⟩:=dd
  exact⟨ob,h1,h2.2.1⟩
section
variable {d:V}{r:Value}
def b5R (hu:A.units+1<cLine)(I:Inv X pins σ H s)(g:b1X H a y o)(ry:RelV y u)(rd:RelV d r)(h:∀w' s',Inv X pins σ H s'->RelV (o.getD d) w'->Q w' s'):
  wpAny (model X.prog X.w) A (call (.builtin "dict.get") [.ref a,u,r]) Q E s:=by
 rcases g with ⟨kvs,k,e,ey,l⟩ | ⟨kvs,k,b,e,ey,eb,l⟩
 ·subst ey
  obtain⟨z,hd,vs,rel,dd⟩:=a1F I.hok e
  refine call_meetsIn PySem.F.slot_dict_get dd.typeIs PySem.F.entry_dict_get (PySem.F.args_dict_get_3 _ _ _) (meets_dict_get_default (eZ X.prog X.w) a (a0X ry) hd r) ⟨_,dd.mapOf,h _ _ (I.tok _) ?_⟩
  rw[l]
  exact(rel.val k).getD rd
 ·subst ey
  cases (show u=Value.ref b from ry)
  obtain⟨z,hd,xs,rel,dd⟩:=a1E I.hok e
  refine call_meetsIn PySem.F.slot_dict_get dd.typeIs PySem.F.entry_dict_get (PySem.F.args_dict_get_3 _ _ _) (meetsH_dict_get_default (tupleKind (eZ X.prog X.w)) a b hd r) ⟨tupleKind_room_in1 hu,k,xs,uH I.hok eb,dd,h _ _ (I.tok _) ?_⟩
  rw[l]
  exact(rel.val k).getD rd
end
def b3M (td ty tx:TE):TE:=fun σ H Q=>td σ H fun x H1=>∃a,x= .ref a/\IsD H1 a/\ty σ H1 fun y H2=>tx σ H2 fun z H3=>∃o,b1X H3 a y o/\Q (o.getD z) H3
section
variable {o f:Expr}{apos cpos:Pos}{td ty tx:TE}
def a6N (hu:X.A.units+1<cLine)(ho:PE X o td)(he:PE X e ty)(hf:PE X f tx)(m:M2 X o "get" apos e f cpos):PE X (.Call (.Attribute o "get" apos) [e,f] [] cpos) (b3M td ty tx):=by
 intro pins s σ H Q I h
 refine wpAny_Call_method m.base m.few m.line PySem.F.plainAttrs_dict PySem.F.slot_dict_get PySem.F.type_dict_get (thn (ho pins s σ H _ I h) fun u s1 hz9=>?_)
 obtain⟨x,H1,I1,rx,a,ex,d,q1⟩:=hz9
 subst ex
 obtain rfl:u=Value.ref a:=rx
 obtain⟨t1,t2,_⟩:=b5L I1 d
 refine⟨t1,t2,?_⟩
 rw[m.trees]
 refine Calls.callWith_builtin rfl (Calls.evalArgs_plain (Calls.spliced_cons (thn (he pins s1 σ H1 _ I1 q1) fun iv s2 ⟨y,H2,I2,ry,q2⟩=>
  Calls.spliced_cons (thn (hf pins s2 σ H2 _ I2 q2) fun fv s3 ⟨z,H3,I3,rz,ov,g,q3⟩=>Calls.spliced_nil ?_))))
 exact b5R hu I3 g ry rz fun w' s4 I4 rw'=>⟨_,H3,I4,rw',q3⟩
end
section
variable {kvs:List (Key×V)}
end
section
end
section
variable {κ:Type}[DecidableEq κ]
end
def cI (c:Addr)(v:V):HO:= .ext fun h=>∃u,RelV v u/\h.IsCell c (some u)
def dW (c:Addr)(qual:Str):HO:= .ext fun h=>h.CodeRec (.ref c) qual
def defName (s:Stmt):Str:=match s with
 |.FunctionDef n _ _ _ _ _ _ _ _ _=>n
 |_=>""
def FnO (f:Addr)(st:Stmt)(qual:Str)(cl:List (Str×Addr))(c':Addr):HO:=
 .ext fun h=>∃doc pm ctv,h.get? f=some (W.fnMade (defName st) qual (iD st) (cZ st) (aR st) cl doc pm c' ctv)
def fU (H:Hp)(cs:List Addr):Hp:=fun b=>if b∈cs then none else H b
def mH (H H':Hp)(cs:List Addr):Hp:=fun b=>if b∈cs then H b else H' b
def jL (h:b∈cs):fU H cs b=none:=by unfold fU;rw[if_pos h]
def bJ (h:b∉cs):fU H cs b=H b:=by unfold fU;rw[if_neg h]
def nO (h:b∈cs):mH H H' cs b=H b:=by unfold mH;rw[if_pos h]
def cW (h:b∉cs):mH H H' cs b=H' b:=by unfold mH;rw[if_neg h]
def Cells (H:Hp)(cl:List (Str×Addr))(ys:List Str)(ws:List V):Prop:=
 cl.map (·.1)=ys/\(cl.map (·.2)).Nodup/\Paired (fun (p:Str×Addr) (v:V)=>H p.2=some (cI p.2 v)) cl ws
theorem Cells.at:∀{cl:List (Str×Addr)}{ws:List V},Paired (fun (p:Str×Addr) (v:V)=>H p.2=some (cI p.2 v)) cl ws->∀{i:Nat}{p:Str×Addr},cl[i]? =some p->∃v,ws[i]? =some v/\H p.2=some (cI p.2 v)
 |_,_,.nil,i,p,h=>by simp at h
 |_,_,.cons r t,0,p,h=>by simp at h;subst h;exact⟨_,rfl,r⟩
 |_,_,.cons r t,i+1,p,h=>Cells.at t (i:=i) (by simpa using h)
def Cells.is {ws:List V}(r:Paired (fun (p:Str×Addr) (v:V)=>H p.2=some (cI p.2 v)) cl ws){c:Addr}(h:c∈cl.map (·.2)):∃v,H c=some (cI c v):=by
 obtain⟨p,hp,rfl⟩:=YD.mp h
 obtain⟨i,hi,e⟩:=YT hp
 obtain⟨v,_,q⟩:=Cells.at r (i:=i) (p:=p) (by rw[Yb hi,e])
 exact⟨v,q⟩
structure lW (N ps ys:List Str)(sc:Scope):Prop where
 kind:sc.kind= .function
 co:sc.isCoroutine=false
 gen:sc.isGenerator=false
 nd:N.Nodup
 pre:N.take (ps.length+ys.length)=ps++ys
 par:∀x∈ps,sc.names.lookup x=some .local
 fre:∀x∈ys,sc.names.lookup x=some .free
 only:∀y∈sc.names,y.2≠ .cell/\(y.2= .free->y.1∈ys)
def nZ (N:List Str)(vs ws:List V):St:=(vs++ws).map some++List.replicate (N.length-(vs++ws).length) none
def cxC (P:Program)(w:World)(K:W.Frag)(mg:Str->Option Value)(base:Heap)(N:List Str)(qual:Str)(scope:Scope)(f:Addr)(cd:Value)(cl:List (Str×Addr))(A:Around)(outer:List Env)(s:Shared)(H:Hp):Cx where
 prog:=P
 w:=w
 K:=K
 mg:=mg
 base:=base
 A:=A.deeper (W.envX qual scope s.heap.objs.size f cd cl)
 N:=N
 s₀:=s
 H₀:=H
 env:=W.envX qual scope s.heap.objs.size f cd cl
 outer:=outer
 stack:=W.envX qual scope s.heap.objs.size f cd cl::outer
 ex:=[]
 calm:=true
 fn:=fun _=>false
 pn:=[]
 xe:=fun _ _=>False
theorem lO {α:Type}:∀{l:List (Str×α)}{x:Str}{u:α},(l.map (·.1)).Nodup->(x,u)∈l->l.lookup x=some u
 |[],_,_,_,h=>nomatch h
 | (y, v)::r,x,u,nd,h=>by
  rw[YI,Y7]at nd
  rcases Yt.mp h with e | h'
  ·cases e
   rw[List.lookup_cons_self]
  ·have hne:(x == y)=false:=by
    rw[YZ]
    intro z
    exact nd.1 (by rw[<-z];exact YD.mpr ⟨(x,u),h',rfl⟩)
   rw[Y9,hne]
   exact lO nd.2 h'
def xF {h:Heap}(x:HOk P w H h)(hc:∀c∈cs,∃v,H c=some (cI c v))(k:∀b u,h.get? b=some u->h'.get? b=some u):HOk P w (fU H cs) h':=fun a o e=>by
 have ha:a∉cs:=fun z=>by rw[jL z]at e;cases e
 rw[bJ ha]at e
 have nx:∀b u,H b=some u->(∀φ,u≠ .ext φ)->b∉cs:=fun b u q hn z=>by
  obtain⟨v,e2⟩:=hc b z
  rw[q]at e2
  exact hn _ (Yo e2)
 refine(x a o e).stay (fun b u _ q=>k b u q) (fun b q=>?_) fun b xs q=>?_
 ·rw[bJ (nx b _ q fun φ z=>by cases z)];exact q
 ·rw[bJ (nx b _ q fun φ z=>by cases z)];exact q
theorem qW {P:Program}{w:World}{K:W.Frag}{mg:Str->Option Value}{base:Heap}{N ps ys:List Str}{qual:Str}{scope:Scope}{f:Addr}{cd:Value}{cl:List (Str×Addr)}{A:Around}{outer:List Env}{s:Shared}{h':Heap}{tk:Nat}{H:Hp}{us:List Value}{vs ws:List V}
  (S:lW N ps ys scope) (hd:A.handled=none) (e0:oR P w K mg base A outer s H) (hl:vs.length=ps.length) (r:Vals vs us) (hc:Cells H cl ys ws)
  (hn:h'.Ns s.heap.objs.size (fun x=>(ps.zip us).reverse.lookup x)) (hk:∀b o,s.heap.get? b=some o->h'.get? b=some o) :
  Inv (cxC P w K mg base N qual scope f cd cl A outer s (fU H (cl.map (·.2)))) [] (nZ N vs ws) (fU H (cl.map (·.2))) { s with heap:=h',toks:=tk }:=by
 obtain⟨c1,c2,c3⟩:=hc
 have his:∀c∈cl.map (·.2),∃v,H c=some (cI c v):=fun c h=>Cells.is c3 h
 have cwl:cl.length=ws.length:=Paired.length c3
 have cyl:cl.length=ys.length:=by rw[<-c1,Ya]
 have hpl:ps.length+ys.length<=N.length:=by have:=YJ List.length S.pre;rw[Yx,Yc]at this;omega
 have ndPY:(ps++ys).Nodup:=by rw[<-S.pre];exact S.nd.sublist (List.take_sublist _ _)
 have ndP:=(List.nodup_append.mp ndPY).1
 have ndY:=(List.nodup_append.mp ndPY).2.1
 have lk:∀x c,cl.lookup x=some c->c∈cl.map (·.2):=fun x c h=>YD.mpr ⟨(x,c),Y0 h,rfl⟩
 have old:∀c∈cl.map (·.2),c<s.heap.objs.size:=fun c h=>by
  obtain⟨v,e⟩:=his c h
  exact(e0.hok c _ e).lt
 refine⟨⟨e0.mod,S.kind,rfl,rfl,Yf _,fun y z c h1 h2=>?_,fun y hy=>?_,(fun y c h _=>by cases h),(fun _=>hd),Around.frames_deeper e0.frames,.inr ⟨rfl,rfl⟩,fun b z=>absurd (show b∈([]:List Addr) from z) (by simp),fun b o e=>⟨(e0.bs b o e).1,?_⟩,e0.bsz,fun b _ _ z=>absurd (show b∈([]:List Addr) from z) (by simp),fun b z=>absurd (show b∈([]:List Addr) from z) (by simp),e0.funs,fun b hb=>?_⟩,
  rfl,e0.bare,Un.kept hk,⟨_,hn,fun i y v h1 h2 h3=>?_⟩,fun y c h=>?_,?_,fun y c h=>jL (lk y c h),fun p hp=>absurd (show p∈([]:List (Addr×Obj)) from hp) (by simp),xF e0.hok his hk,?_⟩
 ·have m1:(y,c)∈cl:=Y0 h1
  have m2:(z,c)∈cl:=Y0 h2
  obtain⟨i,hi,e1⟩:=YT m1
  obtain⟨j,hj,e2⟩:=YT m2
  have:(cl.map (·.2))[i]? =(cl.map (·.2))[j]?:=by
   rw[Yl,Yl,Yb hi,Yb hj,e1,e2];rfl
  have:=(List.getElem?_inj (by rw[Ya];exact hi) c2).mp this
  subst this
  rw[e1]at e2
  exact YJ Prod.fst e2
 ·have hy:scope.names.lookup y=some .cell\/scope.names.lookup y=some .free:=hy
  have hf:y∈ys:=by
   rcases hy with hy | hy
   ·exact absurd rfl (S.only _ (Y0 hy)).1
   ·exact(S.only _ (Y0 hy)).2 rfl
  rw[<-c1]at hf
  obtain⟨p,hp,rfl⟩:=YD.mp hf
  have q:cl.lookup p.1=some p.2:=lO (by rw[c1];exact ndY) hp
  exact⟨p.2,q⟩
 ·by_cases hb:b∈cl.map (·.2)
  ·exact jL hb
  ·exact(bJ hb).trans (e0.bs b o e).2
 ·by_cases hb':b∈cl.map (·.2)
  ·exact jL hb'
  ·exact(bJ hb').trans (e0.frf b hb)
 ·have hiv:i<(vs++ws).length:=by
   unfold nZ at h2
   by_cases hi:i<(vs++ws).length
   ·exact hi
   ·rw[YA (by simpa using hi),List.getElem?_replicate]at h2
    split at h2 <;> cases h2
  have ha:(vs++ws)[i]? =some v:=by
   unfold nZ at h2
   rw[YC (by simpa using hiv),Yl]at h2
   cases e:(vs++ws)[i]? with
   |none=>rw[e]at h2;cases h2
   |some a=>rw[e]at h2;cases h2;rfl
  rw[Yc]at hiv
  have hp:(ps++ys)[i]? =some y:=by
   rw[<-S.pre,List.getElem?_take_of_lt (by omega)];exact h1
  by_cases hi:i<ps.length
  ·rw[YC hi]at hp
   rw[YC (by omega)]at ha
   obtain⟨u,hu,rv⟩:=r.get ha
   refine⟨u,rv,.inl ⟨S.par y (Yi hp),?_⟩⟩
   have hm:(y,u)∈ps.zip us:=Yi (i:=i) (by rw[List.getElem?_zip_eq_some];exact⟨hp,hu⟩)
   have ul:us.length=ps.length:=by rw[<-r.length];exact hl
   refine lO ?_ (List.mem_reverse.mpr hm)
   unfold List.Nodup
   rw[List.map_reverse,List.pairwise_reverse,List.map_fst_zip (by omega)]
   exact ndP.imp fun h=>h.symm
  ·rw [YA (by omega)]at hp
   rw[YA (by omega),hl]at ha
   obtain⟨p,hp2,e⟩:∃p,cl[i-ps.length]? =some p/\p.1=y:=by
    rw[<-c1,Yl]at hp
    exact YM.mp hp
   obtain⟨v',ev,q⟩:=Cells.at c3 hp2
   rw[ha]at ev;cases ev
   obtain⟨⟨u,ru,hcell⟩,_,st⟩:=e0.hok _ _ q
   refine⟨u,ru,.inr ⟨.inr (S.fre y (Yi hp)),p.2,?_,?_⟩⟩
   ·subst e
    have q:cl.lookup p.1=some p.2:=lO (by rw[c1];exact ndY) (Yi hp2)
    exact q
   ·obtain⟨o,ho,hd⟩:=hcell
    exact⟨o,hk _ _ ho,hd⟩
 ·obtain⟨v,e⟩:=his c (lk y c h)
  obtain⟨⟨u,ru,o,ho,hd⟩,_,st⟩:=e0.hok _ _ e
  exact⟨_,o,hk _ _ ho,hd⟩
 ·show fU H _ s.heap.objs.size=none
  rw[bJ fun z=>absurd (old _ z) (YW _)]
  exact e0.hok.fresh (Yf _)
 ·unfold nZ
  show _=N.length
  rw[Yc,Ya,YX,Yc]
  omega
theorem a8K {P:Program}{w:World}{K:W.Frag}{mg:Str->Option Value}{base:Heap}{k:Nat}{f c':Addr}{st:Stmt}{qual:Str}{cl:List (Str×Addr)}{N ps ys:List Str}{A:Around}{outer:List Env}{s:Shared}{H:Hp}{args:Args}{us:List Value}{vs ws:List V}{Q:VK}{E:XK}
  (S:lW N ps ys (aR st)) (hr:cX (k+1) A) (e0:oR P w K mg base A outer s H) (hf:H f=some (FnO f st qual cl c')) (hcd:H c'=some (dW c' qual)) (hc:Cells H cl ys ws) (hl:vs.length=ps.length) (r:Vals vs us)
  (hb:∀doc pm ctv,BindsTo s (W.fnX (defName st) qual (iD st) (cZ st) (aR st) cl .none .none doc pm none (.ref c') ctv) args (ps.zip us))
  (hbody:cX k (A.deeper (W.envX qual (aR st) s.heap.objs.size f (.ref c') cl))->∃t,PSs (cxC P w K mg base N qual (aR st) f (.ref c') cl A outer s (fU H (cl.map (·.2)))) (cZ st) t/\
   t { nx:=fun _ H'=>Q .non (mH H H' (cl.map (·.2))),rt:=fun v H'=>Q v (mH H H' (cl.map (·.2))) } (nZ N vs ws) (fU H (cl.map (·.2)))) :
  codeAny (model P w) A (.call (.ref f) args) (CR CX0 outer P w H s Q E) s:=by
 obtain⟨⟨doc,pm,ctv,ho⟩,_,_⟩:=e0.hok _ _ hf
 obtain⟨hrec,_,_⟩:=e0.hok _ _ hcd
 have his:∀c∈cl.map (·.2),∃v,H c=some (cI c v):=fun c h=>Cells.is hc.2.2 h
 have lim:s.heap.NoLimit:=e0.mod.nolimit.keeps fun b o e=>(e0.bs b o e).1
 have hloc:∀y∈ps.zip us,(aR st).names.lookup y.1=some .local:=fun ⟨n,v⟩ hy=>S.par n (Xo hy).1
 refine XT hr.depth ho rfl S.co S.gen rfl hrec (hb doc pm ctv _ _ _ _ ?_)
 refine wpAny_newFunctionEnv (fun y hy=>(S.only y hy).1) hloc (fun h' hn hsb=>?_) S.kind
 have hk:∀b o,s.heap.get? b=some o->h'.get? b=some o:=fun b o e=>by
  have hne:b≠s.heap.objs.size:=Yy (Ym e)
  rw[hsb.2 b hne]
  exact Yg _ e
 refine⟨lim.keeps hk,codeAny_func ?_⟩
 obtain⟨t,ht,hq⟩:=hbody (hr.deeper _)
 have I:=qW (qual:=qual) (f:=f) (cd:= .ref c') (tk:=s.toks+(ps.zip us).length) S hr.hd e0 hl r hc hn hk
 refine Y4 (ht [] _ _ _ _ I hq) (fun fl s' hs=>?_) fun e s' hs=>hs.elim
 have fin :∀{σ':St}{H':Hp}{v:V}{u:Value},Inv (cxC P w K mg base N qual (aR st) f (.ref c') cl A outer s (fU H (cl.map (·.2)))) [] σ' H' s'->RelV v u->Q v (mH H H' (cl.map (·.2)))->CE outer P w H s Q u s':=by
  intro σ' H' v u J rv q
  have nx:∀b u,H b=some u->(∀φ,u≠ .ext φ)->b∉cl.map (·.2):=fun b u q hn z=>by
   obtain⟨v,e2⟩:=his b z
   rw[q]at e2
   exact hn _ (Yo e2)
  have nn:∀b,H b=none->b∉cl.map (·.2):=fun b q z=>by
   obtain⟨v,e2⟩:=his b z
   rw[q]at e2;cases e2
  have hJ:∀c∈cl.map (·.2),H' c=none:=fun c hm=>by
   obtain⟨p,hp,rfl⟩:=YD.mp hm
   have q:cl.lookup p.1=some p.2:=lO (by rw[hc.1];exact(List.nodup_append.mp (show (ps++ys).Nodup by rw[<-S.pre];exact S.nd.sublist (List.take_sublist _ _))).2.1) hp
   exact J.freeC p.1 p.2 q
  have un:=J.base
  have un':Un (frs outer) [] (fU H (cl.map (·.2))) H' s.heap s'.heap:=un
  refine⟨v,mH H H' (cl.map (·.2)),J.os,J.bare,⟨fun b o e n hb he=>un'.keep b o e (by rw[bJ (nn b n)];exact n) hb he,fun b o e n hb he=>un'.slot b o e (by rw[bJ (nn b n)];exact n) hb he,fun b o e n he=>?_,un'.there,fun b xs q=>?_,fun b o u q=>?_,fun b ps' q=>?_⟩,fun b o e=>?_,rv,q⟩
  ·rw[cW (nn b n)]
   exact un'.free b o e (by rw[bJ (nn b n)];exact n) he
  ·have hb:=nx b _ q fun φ z=>by cases z
   rw[cW hb]
   exact un'.tups b xs (by rw[bJ hb];exact q)
  ·have hb:=nx b _ q fun φ z=>by cases z
   rw[cW hb]
   exact un'.frzs b o u (by rw[bJ hb];exact q)
  ·have hb:=nx b _ q fun φ z=>by cases z
   obtain⟨more,e⟩:=un'.tbls b ps' (by rw[bJ hb];exact q)
   exact⟨more,by rw[cW hb];exact e⟩
  ·by_cases hb:b∈cl.map (·.2)
   ·rw [nO hb]at e
    obtain⟨v2,e2⟩:=his b hb
    have hbf:b∉frs outer:=fun z=>by
     have:=e0.frf b z
     rw[e2]at this;cases this
    rw[e2]at e
    cases e
    obtain⟨p,⟨ob,eo⟩,stb⟩:=e0.hok b _ e2
    have kk:∀u,s.heap.get? b=some u->s'.heap.get? b=some u:=fun u q=>un'.keep b u q (jL hb) hbf (by simp)
    exact⟨stb _ _ p kk,⟨ob,kk _ eo⟩,stb⟩
   ·rw [cW hb]at e
    refine(J.hok b o e).stay (fun d u _ q=>q) (fun d q=>?_) fun d xs q=>?_
    ·have hd:d∉cl.map (·.2):=fun z=>by rw[hJ d z]at q;cases q
     rw[cW hd];exact q
    ·have hd:d∉cl.map (·.2):=fun z=>by rw[hJ d z]at q;cases q
     rw[cW hd];exact q
 cases fl with
 | ret u=>
  obtain⟨v,σ',H',J,rv,q⟩:=hs
  exact fin J rv q
 | next=>
  obtain⟨σ',H',J,q⟩:=hs
  exact fin (v:=V.non) (u:=Value.none) J rfl q
 | brk=>
  obtain⟨_,_,_,q⟩:=hs
  exact False.elim q
 | cont=>
  obtain⟨_,_,_,q⟩:=hs
  exact False.elim q
def Bm (K:W.Frag)(mg:Str->Option Value)(bm:Addr):Prop:=mg "__builtins__"=some (.ref bm)/\bm≠builtinsNs/\bm≠mainGlobals/\∃o,K.lookup bm=some o/\o.cls= .type "module"/\o.dict=some builtinsNs/\o.data= .plain
def mJ (P:Addr)(pos:Pos)(qual:Str)(H:Hp):Prop:=∃ps,H P=some (.tbl ps)/\TriplesOk ps.toList/\(codeAmong pos ps.toList=none\/∃c',codeAmong pos ps.toList=some (.ref c')/\H c'=some (dW c' qual))
abbrev uP (nm:Str)(params:Arguments)(body:List Stmt)(scope:Scope)(pos:Pos):Stmt:= .FunctionDef nm params body [] none [] scope none nm pos
theorem FnO.stb {st:Stmt}:∀h1 h2:Heap,(∃doc pm ctv,h1.get? f=some (W.fnMade (defName st) qual (iD st) (cZ st) (aR st) cl doc pm c' ctv))->(∀o,h1.get? f=some o->h2.get? f=some o)->
  ∃doc pm ctv,h2.get? f=some (W.fnMade (defName st) qual (iD st) (cZ st) (aR st) cl doc pm c' ctv):=fun h1 h2 ⟨doc,pm,ctv,e⟩ k=>⟨doc,pm,ctv,k _ e⟩
def dW.stb {c:Addr}:∀h1 h2:Heap,h1.CodeRec (.ref c) qual->(∀o,h1.get? c=some o->h2.get? c=some o)->h2.CodeRec (.ref c) qual:=fun h1 h2 x k=>by
 obtain⟨c2,oc,vs,t,e,ho,hd,hv⟩:=x
 cases e
 exact⟨_,oc,vs,t,rfl,k _ ho,hd,hv⟩
section
variable {c0 P bm:Addr}{nm:Str}{body:List Stmt}
theorem b2T (I:Inv X pins σ H s)(hcode:X.env.code= .ref c0)(C:W.codeHdIn X.K c0 P=true)(hb:Bm X.K X.mg bm)(hT:mJ P pos qual H)(hcl:closureFor scope X.env=pure cl)
  (h:∀f c' H' s',H f=none->(H P=some (.tbl #[])->H c'=none)->(∀b o,b≠P->H b=some o->H' b=some o)->mJ P pos qual H'->H' c'=some (dW c' qual)->H' f=some (FnO f (uP nm params body scope pos) qual cl c')->Inv X pins σ H' s'->Q (.ref f) s') :
  wpAny (model X.prog X.w) A (makeFunction nm qual params (.stmts body) scope X.env [] [] [] pos pos.line) Q E s:=by
 obtain⟨ps,hP,ht,hh⟩:=hT
 have hPo:s.heap.get? P=some (W.tabObj ps):=I.hok _ _ hP
 have hPl:=Ym hPo
 have hg:=I.mod.glob.keeps I.bk
 have CH:W.CodeHd s.heap c0 P:=W.codeHd_of_K I.kIn C
 obtain⟨b1,b2,b3,ob,b4,b5,b6,b7⟩:=hb
 have bob:=I.kIn _ _ b4
 have hgP:mainGlobals≠P:=fun q=>by
  obtain⟨o,es,ep,e,hd,_⟩:=hg
  rw[q,hPo]at e;cases e;cases hd
 have hbP:bm≠P:=fun q=>by
  rw[q,hPo]at bob;cases bob;cases b5
 have hB:s.heap.BuiltinsAt X.mg P:=⟨bm,ob,b1,b2,b3,hbP,bob,b5,b6,b7⟩
 have nP:∀d u,H d=some u->(∀qs,u≠ .tbl qs)->d≠P:=fun d u q hn z=>by
  rw[z,hP]at q
  exact hn _ (Yo q).symm
 rcases hh with hnf | ⟨c',hf,hc'⟩
 ·refine W.makeFunction_K (mg:=X.mg) hcl I.ok.glob hg hcode CH hPo ht hnf hgP hB fun c' ctv doc h' tk hx hge hlt hrec htb=>?_
  obtain⟨fO,hfO⟩:∃fO,fO=W.fnMade nm qual params body scope cl doc ((X.mg "__name__").getD .none) c' ctv:=⟨_,rfl⟩
  rw[<-hfO]
  have fne:h'.objs.size≠P:=XJ (Ym htb)
  have cne:c'≠P:=XJ (Ye hPl hge)
  have fc:h'.objs.size≠c':=XJ hlt
  have hsz:s.heap.objs.size<=h'.objs.size:=YN hge (Y6 hlt)
  have hfn:H h'.objs.size=none:=I.hok.fresh hsz
  have hcn:H c'=none:=I.hok.fresh hge
  obtain⟨H',hH'⟩:∃H',H'=upd (upd (upd H P (.tbl (ps++#[rawInt pos.line,rawInt pos.col,.ref c']))) c' (dW c' qual)) h'.objs.size (FnO h'.objs.size (uP nm params body scope pos) qual cl c'):=⟨_,rfl⟩
  have h1:H' h'.objs.size=some (FnO h'.objs.size (uP nm params body scope pos) qual cl c'):=by rw[hH',aB]
  have h2:H' c'=some (dW c' qual):=by rw[hH',aH fc.symm,aB]
  have h3:H' P=some (.tbl (ps++#[rawInt pos.line,rawInt pos.col,.ref c'])):=by rw[hH',aH fne.symm,aH cne.symm,aB]
  have h4:∀b,b≠P->b≠c'->b≠h'.objs.size->H' b=H b:=fun b n1 n2 n3=>by rw[hH',aH n3,aH n2,aH n1]
  have h5:∀b o,b≠P->H b=some o->H' b=some o:=fun b o n q=>by
   have l:=(I.hok b o q).lt
   rw[h4 b n (Yy (Ye l hge)) (Yy (Ye l hsz))];exact q
  have hk:∀b o,b≠P->s.heap.get? b=some o->(h'.push fO).get? b=some o:=fun b o n q=>Yg _ (hx b o n q)
  refine h h'.objs.size c' H' _ hfn (fun _=>hcn) h5 ⟨_,h3,?_,.inr ⟨c',?_,h2⟩⟩ h2 h1 (I.call' (ch:=[]) rfl ⟨fun b o e n _ _=>hk b o (fun z=>by rw[z,hP]at n;cases n) e,fun b o e n _ _=>⟨o.slots,hk b o (fun z=>by rw[z,hP]at n;cases n) e⟩,fun b o e n _=>?_,fun b o e _=>?_,fun b xs q=>h5 b _ (nP b _ q fun _ z=>by cases z) q,fun b o u q=>h5 b _ (nP b _ q fun _ z=>by cases z) q,fun b qs q=>?_⟩ (fun b o e=>?_) I.bare (fun b z=>absurd z (by simp)))
  ·rw[XV];exact TriplesOk_snoc _ _ _ _ ht
  ·rw[XV];exact codeAmong_snoc _ ht hnf
  ·have l:=Ym e
   rw[h4 b (fun z=>by rw[z,hP]at n;cases n) (Yy (Ye l hge)) (Yy (Ye l hsz))];exact n
  ·by_cases z:b=P
   ·rw[z];exact⟨_,Yg _ htb⟩
   ·exact⟨o,hk b o z e⟩
  ·by_cases z:b=P
   ·rw[z,hP]at q
    cases q
    exact⟨_,by rw[z];exact h3⟩
   ·exact⟨#[],by rw[h5 b _ z q];simp⟩
  ·by_cases z1:b=h'.objs.size
   ·subst z1
    rw[h1]at e
    cases e
    refine⟨⟨doc,(X.mg "__name__").getD .none,ctv,?_⟩,⟨fO,Yu _ (by rw[hfO];rfl)⟩,FnO.stb⟩
    rw[hfO]
    exact Yu _ rfl
   ·by_cases z2:b=c'
    ·subst z2
     rw[h2]at e
     cases e
     have hr:(h'.push fO).CodeRec (.ref b) qual:=dW.stb _ _ hrec fun o q=>Yg _ q
     obtain⟨c2,oc,vs,t,e2,ho,_⟩:=id hr
     cases e2
     exact⟨hr,⟨oc,ho⟩,dW.stb⟩
    ·by_cases z3:b=P
     ·subst z3
      rw[h3]at e
      cases e
      exact Yg _ htb
     ·rw[h4 b z3 z2 z1]at e
      refine(I.hok b o e).stay (fun d u hd q=>hk d u ?_ q) (fun d q=>h5 d _ (nP d _ q fun _ z=>by cases z) q) fun d xs q=>h5 d _ (nP d _ q fun _ z=>by cases z) q
      rcases hd with rfl | hd
      ·exact z3
      ·exact nP d _ hd fun _ z=>by cases z
 ·refine W.makeFunction_hit (mg:=X.mg) hcl I.ok.glob hg hcode CH hPo ht hf hB fun ctv doc h' tk hx hsz=>?_
  obtain⟨fO,hfO⟩:∃fO,fO=W.fnMade nm qual params body scope cl doc ((X.mg "__name__").getD .none) c' ctv:=⟨_,rfl⟩
  have hk:∀b o,s.heap.get? b=some o->(h'.push fO).get? b=some o:=fun b o q=>Yg _ (hx b o q)
  have hfn:H h'.objs.size=none:=I.hok.fresh hsz
  have h5:∀b o,H b=some o->upd H h'.objs.size (FnO h'.objs.size (uP nm params body scope pos) qual cl c') b=some o:=fun b o q=>by
   rw[aH (aJ q hfn)];exact q
  rw[show (⟨.type "function",none,.func (W.fnX nm qual params body scope cl .none .none doc ((X.mg "__name__").getD .none) none (.ref c') ctv), #[]⟩:Obj)=fO from hfO.symm]
  refine h h'.objs.size c' (upd H h'.objs.size (FnO h'.objs.size (uP nm params body scope pos) qual cl c')) _ hfn (fun e=>by rw[hP]at e;cases e;cases hf) (fun b o _ q=>h5 b o q) ⟨ps,h5 _ _ hP,ht,.inr ⟨c',hf,h5 _ _ hc'⟩⟩ (h5 _ _ hc') aB (I.call' (ch:=[]) rfl (Un.laid hk hsz hfn) (I.hok.laid hk hsz ?_) I.bare (fun b z=>absurd z (by simp)))
  refine⟨⟨doc,(X.mg "__name__").getD .none,ctv,?_⟩,⟨fO,Yu _ (by rw[hfO];rfl)⟩,FnO.stb⟩
  rw[hfO]
  exact Yu _ rfl
end
def PF (X:Cx)(sts:List Stmt)(u:St->Hp->Prop)(Φ:Flow->Shared->Prop):Prop:=∀(pins:List (Addr×Obj))(s:Shared)(σ:St)(H:Hp),Inv X pins σ H s->u σ H->wpAny (model X.prog X.w) X.A (execs sts X.env) Φ X.xe s
def b9I (t:TS)(u:St->Hp->Prop):St->Hp->Prop:=fun σ H=>t { nx:=u,rt:=fun _ _=>False } σ H
section
variable {st:Stmt}{rest:List Stmt}{t:TS}{u:St->Hp->Prop}{Φ:Flow->Shared->Prop}
def pM (h1:PS X st t)(h2:PF X rest u Φ):PF X (st::rest) (b9I t u) Φ:=by
 intro pins s σ H I h
 refine XE (thn (h1 pins s σ H _ I h) fun f s1 q=>?_)
 cases f with
 | next=>
  obtain⟨σ',H',I',q⟩:=q
  exact h2 pins s1 σ' H' I' q
 |ret v=>obtain⟨_,_,_,_,_,q⟩:=q;exact q.elim
 |brk=>obtain⟨_,_,_,q⟩:=q;exact q.elim
 |cont=>obtain⟨_,_,_,q⟩:=q;exact q.elim
def b9E (X:Cx)(y:Str)(Q:VK)(fl:Flow)(s':Shared):Prop:=∃g c w v σ2 H2 pins,fl= .ret (.ref g)/\Inv X pins σ2 H2 s'/\X.env.cells.lookup y=some c/\RelV w v/\s'.heap.IsCell c (some v)/\Q (.ref g) (upd H2 c (cI c w))
def uMk (P:Addr)(pos:Pos)(iq:Str)(st:Stmt)(y:Str)(iy:Nat)(Q:VK):St->Hp->Prop:=fun σ H=>∃w,σ[iy]? =some (some w)/\mJ P pos iq H/\
 ∀g c c' H3,H g=none->H c=none->(H P=some (.tbl #[])->H c'=none)->(∀b o,b≠P->H b=some o->H3 b=some o)->mJ P pos iq H3->H3 c'=some (dW c' iq)->H3 c=some (cI c w)->H3 g=some (FnO g st iq [(y,c)] c')->Q (.ref g) H3
theorem b7P {c0 P bm:Addr}{nm iq y:Str}{ip:Arguments}{ib:List Stmt}{isc:Scope}{pos p1 p2:Pos}{iy im:Nat}{Q:VK}(hcode:X.env.code= .ref c0)(C:W.codeHdIn X.K c0 P=true)(hb:Bm X.K X.mg bm)(hcl:∀c,X.env.cells.lookup y=some c->closureFor isc X.env=pure [(y,c)])
  (hN:X.N.Nodup) (hm:X.N[im]? =some nm) (hml:X.env.scope.names.lookup nm=some .local) (hy:X.N[iy]? =some y) (hyc:X.env.scope.names.lookup y=some .cell) (hne:iy≠im)
  (hd0:ip.defaults= []) (hk0:ip.kw_defaults= []) (ha:annTrees ip none X.env= []) (hq:qualnameIn X.env nm nm=iq) (hdb:(nm == ("__debug__":Str))=false) (hcd:(nm == ("__classdict__":Str))=false) :
  PF X [uP nm ip ib isc pos,.Return (some (.Name nm p1)) p2] (uMk P pos iq (uP nm ip ib isc pos) y iy Q) (b9E X y Q):=by
 intro pins s σ H I ⟨w,hw,hT,k⟩
 obtain⟨c,hc⟩:=I.ok.has y (.inl hyc)
 refine XE (W.nestDef_K hd0 hk0 ha ?_)
 rw[hq]
 refine b2T I hcode C hb hT (hcl c hc) fun g c' H' s' hg hfr hsm hT' hc' hf' J=>?_
 refine kZ (v:= .ref g) J hN hm (.inl hml) rfl (fun s2 J2=>?_) (.inr hml)
 refine XE (wpAny_Return_some ?_)
 have hlen:im<σ.length:=by rw[I.len];exact(Yd.mp hm).1
 refine thn (yU hm (.inl hml) hdb hcd pins s2 (σ.set im (some (.ref g))) H' (fun v H''=>v= .ref g/\H''=H') J2 ⟨_,List.getElem?_set_self hlen,rfl,rfl⟩) fun v s3 ⟨v',H'',J3,rv,e1,e2⟩=>?_
 subst e1 e2
 obtain rfl:v=Value.ref g:=rv
 obtain⟨m,_,hl⟩:=J3.loc
 obtain⟨uv,ru,lk⟩:=hl iy y w hy (by rw[Y2 (Va hne)];exact hw) (.inr (.inl hyc))
 rcases lk with ⟨hk,_⟩ | ⟨_,c2,hc2,hcell⟩
 ·have hk':X.env.scope.names.lookup y=some .local:=hk
  rw[hyc]at hk';cases hk'
 ·rw [hc]at hc2
  cases hc2
  have hn:=J3.freeC y c hc
  have hn0:=I.freeC y c hc
  refine⟨g,c,w,uv,_,H'',pins,rfl,J3,hc,ru,hcell,k g c c' _ hg hn0 hfr (fun b o n q=>?_) ?_ ?_ aB ?_⟩
  ·rw[aH (aJ q hn0)];exact hsm b o n q
  ·obtain⟨ps,a1,a2,a3⟩:=hT'
   refine⟨ps,by rw[aH (aJ a1 hn)];exact a1,a2,a3.imp id fun ⟨d,d1,d2⟩=>⟨d,d1,by rw[aH (aJ d2 hn)];exact d2⟩⟩
  ·rw[aH (aJ hc' hn)];exact hc'
  ·rw[aH (aJ hf' hn)];exact hf'
end
theorem Fun.okM {P:Program}{w:World}{K:W.Frag}{mg:Str->Option Value}{base:Heap}{x qual y:Str}{st:Stmt}{f c0 P0:Addr}{fd:FuncData}{N ps:List Str}{k:Nat}{sp:Sp}(F:Fun K x qual st f fd)(hcode:fd.code= .ref c0)(C:W.codeHdIn K c0 P0=true)(S:fY N ps (aR st))(hyc:(aR st).names.lookup y=some .cell)(len:∀vs H Q E,sp vs H Q E->vs.length=ps.length)
  (hbody:∀(A:Around)(outer:List Env)(s:Shared)(H:Hp)(vs:List V)(Q:VK)(E:XK),cX k (A.deeper (envOfC qual (aR st) s.heap.objs.size f (.ref c0)))->sp vs H Q E->
   ∃u,PF (mG CX0 P w K mg base N qual (aR st) f (.ref c0) A outer s H E).nox (cZ st) u (b9E (mG CX0 P w K mg base N qual (aR st) f (.ref c0) A outer s H E).nox y Q)/\u (start N vs) H):fV P w K mg base CX0 (k+1) f fd ps sp:=by
 obtain⟨oc,od,kV,doc,pm,an,cdv,ct,osl,rfl,lk,hcd⟩:=F.ex
 have hcv:cdv= .ref c0:=hcode
 subst hcv
 refine⟨len,fun A outer s H args us vs Q E hr e0 hb r hsp=>?_⟩
 have hl:=len _ _ _ _ hsp
 have KX:K.In s.heap:=e0.mod.kin.keeps fun b o e=>(e0.bs b o e).1
 have lim:s.heap.NoLimit:=e0.mod.nolimit.keeps fun b o e=>(e0.bs b o e).1
 have hkind:∀y∈ps.zip us,(aR st).names.lookup y.1=some .local\/((aR st).names.lookup y.1=some .cell/\((cellsFrom (s.heap.objs.size+1) (aR st).names []).lookup y.1).isSome=true):=fun ⟨n,v⟩ hy=>by
  rcases S.par n (Xo hy).1 with q | q
  ·exact .inl q
  ·exact .inr ⟨q,W.cellsFrom_some _ _ _ (.inl q)⟩
 refine XT hr.depth (KX _ _ lk) rfl S.co S.gen rfl (W.codeRec_of KX hcd) (hb _ _ _ _ ?_)
 refine wpAny_newFunctionEnv_cells S.kind hkind fun env he s1 xx=>?_
 subst he
 refine⟨lim.keeps xx.toInCall.keep,codeAny_func ?_⟩
 obtain⟨u,hu,hq⟩:=hbody A outer s H vs Q E (hr.deeper _) hsp
 have I:Inv (mG CX0 P w K mg base N qual (aR st) f (.ref c0) A outer s H E) [] (start N vs) H s1:=oM S hr.hd e0 hl r xx
 refine Y4 (hu [] s1 (start N vs) H (I.wish _) hq) (fun fl s' hs=>?_) fun e s' hs=>hs.elim
 obtain⟨g,c,wv,v,σ2,H2,pins,rfl,J,hc,rv,hcell,q⟩:=hs
 have hcs:s.heap.objs.size<=c:=J.ok.cab y c rfl hc
 have hn:=J.freeC y c hc
 have un:Un (frs outer) [] H H2 s.heap s'.heap:=J.base
 have hco:∃o,s'.heap.get? c=some o:=by obtain⟨o,ho,_⟩:=hcell;exact⟨o,ho⟩
 have hne:∀b o,s.heap.get? b=some o->b≠c:=fun b o e=>Yy (Ye (Ym e) hcs)
 refine⟨.ref g,upd H2 c (cI c wv),J.os,J.bare,⟨un.keep,un.slot,fun b o e n he=>?_,un.there,fun b xs z=>?_,fun b o u' z=>?_,fun b qs z=>?_⟩,fun b o e=>?_,rfl,q⟩
 ·rw[aH (hne b o e)];exact un.free b o e n he
 ·have:=un.tups b xs z
  rw[aH (aJ this hn)];exact this
 ·have:=un.frzs b o u' z
  rw[aH (aJ this hn)];exact this
 ·obtain⟨more,z2⟩:=un.tbls b qs z
  exact⟨more,by rw[aH (aJ z2 hn)];exact z2⟩
 ·by_cases hbc:b=c
  ·subst hbc
   rw[aB]at e
   cases e
   refine⟨⟨v,rv,hcell⟩,hco,fun h1 h2 ⟨v1,r1,o1,ho1,hd1⟩ kk=>⟨v1,r1,o1,kk _ ho1,hd1⟩⟩
  ·rw[aH hbc]at e
   refine(J.hok b o e).stay (fun d u' _ z=>z) (fun d z=>?_) fun d xs z=>?_
   ·rw[aH (aJ z hn)];exact z
   ·rw[aH (aJ z hn)];exact z
def tQ (P:Program)(w:World)(K:W.Frag)(mg:Str->Option Value)(base:Heap)(k:Nat)(spc:Addr->List V->Hp->VK->Prop):Prop:=
 ∀(f:Addr)(A:Around)(outer:List Env)(s:Shared)(H:Hp)(us:List Value)(vs:List V)(Q:VK),cX k A->oR P w K mg base A outer s H->Vals vs us->spc f vs H Q->codeAny (model P w) A (.call (.ref f) ⟨us, []⟩) (CR CX0 outer P w H s Q E0) s
section
variable {k:Nat}{x:Str}{p:Pos}{es:List Expr}{spc:Addr->List V->Hp->VK->Prop}
end
def a8V (ts:List Addr)(H:Hp):Prop:=(∀P∈ts,H P=some (.tbl #[]))/\∀b,b∈ts\/H b=none\/∃o xs,H b=some (.frz o (.lst xs))
theorem a3F {P:Program}{w:World}{K:W.Frag}{mg mb:Str->Option Value}{CX:CXT}{k:Nat}{fa a:Addr}{fd:FuncData}{x:Str}{sp:Sp}{s₁:Shared}{vs:List Value}{ns:List Int}{ts:List Addr}
    (hts:∀T∈ts,K.lookup T=none/\s₁.heap.get? T=some (W.tabObj #[])/\isCodeTable s₁.heap T)
    (KX:K.In s₁.heap) (hns:s₁.heap.Ns mainGlobals mg) (hb:s₁.heap.Ns builtinsNs mb) (hbb:∀x:Str,x≠"__name__"->mb x=bootBuiltins x) (hlim:s₁.heap.NoLimit) (hg:s₁.gens=#[])
    (ha:s₁.heap.get? a=some { cls:= .type "list",data:= .seq vs.toArray }) (hi:IntsAre vs ns) (hl:ns.length<=sizeLine) (hr:cX k callerA)
    (F:∀base:Heap,K.In base->base.Ns mainGlobals mg->fV P w K mg base CX k fa fd [x] sp) (hbind:∀(s:Shared)(u:Value),BindsTo s fd ⟨[u], []⟩ [(x,u)])
    (hsp:∀H:Hp,a8V ts H->SqL K H a (ns.map V.int)->sp [.ref a] H (fun v _=>v= .bl true) fun _ _ _=>False)
    (hCX:∀H e s',CX [] H s₁ (fun _ _ _=>False) e s'->False) :
    codeAny (model P w) callerA (.call (.ref fa) ⟨[.ref a], []⟩) (fun r s'=>r= .ok (.ret (.bool true))/\OldK s₁.heap s'.heap/\s'.os=s₁.os/\AllBare s'.gens) s₁:=by
  have rv:=rY hi
  have lenV:=hi.length
  have aT:a∉ts:=fun z=>by
    have:=(hts a z).2.1
    rw[ha]at this;cases this
  have core : ∀H0:Hp,(∀b,H0 b=none\/∃o xs,H0 b=some (.frz o (.lst xs)))->SqL K H0 a (ns.map V.int)->HOk P w H0 s₁.heap->(∀b,H0 b≠none->b=a)->(H0 a≠none->K.lookup a=none)->
      codeAny (model P w) callerA (.call (.ref fa) ⟨[.ref a], []⟩) (fun r s'=>r= .ok (.ret (.bool true))/\OldK s₁.heap s'.heap/\s'.os=s₁.os/\AllBare s'.gens) s₁:=by
    intro H0 hO0 hS0 hok0 hA0 hK0
    obtain⟨H,hH⟩:∃H:Hp,H=fun b=>if b∈ts then some (.tbl #[]) else H0 b:=⟨_,rfl⟩
    have hin:∀b,b∈ts->H b=some (.tbl #[]):=fun b z=>by rw[hH];exact if_pos z
    have hout:∀b,b∉ts->H b=H0 b:=fun b z=>by rw[hH];exact if_neg z
    have h0T:∀b,b∈ts->H0 b=none:=fun b z=>by
      cases q:H0 b with
      |none=>rfl
      |some u=>exact absurd (by rw[<-hA0 b (by rw[q];simp)];exact z) aT
    have sub:∀b u,H0 b=some u->H b=some u:=fun b u q=>by
      rw[hout b fun z=>by rw[h0T b z]at q;cases q];exact q
    have hO:a8V ts H:=⟨hin,fun b=>by
      by_cases z:b∈ts
      · exact .inl z
      · rw[hout b z];exact .inr (hO0 b)⟩
    have hS:SqL K H a (ns.map V.int):=by
      rcases hS0 with (h | ⟨o,h⟩) | h
      · exact .inl (.inl (sub _ _ h))
      · exact .inl (.inr ⟨o,sub _ _ h⟩)
      · exact .inr h
    have hok:HOk P w H s₁.heap:=fun b u e=>by
      by_cases z:b∈ts
      · rw[hin b z]at e
        cases e
        exact(hts b z).2.1
      · rw[hout b z]at e
        exact(hok0 b u e).stay (fun _ _ _ q=>q) (fun d q=>sub d _ q) fun d xs q=>sub d _ q
    have fr:∀{b:Addr}{o:Obj},s₁.heap.get? b=some o->o.cls≠ .none->b≠a->H b=none:=fun {b o} e hc hb'=>by
      have z:b∉ts:=fun z=>by
        have:=(hts b z).2.1
        rw[e]at this
        cases this
        exact hc rfl
      rw[hout b z]
      cases q:H0 b with
      |none=>rfl
      |some u=>exact absurd (hA0 b (by rw[q];simp)) hb'
    have base_of:∀{b:Addr}{o:Obj},s₁.heap.get? b=some o->H b=none->(uM s₁.heap H).get? b=some o:=fun e n=>a7P e n
    have noD:∀{b:Addr}{o:Obj}{es:Array DictEntry}{ep:Nat},s₁.heap.get? b=some o->o.data= .dict es ep->H b=none:=fun {b o es ep} e d=>by
      have z:b∉ts:=fun z=>by
        have:=(hts b z).2.1
        rw[e]at this
        cases this
        cases d
      rw[hout b z]
      cases q:H0 b with
      |none=>rfl
      | some u=>
        have e':b=a:=hA0 b (by rw[q];simp)
        subst e'
        rw[ha]at e;cases e
        cases d
    have nsK:∀{b:Addr}{m:Str->Option Value},s₁.heap.Ns b m->(uM s₁.heap H).Ns b m:=fun {b m} ⟨o,es,ep,e,d,r⟩=>⟨o,es,ep,base_of e (noD e d),d,r⟩
    have hKb:K.In (uM s₁.heap H):=fun b o e=>base_of (KX b o e) (by
      have z:b∉ts:=fun z=>by rw[(hts b z).1]at e;cases e
      rw[hout b z]
      cases q:H0 b with
      |none=>rfl
      | some u=>
        have e':b=a:=hA0 b (by rw[q];simp)
        subst e'
        rw[hK0 (by rw[q];simp)]at e;cases e)
    have hM:Mod K mg (uM s₁.heap H):=⟨hKb,nsK hns,⟨mb,nsK hb,hbb⟩,let ⟨mc,h1,h2⟩:=hlim;⟨mc,nsK h1,h2⟩⟩
    have e0:oR P w K mg (uM s₁.heap H) callerA [] s₁ H:=⟨rfl,hM,fun b o e=>b0Q e,Nat.le_of_eq (a3K _ _),trivial,fun b hb=>absurd (show b∈([]:List Addr) from hb) (by simp),hok,.of_eq hg⟩
    refine XO ((F _ hKb (nsK hns)).run callerA [] s₁ H ⟨[.ref a], []⟩ [.ref a] [.ref a] _ _ hr e0 (hbind s₁ (.ref a)) (.cons rfl .nil) (hsp H hO hS)) fun r s' h=>?_
    cases r with
    |error e=>exact(hCX H e s' h).elim
    | ok fl =>
      cases fl with
      |next=>exact False.elim h
      |brk=>exact False.elim h
      |cont=>exact False.elim h
      | ret u =>
        obtain⟨v,H',os,bare,un,hok',r',q⟩:=h
        have q':v= .bl true:=q
        subst q'
        obtain rfl:u=Value.bool true:=r'
        refine⟨rfl,⟨fun b o e=>?_,fun b o e=>un.there b o e (by simp)⟩,os,bare⟩
        by_cases z:b∈ts
        · obtain⟨t1,t2,t3⟩:=hts b z
          rw[e]at t2
          cases t2
          obtain⟨more,e2⟩:=un.tbls b #[] (hin b z)
          have e3:s'.heap.get? b=some { cls:= .none,data:= .fields (#[]++more) }:=hok' b _ e2
          exact .inr (.inl ⟨t3,rfl, #[],more,rfl,e3⟩)
        · refine .inl ?_
          cases q:H0 b with
          |none=>exact un.keep b o e (by rw[hout b z];exact q) (fun z=>absurd (show b∈([]:List Addr) from z) (by simp)) (by simp)
          | some u=>
            rcases hO0 b with z1 | ⟨ob,xs,z1⟩
            · rw[q]at z1;cases z1
            · have z2:=un.frzs b ob _ (sub _ _ z1)
              obtain⟨e1,_⟩:=hok0 b _ z1
              obtain⟨e2,_⟩:=hok' b _ z2
              rw[e]at e1;cases e1
              exact e2
  cases hk:K.lookup a with
  | some o=>
    have e:=KX a o hk
    rw[ha]at e
    cases e
    refine core (fun _=>none) (fun _=> .inl rfl) (.inr ⟨_,vs.toArray,_,hk,rfl,rfl,rfl,by rw[Yv,lenV];exact hl,by simpa using rv⟩) (fun b u z=>by cases (show (none:Option HO)=some u from z)) (fun b z=>absurd rfl z) fun z=>absurd rfl z
  | none =>
    refine core (fun b=>if b=a then some (.frz { cls:= .type "list",data:= .seq vs.toArray } (.lst (ns.map V.int))) else none) (fun b=>?_) (.inl (.inr ⟨{ cls:= .type "list",data:= .seq vs.toArray },if_pos rfl⟩)) (fun b u z=>?_) (fun b z=>?_) fun _=>hk
    · by_cases hb:b=a
      · exact .inr ⟨_,_,if_pos hb⟩
      · exact .inl (if_neg hb)
    · by_cases hb:b=a
      · cases (if_pos hb).symm.trans z
        subst hb
        exact⟨ha,by rw[Ya];exact hl,vs,_,rv,ha⟩
      · cases (if_neg hb).symm.trans z
    · by_cases hb:b=a
      · exact hb
      · exact absurd (if_neg hb) z
theorem walk_ofT {l:W.OpenLaw}{n k:Nat}{q:Program}{loose:List Str}{XP:(Str->Option Value)->Heap->Prop}{YP:World->Heap->Prop}{d:DefRec}{K:Params->W.Frag}{CX:World->CXT}{sp:World->Sp}{x:Str}{tc:List (Addr×Addr)}
  (hn:l.most=some n) (hn2:n<=sizeLine) (hdf:d.params.defaults= []) (hr:cX k callerA)
  (hY:∀(w:World)(h:Heap),YP w h->(K w.params).In h/\∀q∈tc,(K w.params).lookup q.2=none/\h.get? q.2=some (W.tabObj #[])/\W.codeHdIn (K w.params) q.1 q.2=true)
  (F : ∀(w:World)(mg:Str->Option Value)(fa:Addr)(h:Heap),(K w.params).In h->h.Ns mainGlobals mg->mg d.name=some (.ref fa)->
   ∃ fd:FuncData,(∀(s:Shared)(u:Value),BindsTo s fd ⟨[u], []⟩ [(x,u)])/\
    ∀base:Heap,(K w.params).In base->base.Ns mainGlobals mg->fV l.prog w (K w.params) mg base (CX w) k fa fd [x] (sp w))
  (hsp:∀(w:World)(H:Hp)(a:Addr)(ns:List Int),ns.length<=n->a8V (tc.map (·.2)) H->SqL (K w.params) H a (ns.map V.int)->sp w [.ref a] H (fun v _=>v= .bl true) fun _ _ _=>False)
  (hCX:∀(w:World)(H:Hp)(s:Shared)(e:Value)(s':Shared),CX w [] H s (fun _ _ _=>False) e s'->False) :
  W.WalkO q loose XP YP l.row.toRowW d [] (fun f vs=>PySem.call f vs):=by
 refine Att.attach_call hn hdf fun w s₀ s₁ mg mb fa o pm cd doc a vs ns G Y ho hd hcd hmg hobj hints hlen hg=>?_
 obtain⟨KX,T⟩:=hY w _ Y
 obtain⟨fd,hb,hF⟩:=F w mg fa _ KX G.T.g hmg
 refine a3F (ts:=tc.map (·.2)) (fun t ht=>?_) KX G.T.g G.T.b G.T.builtins G.T.nolimit hg hobj hints (YN hlen hn2) hr hF hb (fun H hO hS=>hsp w H a ns hlen hO hS) fun H e s'=>hCX w H s₁ e s'
 obtain⟨q,hq,rfl⟩:=YD.mp ht
 obtain⟨t1,t2,t3⟩:=T q hq
 exact⟨t1,t2,((W.codeHd_of_K KX t3).tab t2).isCodeTable⟩
def nW (f:Addr)(qual:Str)(params:Arguments)(body:Expr)(scope:Scope)(cl:List (Str×Addr))(c':Addr):HO:=
 .ext fun h=>∃pm ctv,h.get? f=some (W.kla_obj "<lambda>" qual params body scope cl pm c' ctv)
theorem nW.stb:∀h1 h2:Heap,(∃pm ctv,h1.get? f=some (W.kla_obj "<lambda>" qual params body scope cl pm c' ctv))->(∀o,h1.get? f=some o->h2.get? f=some o)->
  ∃pm ctv,h2.get? f=some (W.kla_obj "<lambda>" qual params body scope cl pm c' ctv):=fun h1 h2 ⟨pm,ctv,e⟩ k=>⟨pm,ctv,k _ e⟩
def xQ (P:Addr)(pos:Pos)(c':Addr)(H:Hp):Prop:=∃ps,H P=some (.tbl ps)/\TriplesOk ps.toList/\codeAmong pos ps.toList=some (.ref c')
section
variable {c0 P bm:Addr}
theorem b4Y (I:Inv X pins σ H s)(hcode:X.env.code= .ref c0)(C:W.codeHdIn X.K c0 P=true)(hb:Bm X.K X.mg bm)(hT:mJ P pos qual H)(hcl:closureFor scope X.env=pure cl)
  (h:∀f c' H' s',H f=none->(∀b o,b≠P->H b=some o->H' b=some o)->xQ P pos c' H'->(H c'=none\/xQ P pos c' H)->H' c'=some (dW c' qual)->H' f=some (nW f qual params body scope cl c')->Inv X pins σ H' s'->Q (.ref f) s') :
  wpAny (model X.prog X.w) A (makeFunction "<lambda>" qual params (.expr body) scope X.env [] [] [] pos pos.line) Q E s:=by
 obtain⟨ps,hP,ht,hh⟩:=hT
 have hPo:s.heap.get? P=some (W.tabObj ps):=I.hok _ _ hP
 have hPl:=Ym hPo
 have hg:=I.mod.glob.keeps I.bk
 have CH:W.CodeHd s.heap c0 P:=W.codeHd_of_K I.kIn C
 obtain⟨b1,b2,b3,ob,b4,b5,b6,b7⟩:=hb
 have bob:=I.kIn _ _ b4
 have hgP:mainGlobals≠P:=fun q=>by
  obtain⟨o,es,ep,e,hd,_⟩:=hg
  rw[q,hPo]at e;cases e;cases hd
 have hbP:bm≠P:=fun q=>by
  rw[q,hPo]at bob;cases bob;cases b5
 have hB:s.heap.BuiltinsAt X.mg P:=⟨bm,ob,b1,b2,b3,hbP,bob,b5,b6,b7⟩
 have nP:∀d u,H d=some u->(∀qs,u≠ .tbl qs)->d≠P:=fun d u q hn z=>by
  rw[z,hP]at q
  exact hn _ (Yo q).symm
 rcases hh with hnf | ⟨c',hf,hc'⟩
 ·refine W.kla_makeFunction (mg:=X.mg) hcl I.ok.glob hg hcode CH hPo ht hnf hgP hB fun c' ctv h' tk hx hge hlt hrec htb=>?_
  obtain⟨fO,hfO⟩:∃fO,fO=W.kla_obj "<lambda>" qual params body scope cl ((X.mg "__name__").getD .none) c' ctv:=⟨_,rfl⟩
  rw[<-hfO]
  have fne:h'.objs.size≠P:=XJ (Ym htb)
  have cne:c'≠P:=XJ (Ye hPl hge)
  have fc:h'.objs.size≠c':=XJ hlt
  have hsz:s.heap.objs.size<=h'.objs.size:=YN hge (Y6 hlt)
  have hfn:H h'.objs.size=none:=I.hok.fresh hsz
  have hcn:H c'=none:=I.hok.fresh hge
  obtain⟨H',hH'⟩:∃H',H'=upd (upd (upd H P (.tbl (ps++#[rawInt pos.line,rawInt pos.col,.ref c']))) c' (dW c' qual)) h'.objs.size (nW h'.objs.size qual params body scope cl c'):=⟨_,rfl⟩
  have h1:H' h'.objs.size=some (nW h'.objs.size qual params body scope cl c'):=by rw[hH',aB]
  have h2:H' c'=some (dW c' qual):=by rw[hH',aH fc.symm,aB]
  have h3:H' P=some (.tbl (ps++#[rawInt pos.line,rawInt pos.col,.ref c'])):=by rw[hH',aH fne.symm,aH cne.symm,aB]
  have h4:∀b,b≠P->b≠c'->b≠h'.objs.size->H' b=H b:=fun b n1 n2 n3=>by rw[hH',aH n3,aH n2,aH n1]
  have h5:∀b o,b≠P->H b=some o->H' b=some o:=fun b o n q=>by
   have l:=(I.hok b o q).lt
   rw[h4 b n (Yy (Ye l hge)) (Yy (Ye l hsz))];exact q
  have hk:∀b o,b≠P->s.heap.get? b=some o->(h'.push fO).get? b=some o:=fun b o n q=>Yg _ (hx b o n q)
  refine h h'.objs.size c' H' _ hfn h5 ⟨_,h3,?_,?_⟩ (.inl hcn) h2 h1 (I.call' (ch:=[]) rfl ⟨fun b o e n _ _=>hk b o (fun z=>by rw[z,hP]at n;cases n) e,fun b o e n _ _=>⟨o.slots,hk b o (fun z=>by rw[z,hP]at n;cases n) e⟩,fun b o e n _=>?_,fun b o e _=>?_,fun b xs q=>h5 b _ (nP b _ q fun _ z=>by cases z) q,fun b o u q=>h5 b _ (nP b _ q fun _ z=>by cases z) q,fun b qs q=>?_⟩ (fun b o e=>?_) I.bare (fun b z=>absurd z (by simp)))
  ·rw[XV];exact TriplesOk_snoc _ _ _ _ ht
  ·rw[XV];exact codeAmong_snoc _ ht hnf
  ·have l:=Ym e
   rw[h4 b (fun z=>by rw[z,hP]at n;cases n) (Yy (Ye l hge)) (Yy (Ye l hsz))];exact n
  ·by_cases z:b=P
   ·rw[z];exact⟨_,Yg _ htb⟩
   ·exact⟨o,hk b o z e⟩
  ·by_cases z:b=P
   ·rw[z,hP]at q
    cases q
    exact⟨_,by rw[z];exact h3⟩
   ·exact⟨#[],by rw[h5 b _ z q];simp⟩
  ·by_cases z1:b=h'.objs.size
   ·subst z1
    rw[h1]at e
    cases e
    refine⟨⟨(X.mg "__name__").getD .none,ctv,?_⟩,⟨fO,Yu _ (by rw[hfO];rfl)⟩,nW.stb⟩
    rw[hfO]
    exact Yu _ rfl
   ·by_cases z2:b=c'
    ·subst z2
     rw[h2]at e
     cases e
     have hr:(h'.push fO).CodeRec (.ref b) qual:=dW.stb _ _ hrec fun o q=>Yg _ q
     obtain⟨c2,oc,vs,t,e2,ho,_⟩:=id hr
     cases e2
     exact⟨hr,⟨oc,ho⟩,dW.stb⟩
    ·by_cases z3:b=P
     ·subst z3
      rw[h3]at e
      cases e
      exact Yg _ htb
     ·rw[h4 b z3 z2 z1]at e
      refine(I.hok b o e).stay (fun d u hd q=>hk d u ?_ q) (fun d q=>h5 d _ (nP d _ q fun _ z=>by cases z) q) fun d xs q=>h5 d _ (nP d _ q fun _ z=>by cases z) q
      rcases hd with rfl | hd
      ·exact z3
      ·exact nP d _ hd fun _ z=>by cases z
 ·refine W.kla_makeFunctionHit (mg:=X.mg) hcl I.ok.glob hg hcode CH hPo ht hf hB fun ctv h' tk hx hsz=>?_
  obtain⟨fO,hfO⟩:∃fO,fO=W.kla_obj "<lambda>" qual params body scope cl ((X.mg "__name__").getD .none) c' ctv:=⟨_,rfl⟩
  have hk:∀b o,s.heap.get? b=some o->(h'.push fO).get? b=some o:=fun b o q=>Yg _ (hx b o q)
  have hfn:H h'.objs.size=none:=I.hok.fresh hsz
  have h5:∀b o,H b=some o->upd H h'.objs.size (nW h'.objs.size qual params body scope cl c') b=some o:=fun b o q=>by
   rw[aH (aJ q hfn)];exact q
  rw[show (⟨.type "function",none,.func (W.kla_fn "<lambda>" qual params body scope cl ((X.mg "__name__").getD .none) (.ref c') ctv), #[]⟩:Obj)=fO from hfO.symm]
  refine h h'.objs.size c' (upd H h'.objs.size (nW h'.objs.size qual params body scope cl c')) _ hfn (fun b o _ q=>h5 b o q) ⟨ps,h5 _ _ hP,ht,hf⟩ (.inr ⟨ps,hP,ht,hf⟩) (h5 _ _ hc') aB (I.call' (ch:=[]) rfl (Un.laid hk hsz hfn) (I.hok.laid hk hsz ?_) I.bare (fun b z=>absurd z (by simp)))
  refine⟨⟨(X.mg "__name__").getD .none,ctv,?_⟩,⟨fO,Yu _ (by rw[hfO];rfl)⟩,nW.stb⟩
  rw[hfO]
  exact Yu _ rfl
end
theorem b0Y {P:Program}{w:World}{K:W.Frag}{mg:Str->Option Value}{base:Heap}{k:Nat}{f c':Addr}{params:Arguments}{body:Expr}{scope:Scope}{qual:Str}{cl:List (Str×Addr)}{N ps ys:List Str}{A:Around}{outer:List Env}{s:Shared}{H:Hp}{args:Args}{us:List Value}{vs ws:List V}{Q:VK}{E:XK}
  (S:lW N ps ys scope) (hr:cX (k+1) A) (e0:oR P w K mg base A outer s H) (hf:H f=some (nW f qual params body scope cl c')) (hcd:H c'=some (dW c' qual)) (hc:Cells H cl ys ws) (hl:vs.length=ps.length) (r:Vals vs us)
  (hb:∀pm ctv,BindsTo s (W.kla_fn "<lambda>" qual params body scope cl pm (.ref c') ctv) args (ps.zip us))
  (hbody:cX k (A.deeper (W.envX qual scope s.heap.objs.size f (.ref c') cl))->∃t,PE (cxC P w K mg base N qual scope f (.ref c') cl A outer s (fU H (cl.map (·.2)))) body t/\
   t (nZ N vs ws) (fU H (cl.map (·.2))) fun v H'=>Q v (mH H H' (cl.map (·.2)))) :
  codeAny (model P w) A (.call (.ref f) args) (CR CX0 outer P w H s Q E) s:=by
 obtain⟨⟨pm,ctv,ho⟩,_,_⟩:=e0.hok _ _ hf
 obtain⟨hrec,_,_⟩:=e0.hok _ _ hcd
 have his:∀c∈cl.map (·.2),∃v,H c=some (cI c v):=fun c h=>Cells.is hc.2.2 h
 have lim:s.heap.NoLimit:=e0.mod.nolimit.keeps fun b o e=>(e0.bs b o e).1
 have hloc:∀y∈ps.zip us,scope.names.lookup y.1=some .local:=fun ⟨n,v⟩ hy=>S.par n (Xo hy).1
 refine W.kla_callFunE hr.depth ho rfl S.co S.gen rfl hrec (hb pm ctv _ _ _ _ ?_)
 refine wpAny_newFunctionEnv (fun y hy=>(S.only y hy).1) hloc (fun h' hn hsb=>?_) S.kind
 have hk:∀b o,s.heap.get? b=some o->h'.get? b=some o:=fun b o e=>by
  have hne:b≠s.heap.objs.size:=Yy (Ym e)
  rw[hsb.2 b hne]
  exact Yg _ e
 refine⟨lim.keeps hk,W.kla_codeExpr ?_⟩
 obtain⟨t,ht,hq⟩:=hbody (hr.deeper _)
 have I:=qW (qual:=qual) (f:=f) (cd:= .ref c') (tk:=s.toks+(ps.zip us).length) S hr.hd e0 hl r hc hn hk
 refine Y4 (ht [] _ _ _ _ I hq) (fun u0 s' hs=>?_) fun e s' hs=>hs.elim
 have fin :∀{σ':St}{H':Hp}{v:V}{u:Value},Inv (cxC P w K mg base N qual scope f (.ref c') cl A outer s (fU H (cl.map (·.2)))) [] σ' H' s'->RelV v u->Q v (mH H H' (cl.map (·.2)))->CE outer P w H s Q u s':=by
  intro σ' H' v u J rv q
  have nx:∀b u,H b=some u->(∀φ,u≠ .ext φ)->b∉cl.map (·.2):=fun b u q hn z=>by
   obtain⟨v,e2⟩:=his b z
   rw[q]at e2
   exact hn _ (Yo e2)
  have nn:∀b,H b=none->b∉cl.map (·.2):=fun b q z=>by
   obtain⟨v,e2⟩:=his b z
   rw[q]at e2;cases e2
  have hJ:∀c∈cl.map (·.2),H' c=none:=fun c hm=>by
   obtain⟨p,hp,rfl⟩:=YD.mp hm
   have q:cl.lookup p.1=some p.2:=lO (by rw[hc.1];exact(List.nodup_append.mp (show (ps++ys).Nodup by rw[<-S.pre];exact S.nd.sublist (List.take_sublist _ _))).2.1) hp
   exact J.freeC p.1 p.2 q
  have un:=J.base
  have un':Un (frs outer) [] (fU H (cl.map (·.2))) H' s.heap s'.heap:=un
  refine⟨v,mH H H' (cl.map (·.2)),J.os,J.bare,⟨fun b o e n hb he=>un'.keep b o e (by rw[bJ (nn b n)];exact n) hb he,fun b o e n hb he=>un'.slot b o e (by rw[bJ (nn b n)];exact n) hb he,fun b o e n he=>?_,un'.there,fun b xs q=>?_,fun b o u q=>?_,fun b ps' q=>?_⟩,fun b o e=>?_,rv,q⟩
  ·rw[cW (nn b n)]
   exact un'.free b o e (by rw[bJ (nn b n)];exact n) he
  ·have hb:=nx b _ q fun φ z=>by cases z
   rw[cW hb]
   exact un'.tups b xs (by rw[bJ hb];exact q)
  ·have hb:=nx b _ q fun φ z=>by cases z
   rw[cW hb]
   exact un'.frzs b o u (by rw[bJ hb];exact q)
  ·have hb:=nx b _ q fun φ z=>by cases z
   obtain⟨more,e⟩:=un'.tbls b ps' (by rw[bJ hb];exact q)
   exact⟨more,by rw[cW hb];exact e⟩
  ·by_cases hb:b∈cl.map (·.2)
   ·rw [nO hb]at e
    obtain⟨v2,e2⟩:=his b hb
    have hbf:b∉frs outer:=fun z=>by
     have:=e0.frf b z
     rw[e2]at this;cases this
    rw[e2]at e
    cases e
    obtain⟨p,⟨ob,eo⟩,stb⟩:=e0.hok b _ e2
    have kk:∀u,s.heap.get? b=some u->s'.heap.get? b=some u:=fun u q=>un'.keep b u q (jL hb) hbf (by simp)
    exact⟨stb _ _ p kk,⟨ob,kk _ eo⟩,stb⟩
   ·rw [cW hb]at e
    refine(J.hok b o e).stay (fun d u _ q=>q) (fun d q=>?_) fun d xs q=>?_
    ·have hd:d∉cl.map (·.2):=fun z=>by rw[hJ d z]at q;cases q
     rw[cW hd];exact q
    ·have hd:d∉cl.map (·.2):=fun z=>by rw[hJ d z]at q;cases q
     rw[cW hd];exact q
 obtain⟨v,H',J,rv,q⟩:=hs
 exact fin J rv q
def FnE (K:W.Frag)(H:Hp)(f:Addr):Prop:=(∃oc od fd sl,K.lookup f=some ⟨oc,od,.func fd,sl⟩)\/∃φ,H f=some (.ext φ)/\∀h,φ h->W.FnAt f h
def FnE.lam (h:H f=some (nW f qual params body scope cl c')):FnE K H f:=
 .inr ⟨_,h,fun _ ⟨_,_,e⟩=>⟨_,_,_,_,e⟩⟩
def b3N (K:W.Frag)(spc:Addr->List V->Hp->VK->Prop)(i:Nat)(t:TA):TE:=fun σ H Q=>∃f,σ[i]? =some (some (.ref f))/\FnE K H f/\t σ H fun vs H1=>FnE K H1 f/\spc f vs H1 Q
section
variable {k:Nat}{x:Str}{p:Pos}{es:List Expr}{spc:Addr->List V->Hp->VK->Prop}
def FnE.at (I:Inv X pins σ H s)(h:FnE X.K H f):W.FnAt f s.heap:=by
 rcases h with ⟨oc,od,fd,sl,e⟩ | ⟨φ,e,z⟩
 ·exact⟨oc,od,fd,sl,I.kIn _ _ e⟩
 ·exact z _ (I.hok _ _ e).1
def a6P (F:tQ X.prog X.w X.K X.mg X.base k spc)(hr:cX k X.A)(hv:PE X (.Name x p) (b3I i))(ha:PA X (e::es) t)(hK:X.K=K:=by rfl)(he:starEach (e::es) X.env=(false,eval e X.env)::starEach es X.env:=by rfl)(hpl:(backTo pos (starEach es X.env)).any (·.1)=false:=by rfl):
  PE X (.Call (.Name x p) (e::es) [] pos) (b3N K spc i t):=by
 subst hK
 intro pins s σ H Q I ⟨f,h1,h2,h3⟩
 refine Xf (thn (hv pins s σ H (fun v H'=>v= .ref f/\H'=H) I ⟨_,h1,rfl,rfl⟩) fun u s1 hz9=>?_)
 obtain⟨v,H1,I1,rv,e1,e2⟩:=hz9
 subst e1 e2
 obtain rfl:u=Value.ref f:=rv
 refine W.callWith_F (h2.at I1) (thn (ha pos pins s1 σ H1 _ I1 h3) fun us s2 ⟨vs,H2,I2,r,h4,h5⟩=>⟨h4.at I2,?_⟩) he hpl
 refine wpAny_call (XO (F f X.A X.stack s2 H2 us vs Q hr I2.env0 r h5) fun r s' hq=>?_)
 cases r with
 |error e=>exact hq.elim
 | ok fl=>
  cases fl with
  |ret u=>exact I2.after hq
  |next=>exact False.elim hq
  |brk=>exact False.elim hq
  |cont=>exact False.elim hq
end
section
def b9F (X:Cx)(Q:VK)(fl:Flow)(s':Shared):Prop:=∃u,fl= .ret u/\∃v H',s'.os=X.s₀.os/\AllBare s'.gens/\Un X.fs X.ex X.H₀ H' X.s₀.heap s'.heap/\HOk X.prog X.w H' s'.heap/\RelV v u/\Q v H'
def b9J (C P:Addr)(m iq y:Str)(ip:Arguments)(ib:Expr)(isc:Scope)(pos:Pos)(iy:Nat)(sp:Sp)(ta:TE)(Q:VK):St->Hp->Prop:=fun σ H=>ta σ H fun x H1=>∃a dx fs w,x= .ref a/\H1 a=some (.ins C dx fs)/\fs.lookup m=none/\σ[iy]? =some (some w)/\mJ P pos iq H1/\
 ∀f c c' H2,H1 f=none->H1 c=none->(∀b o,b≠P->H1 b=some o->H2 b=some o)->xQ P pos c' H2->(H1 c'=none\/xQ P pos c' H1)->H2 c'=some (dW c' iq)->H2 c=some (cI c w)->H2 f=some (nW f iq ip ib isc [(y,c)] c')->sp [.ref a,.ref f] H2 Q fun _ _ _=>False
theorem b4I {C c0 P bm fa:Addr}{fd:FuncData}{ps:List Str}{k iy:Nat}{sp:Sp}{m iq y:Str}{ip:Arguments}{ib:Expr}{isc:Scope}{lpos pos apos p2:Pos}{o:Expr}{ta:TE}{Q:VK}{pl:Sem Bool}(he:PE X o ta)(c:Cls X.K C)(hm:Meth X.K C m fa)(F:fV X.prog X.w X.K X.mg X.base CX0 k fa fd ps sp)(hr:cX k X.A)(hb:Binds X.K fd ps [])
    (hcode:X.env.code= .ref c0) (Cd:W.codeHdIn X.K c0 P=true) (hbm:Bm X.K X.mg bm) (hcl:∀c,X.env.cells.lookup y=some c->closureFor isc X.env=pure [(y,c)]) (hy:X.N[iy]? =some y) (hyc:X.env.scope.names.lookup y=some .cell) (hfn:X.fn y=true) (hdef:defaultsOf ip X.env=([], [])) (hq:X.env.qual++"<lambda>"=iq)
    (hst:starEach [.Lambda ip ib isc lpos] X.env=(false,eval (.Lambda ip ib isc lpos) X.env)::starEach [] X.env:=by rfl)
    (ht:eval (.Call (.Attribute o m apos) [.Lambda ip ib isc lpos] [] pos) X.env=(do
      let ov<-eval o X.env
      standAt apos.atName
      let (f,first)<-holding [ov] (getMethod ov m pl)
      callWith pos f first (backTo pos (starEach [.Lambda ip ib isc lpos] X.env)) (backToKw pos (keywordEach [] X.env))):=by rfl) :
    PF X [.Return (some (.Call (.Attribute o m apos) [.Lambda ip ib isc lpos] [] pos)) p2] (b9J C P m iq y ip ib isc lpos iy sp ta Q) (b9F X Q):=by
  intro pins s σ H I h
  obtain⟨cc,hc⟩:=I.ok.has y (.inl hyc)
  refine XE (wpAny_Return_some ?_)
  have lam:PE X (.Lambda ip ib isc lpos) (fun σ H Q=>mJ P lpos iq H/\∀f c' H',H f=none->(∀b o,b≠P->H b=some o->H' b=some o)->xQ P lpos c' H'->(H c'=none\/xQ P lpos c' H)->H' c'=some (dW c' iq)->H' f=some (nW f iq ip ib isc [(y,cc)] c')->Q (.ref f) H'):=by
    intro pins s σ H Q I ⟨hT,kk⟩
    refine W.kla_eval hdef ?_
    rw[hq]
    exact b4Y I hcode Cd hbm hT (hcl cc hc) fun f c' H' s' hf hsm hT' hor hc' hf' J=>⟨.ref f,H',J,rfl,kk f c' H' hf hsm hT' hor hc' hf'⟩
  refine Xe (pl:=pl) (thn (he pins s σ H _ I h) fun u s1 hz1=>?_) ht
  obtain⟨x,H1,I1,rx,a,dx,fs,w,ex,ea,l,hw,hT,q⟩:=hz1
  subst ex
  obtain rfl:u=Value.ref a:=rx
  refine fB I1 ea c hm l ?_
  have hn1:=I1.freeC y cc hc
  refine XG (first:=[.ref a]) (h₀:=X.base) I.ok.mod.kin hm.kp (thn ((aA lam aC hst) pos pins s1 σ H1 (fun vs H2=>∃f c',vs= [.ref f]/\H1 f=none/\(∀b o,b≠P->H1 b=some o->H2 b=some o)/\xQ P lpos c' H2/\(H1 c'=none\/xQ P lpos c' H1)/\H2 c'=some (dW c' iq)/\H2 f=some (nW f iq ip ib isc [(y,cc)] c')) I1 ⟨hT,fun f c' H' h1 h2 h3 h3' h4 h5=>⟨f,c',rfl,h1,h2,h3,h3',h4,h5⟩⟩) fun us s2 hz2=>?_) hst rfl
  obtain⟨vs,H2,I2,r,f,c',e1,h1,h2,h3,h3',h4,h5⟩:=hz2
  refine⟨I2.kIn,?_⟩
  subst e1
  have hn2:=I2.freeC y cc hc
  obtain⟨mm,_,hl⟩:=I2.loc
  obtain⟨uv,ru,lk⟩:=hl iy y w hy hw (.inr (.inl hyc))
  have hcell:s2.heap.IsCell cc (some uv):=by
    rcases lk with ⟨hk,_⟩ | ⟨_,c2,hc2,hcell⟩
    · have hk':X.env.scope.names.lookup y=some .local:=hk
      rw[hyc]at hk';cases hk'
    · rw[hc]at hc2
      cases hc2
      exact hcell
  have hco:∃o,s2.heap.get? cc=some o:=by obtain⟨o,ho,_⟩:=hcell;exact⟨o,ho⟩
  have hcs:X.s₀.heap.objs.size<=cc:=I2.ok.cab y cc hfn hc
  obtain⟨H3,hH3⟩:∃H3,H3=upd H2 cc (cI cc w):=⟨_,rfl⟩
  have up:∀b o,H2 b=some o->H3 b=some o:=fun b o z=>by rw[hH3,aH (aJ z hn2)];exact z
  have hok3:HOk X.prog X.w H3 s2.heap:=fun b o z=>by
    by_cases hbc:b=cc
    · subst hbc
      rw[hH3,aB]at z
      cases z
      exact⟨⟨uv,ru,hcell⟩,hco,fun k1 k2 ⟨v1,r1,o1,ho1,hd1⟩ kk=>⟨v1,r1,o1,kk _ ho1,hd1⟩⟩
    · rw[hH3,aH hbc]at z
      exact(I2.hok b o z).stay (fun d u' _ zz=>zz) (fun d zz=>up d _ zz) fun d xs zz=>up d _ zz
  have e0:=I2.env0
  have ltc:∀b,b<X.s₀.heap.objs.size->b≠cc:=fun b z=>Yy (Ye z hcs)
  have e3 :oR X.prog X.w X.K X.mg X.base X.A X.stack s2 H3:=⟨e0.frames,e0.mod,fun b o z=>⟨(e0.bs b o z).1,by
      rw[hH3,aH (ltc b (Ye (Ym z) I2.ok.bsz))];exact(e0.bs b o z).2⟩,e0.bsz,e0.funs,fun b z=>by
      rw[hH3,aH fun q=>?_]
      · exact e0.frf b z
      · rcases Yt.mp (I2.stkSub b z) with e | hb'
        · exact I2.cne y cc hc (q.symm.trans e)
        · obtain⟨_,o,ho,_⟩:=I2.ok.funs.mem hb'
          exact ltc b (Ym ho) q,hok3,e0.bare⟩
  have hspec:=q f cc c' H3 h1 hn1 (fun b o n z=>up b o (h2 b o n z)) (by
    obtain⟨qs,a1,a2,a3⟩:=h3
    exact⟨qs,up _ _ a1,a2,a3⟩) h3' (up _ _ h4) (by rw[hH3,aB]) (up _ _ h5)
  have hl2:((Value.ref a::us)++[]).length=ps.length:=by
    rw[YQ,<-(show Vals (.ref a::[.ref f]) (Value.ref a::us) from .cons rfl r).length];exact F.len _ _ _ _ hspec
  have hbd:=hb s2 (.ref a::us) I2.kIn hl2
  rw[YQ]at hbd
  refine wpAny_call (XO (F.run X.A X.stack s2 H3 ⟨.ref a::us, []⟩ (.ref a::us) [.ref a,.ref f] Q _ hr e3 hbd (.cons rfl r) hspec) fun r s' hq'=>?_)
  cases r with
  |error e=>exact hq'.elim
  | ok fl =>
    cases fl with
    |next=>exact False.elim hq'
    |brk=>exact False.elim hq'
    |cont=>exact False.elim hq'
    | ret u=>
      obtain⟨v,H',os,bare,un,hok,rv,qq⟩:=hq'
      have b0:=I2.base
      have h30:∀b ob,X.s₀.heap.get? b=some ob->H2 b=none->H3 b=none:=fun b ob z n=>by
        rw[hH3,aH (ltc b (Ym z))];exact n
      have nst:∀b ob,X.s₀.heap.get? b=some ob->b∉X.fs->b∉frs X.stack:=fun b ob z n hb'=>by
        rcases Yt.mp (I2.stkSub b hb') with e | hb''
        · have:=I2.ok.above
          rw[<-e]at this
          exact absurd (Ym z) (Nat.not_lt.mpr this)
        · exact n hb''
      refine⟨u,rfl,v,H',os.trans I2.os,bare,⟨fun b ob z n hb' hx=>?_,fun b ob z n hb' hx=>?_,fun b ob z n hx=>?_,fun b ob z hx=>?_,fun b xs z=>?_,fun b ob uu z=>?_,fun b qs z=>?_⟩,hok,rv,qq⟩
      · exact un.keep b ob (b0.keep b ob z n hb' hx) (h30 b ob z (b0.free b ob z n hx)) (nst b ob z hb') (by simp)
      · obtain⟨sl,e1⟩:=b0.slot b ob z n hb' hx
        obtain⟨sl',e2⟩:=un.any e1 (h30 b ob z (b0.free b ob z n hx)) (by simp)
        exact⟨sl',e2⟩
      · obtain⟨o',e1⟩:=b0.there b ob z hx
        exact un.free b o' e1 (h30 b ob z (b0.free b ob z n hx)) (by simp)
      · obtain⟨o',e1⟩:=b0.there b ob z hx
        exact un.there b o' e1 (by simp)
      · exact un.tups b xs (up _ _ (b0.tups b xs z))
      · exact un.frzs b ob uu (up _ _ (b0.frzs b ob uu z))
      · obtain⟨m1,z1⟩:=b0.tbls b qs z
        obtain⟨m2,z2⟩:=un.tbls b _ (up _ _ z1)
        exact⟨m1++m2,by rw[z2,Array.append_assoc]⟩
end
theorem Fun.okL {CX:CXT}{P:Program}{w:World}{K:W.Frag}{mg:Str->Option Value}{base:Heap}{x qual:Str}{st:Stmt}{f c0:Addr}{fd:FuncData}{N ps:List Str}{k:Nat}{sp:Sp}(F:Fun K x qual st f fd)(hcode:fd.code= .ref c0)(S:fY N ps (aR st))(len:∀vs H Q E,sp vs H Q E->vs.length=ps.length)
  (hbody:∀(A:Around)(outer:List Env)(s:Shared)(H:Hp)(vs:List V)(Q:VK)(E:XK),cX k (A.deeper (envOfC qual (aR st) s.heap.objs.size f (.ref c0)))->sp vs H Q E->
   ∃u,PF (mG CX P w K mg base N qual (aR st) f (.ref c0) A outer s H E) (cZ st) u (b9F (mG CX P w K mg base N qual (aR st) f (.ref c0) A outer s H E) Q)/\u (start N vs) H):fV P w K mg base CX (k+1) f fd ps sp:=by
 obtain⟨oc,od,kV,doc,pm,an,cdv,ct,osl,rfl,lk,hcd⟩:=F.ex
 have hcv:cdv= .ref c0:=hcode
 subst hcv
 refine⟨len,fun A outer s H args us vs Q E hr e0 hb r hsp=>?_⟩
 have hl:=len _ _ _ _ hsp
 have KX:K.In s.heap:=e0.mod.kin.keeps fun b o e=>(e0.bs b o e).1
 have lim:s.heap.NoLimit:=e0.mod.nolimit.keeps fun b o e=>(e0.bs b o e).1
 refine XT hr.depth (KX _ _ lk) rfl S.co S.gen rfl (W.codeRec_of KX hcd) (hb _ _ _ _ ?_)
 refine wpAny_newFunctionEnv_cells S.kind (fun ⟨n,v⟩ hy=>by
  rcases S.par n (Xo hy).1 with q | q
  ·exact .inl q
  ·exact .inr ⟨q,W.cellsFrom_some _ _ _ (.inl q)⟩) fun env he s1 xx=>?_
 subst he
 refine⟨lim.keeps xx.toInCall.keep,codeAny_func ?_⟩
 obtain⟨u,hu,hq⟩:=hbody A outer s H vs Q E (hr.deeper _) hsp
 have I:Inv (mG CX P w K mg base N qual (aR st) f (.ref c0) A outer s H E) [] (start N vs) H s1:=oM S hr.hd e0 hl r xx
 refine Y4 (hu [] s1 (start N vs) H I hq) (fun fl s' hs=>?_) fun e s' hs=>hs
 obtain⟨v,rfl,v',H',os,bare,un,hok,rv,q⟩:=hs
 exact⟨v',H',os,bare,un,hok,rv,q⟩
def lH (H:Hp):List (Str×Addr)->List V->Hp
 |p::cl,w::ws=>upd (lH H cl ws) p.2 (cI p.2 w)
 |_,_=>H
theorem gK:∀{cl:List (Str×Addr)}{ws:List V},b∉cl.map (·.2)->lH H cl ws b=H b
 |[],_,_=>by unfold lH;rfl
 |_::_, [],_=>rfl
 | p::cl,w::ws,h=>by
  show upd (lH H cl ws) p.2 _ b=_
  rw[aH (fun z=>h (by rw[YI,z];exact YH)),gK fun z=>h (by rw[YI];exact Yz _ z)]
theorem a1Q:∀{cl:List (Str×Addr)}{ws:List V},(cl.map (·.2)).Nodup->cl.length=ws.length->∀{i:Nat}{p:Str×Addr}{w:V},cl[i]? =some p->ws[i]? =some w->lH H cl ws p.2=some (cI p.2 w)
 |[],_,_,_,i,_,_,h,_=>by simp at h
 |_::_, [],_,hl,_,_,_,_,_=>by cases hl
 |q::cl,x::ws,nd,hl,0,p,w,h1,h2=>by cases h1;cases h2;exact aB
 | q::cl,x::ws,nd,hl,i+1,p,w,h1,h2=>by
  rw[YI,Y7]at nd
  have h1':cl[i]? =some p:=h1
  show upd (lH H cl ws) q.2 _ p.2=_
  rw[aH (fun z=>nd.1 (by rw[<-z];exact YD.mpr ⟨p,Yi h1',rfl⟩))]
  exact a1Q nd.2 (Nat.succ.inj hl) h1' h2
structure mK (X:Cx)(σ:St)(cl:List (Str×Addr))(ws:List V):Prop where
 len:cl.length=ws.length
 nd:(cl.map (·.2)).Nodup
 lk:∀p∈cl,X.env.cells.lookup p.1=some p.2
 cel:∀p∈cl,X.env.scope.names.lookup p.1=some .cell
 at_:∀(i:Nat)(p:Str×Addr)(w:V),cl[i]? =some p->ws[i]? =some w->∃j:Nat,X.N[j]? =some p.1/\σ[j]? =some (some w)
section
variable {s':Shared}{ws:List V}
def mK.cell (oc:mK X σ cl ws)(I:Inv X pins σ H s){p:Str×Addr}{w:V}(h1:cl[i]? =some p)(h2:ws[i]? =some w):∃u,RelV w u/\s.heap.IsCell p.2 (some u):=by
 have hp:=Yi h1
 obtain⟨j,hj,hw⟩:=oc.at_ i p w h1 h2
 obtain⟨mm,_,hl⟩:=I.loc
 obtain⟨uv,ru,lk⟩:=hl j p.1 w hj hw (.inr (.inl (oc.cel p hp)))
 rcases lk with ⟨hk,_⟩ | ⟨_,c2,hc2,hcell⟩
 ·have hk':X.env.scope.names.lookup p.1=some .local:=hk
  rw[oc.cel p hp]at hk';cases hk'
 ·rw[oc.lk p hp]at hc2
  cases hc2
  exact⟨uv,ru,hcell⟩
def mK.mem (oc:mK X σ cl ws)(h:b∈cl.map (·.2)):∃(i:Nat)(p:Str×Addr)(w:V),cl[i]? =some p/\ws[i]? =some w/\p.2=b/\X.env.cells.lookup p.1=some b:=by
 obtain⟨p,hp,rfl⟩:=YD.mp h
 obtain⟨i,hi,e⟩:=YT hp
 exact⟨i,p,ws[i]'(by rw[<-oc.len];exact hi),by rw[Yb hi,e],Yb _,rfl,oc.lk p hp⟩
def mK.new (oc:mK X σ cl ws)(I:Inv X pins σ H s)(hfn:∀x,X.fn x=true)(h:b∈cl.map (·.2)):X.s₀.heap.objs.size<=b/\H b=none/\b≠X.env.locals:=by
 obtain⟨i,p,w,_,_,rfl,hc⟩:=oc.mem h
 exact⟨I.ok.cab p.1 p.2 (hfn _) hc,I.freeC p.1 p.2 hc,I.cne p.1 p.2 hc⟩
def mK.up (oc:mK X σ cl ws)(I:Inv X pins σ H s)(hfn:∀x,X.fn x=true){o:HO}(e:H b=some o):lH H cl ws b=some o:=by
 rw[gK fun z=>by rw[(oc.new I hfn z).2.1]at e;cases e]
 exact e
def mK.hok (oc:mK X σ cl ws)(I:Inv X pins σ H s)(hfn:∀x,X.fn x=true):HOk X.prog X.w (lH H cl ws) s.heap:=fun b o e=>by
 by_cases hb:b∈cl.map (·.2)
 ·obtain⟨i,p,w,h1,h2,rfl,_⟩:=oc.mem hb
  rw[a1Q oc.nd oc.len h1 h2]at e
  cases e
  obtain⟨uv,ru,hcell⟩:=oc.cell I h1 h2
  exact⟨⟨uv,ru,hcell⟩,(by obtain⟨o,ho,_⟩:=hcell;exact⟨o,ho⟩),fun k1 k2 ⟨v1,r1,o1,ho1,hd1⟩ kk=>⟨v1,r1,o1,kk _ ho1,hd1⟩⟩
 ·rw[gK hb]at e
  exact(I.hok b o e).stay (fun d u' _ zz=>zz) (fun d zz=>oc.up I hfn zz) fun d xs zz=>oc.up I hfn zz
def mK.env0 (oc:mK X σ cl ws)(I:Inv X pins σ H s)(hfn:∀x,X.fn x=true):oR X.prog X.w X.K X.mg X.base X.A X.stack s (lH H cl ws):=by
 have e0:=I.env0
 have ltc:∀b,b<X.s₀.heap.objs.size->b∉cl.map (·.2):=fun b z q=>YW _ (Ye z (oc.new I hfn q).1)
 refine⟨e0.frames,e0.mod,fun b o z=>⟨(e0.bs b o z).1,?_⟩,e0.bsz,e0.funs,fun b z=>?_,oc.hok I hfn,e0.bare⟩
 ·rw[gK (ltc b (Ye (Ym z) I.ok.bsz))];exact(e0.bs b o z).2
 ·rw [gK fun q=>?_]
  ·exact e0.frf b z
  ·rcases Yt.mp (I.stkSub b z) with e | hb'
   ·exact(oc.new I hfn q).2.2 e
   ·obtain⟨_,o,ho,_⟩:=I.ok.funs.mem hb'
    exact ltc b (Ym ho) q
theorem Inv.backC (I:Inv X pins σ H s)(oc:mK X σ cl ws)(hfn:∀x,X.fn x=true)(hN:X.N.Nodup)(ho:s'.os=s.os)(un:Un (frs X.stack) [] (lH H cl ws) H' s.heap s'.heap)(hok:HOk X.prog X.w H' s'.heap)(hg:AllBare s'.gens)
  (hc:∀(i:Nat)(p:Str×Addr)(w:V),cl[i]? =some p->ws[i]? =some w->H' p.2=some (cI p.2 w)):Inv X pins σ (fU H' (cl.map (·.2))) s':=by
 have b0:=I.base
 have his:∀c∈cl.map (·.2),∃v,H' c=some (cI c v):=fun c h=>by
  obtain⟨i,p,w,h1,h2,rfl,_⟩:=oc.mem h
  exact⟨w,hc i p w h1 h2⟩
 have ltc:∀b,b<X.s₀.heap.objs.size->b∉cl.map (·.2):=fun b z q=>YW _ (Ye z (oc.new I hfn q).1)
 have h30:∀b ob,X.s₀.heap.get? b=some ob->H b=none->lH H cl ws b=none:=fun b ob z n=>by rw[gK (ltc b (Ym z))];exact n
 have nst:∀b ob,X.s₀.heap.get? b=some ob->b∉X.fs->b∉frs X.stack:=fun b ob z n hb'=>by
  rcases Yt.mp (I.stkSub b hb') with e | hb''
  ·have:=I.ok.above
   rw[<-e]at this
   exact absurd (Ym z) (Nat.not_lt.mpr this)
  ·exact n hb''
 have nx:∀b u,H' b=some u->(∀φ,u≠ .ext φ)->b∉cl.map (·.2):=fun b u q hn z=>by
  obtain⟨v,e2⟩:=his b z
  rw[q]at e2
  exact hn _ (Yo e2)
 have hid0:∀b,H' b=none->fU H' (cl.map (·.2)) b=none:=fun b e=>by unfold fU;split <;> first | rfl | exact e
 obtain⟨m,hns,hl⟩:=I.loc
 obtain⟨oL,es,ep,hoL,rL⟩:=id hns
 have hLn:X.env.locals∉cl.map (·.2):=fun z=>(oc.new I hfn z).2.2 rfl
 have hL3:lH H cl ws X.env.locals=none:=by rw[gK hLn];exact I.free
 obtain⟨sl,hL⟩:=un.any hoL hL3 (by simp)
 have ns':s'.heap.Ns X.env.locals m:=⟨_,es,ep,hL,rL⟩
 have cellK:∀x c v,X.env.cells.lookup x=some c->c∉cl.map (·.2)->s.heap.IsCell c v->s'.heap.IsCell c v:=fun x c v hx hn hcl=>by
  obtain⟨o,ho,hd⟩:=hcl
  refine⟨o,un.keep c o ho (by rw[gK hn];exact I.freeC x c hx) (fun z=>?_) (by simp),hd⟩
  rcases Yt.mp (I.stkSub c z) with e | hb'
  ·exact I.cne x c hx e
  ·obtain⟨_,o',ho',_⟩:=I.ok.funs.mem hb'
   exact YW _ (Ye (Ym ho') (I.ok.cab x c (hfn _) hx))
 have cellO:∀(i:Nat)(p:Str×Addr)(w:V),cl[i]? =some p->ws[i]? =some w->∃u,RelV w u/\s'.heap.IsCell p.2 (some u):=fun i p w h1 h2=>(hok _ _ (hc i p w h1 h2)).1
 refine⟨I.ok,ho.trans I.os,hg,⟨fun b ob z n hb' hx=>?_,fun b ob z n hb' hx=>?_,fun b ob z n hx=>?_,fun b ob z hx=>?_,fun b xs z=>?_,fun b ob uu z=>?_,fun b qs z=>?_⟩,⟨m,ns',fun i x v e1 e2 e3=>?_⟩,fun x c hx=>?_,?_,fun x c hx=>?_,fun p hp=>?_,xF hok his fun b u e=>e,I.len⟩
 ·exact un.keep b ob (b0.keep b ob z n hb' hx) (h30 b ob z (b0.free b ob z n hx)) (nst b ob z hb') (by simp)
 ·obtain⟨sl,e1⟩:=b0.slot b ob z n hb' hx
  obtain⟨sl',e2⟩:=un.any e1 (h30 b ob z (b0.free b ob z n hx)) (by simp)
  exact⟨sl',e2⟩
 ·obtain⟨o',e1⟩:=b0.there b ob z hx
  exact hid0 b (un.free b o' e1 (h30 b ob z (b0.free b ob z n hx)) (by simp))
 ·obtain⟨o',e1⟩:=b0.there b ob z hx
  exact un.there b o' e1 (by simp)
 ·have e:=un.tups b xs (oc.up I hfn (b0.tups b xs z))
  rw[bJ (nx b _ e fun φ q=>by cases q)];exact e
 ·have e:=un.frzs b ob uu (oc.up I hfn (b0.frzs b ob uu z))
  rw[bJ (nx b _ e fun φ q=>by cases q)];exact e
 ·obtain⟨m1,z1⟩:=b0.tbls b qs z
  obtain⟨m2,z2⟩:=un.tbls b _ (oc.up I hfn z1)
  exact⟨m1++m2,by rw[bJ (nx b _ z2 fun φ q=>by cases q),z2,Array.append_assoc]⟩
 ·obtain⟨u,ru,lk⟩:=hl i x v e1 e2 e3
  rcases lk with lk | ⟨hk,c,hx,hcell⟩
  ·exact⟨u,ru,.inl lk⟩
  ·by_cases hcm:c∈cl.map (·.2)
   ·obtain⟨i',p,w,h1,h2,rfl,hp⟩:=oc.mem hcm
    obtain⟨j,hj,hw⟩:=oc.at_ i' p w h1 h2
    have ex:x=p.1:=I.ok.inj x p.1 p.2 hx hp
    have ij:i=j:=qO hN e1 (ex▸hj)
    subst ij
    rw[e2]at hw
    cases hw
    obtain⟨u',ru',hcell'⟩:=cellO i' p v h1 h2
    exact⟨u',ru',.inr ⟨hk,p.2,hx,hcell'⟩⟩
   ·exact⟨u,ru,.inr ⟨hk,c,hx,cellK x c _ hx hcm hcell⟩⟩
 ·by_cases hcm:c∈cl.map (·.2)
  ·obtain⟨i',p,w,h1,h2,rfl,hp⟩:=oc.mem hcm
   obtain⟨u',_,hcell'⟩:=cellO i' p w h1 h2
   exact⟨_,hcell'⟩
  ·obtain⟨v,hv⟩:=I.cell x c hx
   exact⟨v,cellK x c v hx hcm hv⟩
 ·exact hid0 _ (un.free _ oL hoL hL3 (by simp))
 ·by_cases hcm:c∈cl.map (·.2)
  ·exact jL hcm
  ·obtain⟨v,o,ho,_⟩:=I.cell x c hx
   exact hid0 c (un.free c o ho (by rw[gK hcm];exact I.freeC x c hx) (by simp))
 ·obtain⟨p1,p2,p3,p4,p5⟩:=I.pin p hp
  have hpc:p.1∉cl.map (·.2):=fun z=>by
   obtain⟨i',q,w,h1,h2,e,_⟩:=oc.mem z
   obtain⟨u',_,o,ho,hd⟩:=oc.cell I h1 h2
   rw[e,p1]at ho
   cases ho
   exact p5 _ hd
  have n3:lH H cl ws p.1=none:=by rw[gK hpc];exact p2
  refine⟨un.keep p.1 p.2 p1 n3 (fun z=>?_) (by simp),hid0 _ (un.free _ _ p1 n3 (by simp)),p3,p4,p5⟩
  exact(Yt.mp (I.stkSub p.1 z)).elim p3 p4
theorem a9T {k:Nat}{f:Addr}{fd:FuncData}{ps:List Str}{sp:Sp}{us:List Value}{vs:List V}{Q:VK}(F:fV X.prog X.w X.K X.mg X.base CX0 k f fd ps sp)(hr:cX k X.A)(hb:Binds X.K fd ps [])(I:Inv X pins σ H s)(r:Vals vs us)(oc:mK X σ cl ws)(hfn:∀x,X.fn x=true)(hN:X.N.Nodup)
  (h:sp vs (lH H cl ws) (fun v H'=>(∀(i:Nat)(p:Str×Addr)(w:V),cl[i]? =some p->ws[i]? =some w->H' p.2=some (cI p.2 w))/\Q v (fU H' (cl.map (·.2)))) fun _ _ _=>False):wpAny (model X.prog X.w) X.A (call (.ref f) us) (EP X pins σ Q) X.xe s:=by
 have hl2:(us++[]).length=ps.length:=by rw[YQ,<-r.length];exact F.len _ _ _ _ h
 have hbd:=hb s us I.kIn hl2
 rw[YQ]at hbd
 refine wpAny_call (XO (F.run X.A X.stack s (lH H cl ws) ⟨us, []⟩ us vs _ _ hr (oc.env0 I hfn) hbd r h) fun r s' hq'=>?_)
 cases r with
 |error e=>exact hq'.elim
 | ok fl=>
  cases fl with
  |next=>exact False.elim hq'
  |brk=>exact False.elim hq'
  |cont=>exact False.elim hq'
  | ret u=>
   obtain⟨v,H',os,bare,un,hok,rv,hc,qq⟩:=hq'
   exact⟨v,_,I.backC oc hfn hN os un hok bare hc,rv,qq⟩
def cellsOf (X:Cx)(ys:List Str):List (Str×Addr):=ys.map fun y=>(y,(X.env.cells.lookup y).getD 0)
def b5U (C:Addr)(m:Str)(sp:Sp)(cl:List (Str×Addr))(js:List Nat)(ta:TE)(t:TA):TE:=fun σ H Q=>ta σ H fun x H1=>vR x fun a=>(∃dx fs,H1 a=some (.ins C dx fs)/\fs.lookup m=none)/\t σ H1 fun vs H2=>∃ws:List V,js.map (fun j=>σ[j]?)=ws.map (fun w=>some (some w))/\
 ((∀p∈cl,H2 p.2=none)->(cl.map (·.2)).Nodup->sp (.ref a::vs) (lH H2 cl ws) (fun v H'=>(∀(i:Nat)(p:Str×Addr)(w:V),cl[i]? =some p->ws[i]? =some w->H' p.2=some (cI p.2 w))/\Q v (fU H' (cl.map (·.2)))) fun _ _ _=>False)
theorem a7D {pl:Sem Bool}{C fa:Addr}{fd:FuncData}{ps ys:List Str}{js:List Nat}{k:Nat}{sp:Sp}{m:Str}{o e:Expr}{es:List Expr}{ta:TE}{t:TA}{apos pos:Pos}(c:Cls X.K C)(hm:Meth X.K C m fa)(F:fV X.prog X.w X.K X.mg X.base CX0 k fa fd ps sp)(hr:cX k X.A)(hb:Binds X.K fd ps [])(he:PE X o ta)(ha:PA X (e::es) t)
  (hfn:∀x,X.fn x=true) (hN:X.N.Nodup) (hyn:ys.Nodup) (hyc:∀y∈ys,X.env.scope.names.lookup y=some .cell) (hjs:js.map (fun j=>X.N[j]?)=ys.map some)
  (hst:starEach (e::es) X.env=(false,eval e X.env)::starEach es X.env:=by rfl) (hpl:(backTo pos (starEach es X.env)).any (·.1)=false:=by rfl)
  (ht:eval (.Call (.Attribute o m apos) (e::es) [] pos) X.env=(do
   let ov<-eval o X.env
   standAt apos.atName
   let (f,first)<-holding [ov] (getMethod ov m pl)
   callWith pos f first (backTo pos (starEach (e::es) X.env)) (backToKw pos (keywordEach [] X.env))):=by rfl) :
  PE X (.Call (.Attribute o m apos) (e::es) [] pos) (b5U C m sp (cellsOf X ys) js ta t):=by
 intro pins s σ H Q I h
 refine Xe (pl:=pl) (thn (he pins s σ H _ I h) fun u s1 hz=>?_) ht
 obtain⟨x,H1,I1,rx,q⟩:=hz
 obtain⟨a,rfl,⟨dx,fs,ea,l⟩,q⟩:=vR.ex q
 obtain rfl:u=Value.ref a:=rx
 refine fB I1 ea c hm l ?_
 refine XG (first:=[.ref a]) (h₀:=X.base) I.ok.mod.kin hm.kp (thn (ha pos pins s1 σ H1 _ I1 q) fun us s2 hz2=>?_) hst hpl
 obtain⟨vs,H2,I2,r,ws,hws,q2⟩:=hz2
 refine⟨I2.kIn,?_⟩
 have cel:∀y∈ys,∃c,X.env.cells.lookup y=some c:=fun y hy=>I2.ok.has y (.inl (hyc y hy))
 have lkp:∀p∈cellsOf X ys,p.1∈ys/\X.env.cells.lookup p.1=some p.2:=fun p hp=>by
  obtain⟨y,hy,rfl⟩:=YD.mp hp
  obtain⟨c,hc⟩:=cel y hy
  exact⟨hy,by show X.env.cells.lookup y=some ((X.env.cells.lookup y).getD 0);rw[hc];rfl⟩
 have ljs:js.length=ys.length:=by have:=YJ List.length hjs;rw[Ya,Ya]at this;exact this
 have lws:js.length=ws.length:=by have:=YJ List.length hws;rw[Ya,Ya]at this;exact this
 have ndc:((cellsOf X ys).map (·.2)).Nodup:=by
  unfold cellsOf
  rw[List.map_map]
  refine List.pairwise_map.mpr (hyn.imp_of_mem fun {y z} hy hz hne e=>hne ?_)
  obtain⟨c1,hc1⟩:=cel y hy
  obtain⟨c2,hc2⟩:=cel z hz
  have e':(X.env.cells.lookup y).getD 0=(X.env.cells.lookup z).getD 0:=e
  rw[hc1,hc2]at e'
  have e'':c1=c2:=e'
  exact I2.ok.inj y z c1 hc1 (e''▸hc2)
 have oc:mK X σ (cellsOf X ys) ws:=by
  refine⟨by unfold cellsOf;rw[Ya,<-ljs];exact lws,ndc,fun p hp=>(lkp p hp).2,fun p hp=>hyc _ (lkp p hp).1,fun i p w h1 h2=>?_⟩
  have hi:i<ys.length:=by have:=(Yd.mp h1).1;unfold cellsOf at this;rw[Ya]at this;exact this
  obtain⟨j,hj⟩:∃j,js[i]? =some j:=⟨_,Yb (by omega)⟩
  refine⟨j,?_,?_⟩
  ·have z:=YJ (fun l=>l[i]?) hjs
   simp only[Yl,hj,Yb hi,XD]at z
   rw[Yo z]
   unfold cellsOf at h1
   rw[Yl,Yb hi]at h1
   cases h1
   rfl
  ·have z:=YJ (fun l=>l[i]?) hws
   simp only[Yl,hj,h2,XD]at z
   exact Yo z
 exact a9T (us:= .ref a::us) (vs:= .ref a::vs) F hr hb I2 (.cons rfl r) oc hfn hN (q2 (fun p hp=>I2.freeC p.1 p.2 (lkp p hp).2) ndc)
end
section
def b6W (P:Addr)(pos:Pos)(iq:Str)(st:Stmt)(im:Nat)(cl:List (Str×Addr)):TS:=fun D σ H=>mJ P pos iq H/\
 ∀g c' H3,H g=none->(H P=some (.tbl #[])->H c'=none)->(∀b o,b≠P->H b=some o->H3 b=some o)->mJ P pos iq H3->H3 c'=some (dW c' iq)->H3 g=some (FnO g st iq cl c')->D.nx (σ.set im (some (.ref g))) H3
theorem b0B {c0 P bm:Addr}{nm iq:Str}{ip:Arguments}{ib:List Stmt}{isc:Scope}{pos:Pos}{im:Nat}{ys:List Str}(hcode:X.env.code= .ref c0)(C:W.codeHdIn X.K c0 P=true)(hb:Bm X.K X.mg bm)(hcl:closureFor isc X.env=pure (cellsOf X ys))
  (hN:X.N.Nodup) (hm:X.N[im]? =some nm) (hml:X.env.scope.names.lookup nm=some .local)
  (hd0:ip.defaults= []) (hk0:ip.kw_defaults= []) (ha:annTrees ip none X.env= []) (hq:qualnameIn X.env nm nm=iq) :
  PS X (uP nm ip ib isc pos) (b6W P pos iq (uP nm ip ib isc pos) im (cellsOf X ys)):=by
 intro pins s σ H D I ⟨hT,k⟩
 refine W.nestDef_K hd0 hk0 ha ?_
 rw[hq]
 refine b2T I hcode C hb hT hcl fun g c' H' s' hg hfr hsm hT' hc' hf' J=>?_
 refine kZ (v:= .ref g) J hN hm (.inl hml) rfl (fun s2 J2=>?_) (.inr hml)
 exact⟨_,H',J2,k g c' H' hg hfr hsm hT' hc' hf'⟩
end
end L2
namespace Bm
def rG (n j:Nat):Int:=if n.testBit j then 1 else 0
def cM (n m:Nat):List Int:=(List.range m).map fun i=>rG n (m-1-i)
def jV (bs:List Int):Int:=bs.foldl (fun x b=>x*2+b) 0
def bU (bs:List Int):Prop:=∀b∈bs,b=0\/b=1
def b1U (n j:Nat):rG n j=0\/rG n j=1:=by unfold rG;split <;> simp
def kI (n m:Nat):bU (cM n m):=fun b hb=>by
 obtain⟨i,_,rfl⟩:=YD.mp hb
 exact b1U _ _
def cP (n m:Nat):(cM n m).length=m:=by unfold cM;rw[Ya,YK]
def sZ {n m k:Nat}(h:k<(cM n m).length):(cM n m)[k]=rG n (m-1-k):=by simp[cM]
def a8C (n j:Nat):((n / 2 ^ j:Nat):Int)=((n / 2 ^ (j+1):Nat):Int)*2+rG n j:=by
 have e:n / 2 ^ (j+1)=n / 2 ^ j / 2:=by rw[XX,Nat.div_div_eq_div_mul]
 unfold rG
 rw[Y1,e]
 generalize n / 2 ^ j=q
 by_cases h:q % 2=1
 ·rw[Yp h,if_pos rfl];omega
 ·rw[Yr h,if_neg (by decide)];omega
def a6X:jV []=0:=rfl
def oG (l:List Int)(b:Int):jV (l++[b])=jV l*2+b:=by
 unfold jV;rw[Xh];rfl
def a2S (l:List Int):∀x:Int,l.foldl (fun x b=>x*2+b) x=x*2 ^ l.length+jV l:=by
 induction l with
 |nil=>intro x;simp[jV]
 | cons b r ih=>
  intro x
  unfold jV
  rw[Xp,Xp,ih,ih,YU,Int.pow_succ]
  have:(x*2+b)*2 ^ r.length=x*(2 ^ r.length*2)+b*2 ^ r.length:=by
   rw[Int.add_mul,Int.mul_assoc,Int.mul_comm 2 (2 ^ r.length)]
  rw[this]
  simp only[Int.zero_mul,Y8]
  omega
def sO (b:Int)(l:List Int):jV (b::l)=b*2 ^ l.length+jV l:=by
 show (b::l).foldl _ 0=_
 rw[Xp,a2S];simp
def uD {l:List Int}(h:bU l):0<=jV l/\jV l<2 ^ l.length:=by
 induction l with
 |nil=>exact⟨Int.le_refl _,by decide⟩
 | cons b r ih=>
  have:=ih fun z hz=>h z (Yz _ hz)
  rw[sO,YU,Int.pow_succ]
  have p:(0:Int)<2 ^ r.length:=Int.pow_pos (by decide)
  rcases h b YH with rfl | rfl
  ·omega
  ·omega
def a6V (n m:Nat)(hn:n<2 ^ m):∀k,k<=m->jV ((cM n m).take k)=((n / 2 ^ (m-k):Nat):Int):=by
 intro k
 induction k with
 | zero=>
  intro _
  rw[X2,a6X,Nat.sub_zero,Nat.div_eq_of_lt hn];rfl
 | succ k ih=>
  intro hk
  have hl:k<(cM n m).length:=by rw[cP];omega
  rw[Yh hl,oG,ih (by omega)]
  have e1:(cM n m)[k]=rG n (m-1-k):=sZ hl
  rw[e1]
  have e2:m-k=(m-1-k)+1:=by omega
  have e3:m-(k+1)=m-1-k:=by omega
  rw[e2,e3,a8C n (m-1-k)]
def a6W {n m:Nat}(hn:n<2 ^ m):jV (cM n m)=(n:Int):=by
 have h:=a6V n m hn m (Yf _)
 rw[Ys (by rw[cP];exact Yf _),Nat.sub_self,Nat.pow_zero,Nat.div_one]at h
 exact h
end Bm
namespace Rn
open Bm
end Rn
namespace Cl
def xs:Nat->(Nat->Nat)->Nat
 |0,_=>0
 |n+1,f=>xs n f ^^^ f n
def xs_congr {n:Nat}{f g:Nat->Nat}(h:∀k,k<n->f k=g k):xs n f=xs n g:=by
 induction n with
 |zero=>rfl
 | succ n ih=>
  show xs n f ^^^ f n=xs n g ^^^ g n
  rw[ih (fun k hk=>h k (by omega)),h n (by omega)]
def xs_zero {n:Nat}{f:Nat->Nat}(h:∀k,k<n->f k=0):xs n f=0:=by
 induction n with
 |zero=>rfl
 | succ n ih=>
  show xs n f ^^^ f n=0
  rw[ih (fun k hk=>h k (by omega)),h n (by omega)];rfl
def xor4 (a b c d:Nat):(a ^^^ b) ^^^ (c ^^^ d)=(a ^^^ c) ^^^ (b ^^^ d):=by
 rw[XA,<-XA b c d,Nat.xor_comm b c,XA c b d,<-XA]
def xs_xor {n:Nat}{f g:Nat->Nat}:xs n (fun k=>f k ^^^ g k)=xs n f ^^^ xs n g:=by
 induction n with
 |zero=>exact(XY 0).symm
 | succ n ih=>
  show xs n (fun k=>f k ^^^ g k) ^^^ (f n ^^^ g n)=(xs n f ^^^ f n) ^^^ (xs n g ^^^ g n)
  rw[ih,xor4]
def xs_more {n m:Nat}{f:Nat->Nat}(hnm:n<=m)(h:∀k,n<=k->k<m->f k=0):xs m f=xs n f:=by
  induction m with
  | zero => have:n=0:=by omega
            subst this;rfl
  | succ m ih=>
    by_cases e:n=m+1
    · subst e;rfl
    · show xs m f ^^^ f m=xs n f
      rw[ih (by omega) (fun k h1 h2=>h k h1 (by omega)),h m (by omega) (by omega)]
      exact XY _
def self {n:Nat}:∀{a:Nat},a<2 ^ n->a=xs n (fun j=>if a.testBit j then 1 <<< j else 0):=by
  induction n with
  | zero => intro a h;have:a=0:=by simpa using h
            subst this;rfl
  | succ n ih=>
    intro a h
    show a=xs n (fun j=>if a.testBit j then 1 <<< j else 0) ^^^ (if a.testBit n then 1 <<< n else 0)
    have hlow:a % 2 ^ n<2 ^ n:=Nat.mod_lt _ (Nat.two_pow_pos n)
    have e1:xs n (fun j=>if a.testBit j then 1 <<< j else 0)=xs n (fun j=>if (a % 2 ^ n).testBit j then 1 <<< j else 0):=by
      refine xs_congr fun k hk=>?_
      rw[Nat.testBit_mod_two_pow]
      simp[hk]
    rw[e1,<-ih hlow]
    apply Nat.eq_of_testBit_eq
    intro i
    rw[XS,Nat.testBit_mod_two_pow]
    by_cases hi:i<n
    · have e2:(if a.testBit n=true then 1 <<< n else 0).testBit i=false:=by
        split
        · rw[Nat.testBit_shiftLeft];simp;omega
        · simp
      rw[e2];simp[hi]
    · by_cases hin:i=n
      · subst hin
        cases hb:a.testBit i with
        |true=>simp[Nat.testBit_shiftLeft]
        |false=>simp
      · have hgt:a.testBit i=false:=Y3 (Ye h (Yw (by decide) (by omega)))
        have e2:(if a.testBit n=true then 1 <<< n else 0).testBit i=false:=by
          split
          · rw[Nat.testBit_shiftLeft]
            have h1:(1:Nat).testBit (i-n)=false:=Y3 (Ye (by decide:1<2 ^ 1) (Yw (by decide) (by omega)))
            rw[h1,Bool.and_false]
          · simp
        rw[e2,hgt];simp[hi]
def xs_lt {n m:Nat}{f:Nat->Nat}(h:∀k,k<n->f k<2 ^ m):xs n f<2 ^ m:=by
 induction n with
 |zero=>exact Nat.two_pow_pos m
 |succ n ih=>exact Nat.xor_lt_two_pow (ih fun k hk=>h k (by omega)) (h n (by omega))
end Cl
namespace Rm
open Bm
def b3E {a b n:Nat}(ha:a<2 ^ (n+1))(hb:b<2 ^ (n+1))(ha':2 ^ n<=a)(hb':2 ^ n<=b):a ^^^ b<2 ^ n:=by
 apply Nat.lt_pow_two_of_testBit
 intro i hi
 rw[XS]
 by_cases e:i=n
 ·subst e
  have h1:a.testBit i=true:=by
   rw[Y1]
   have:a / 2 ^ i=1:=by
    apply XU
    ·simpa using ha'
    ·rw[XX]at ha;omega
   rw[this];rfl
  have h2:b.testBit i=true:=by
   rw[Y1]
   have:b / 2 ^ i=1:=by
    apply XU
    ·simpa using hb'
    ·rw[XX]at hb;omega
   rw[this];rfl
  rw[h1,h2];rfl
 ·have h1:a.testBit i=false:=Y3 (Ye ha (Yw (by decide) (by omega)))
  have h2:b.testBit i=false:=Y3 (Ye hb (Yw (by decide) (by omega)))
  rw[h1,h2];rfl
def nx (r:Nat):Nat:=if 32768<=2*r then (2*r) ^^^ 64647 else 2*r
def rr:Nat->Nat
 |0=>1
 |k+1=>nx (rr k)
def a6T {r:Nat}(h:r<32768):nx r<32768:=by
 unfold nx
 split
 ·exact b3E (n:=15) (by omega) (by decide) (by omega) (by decide)
 ·omega
theorem b2P:∀k,rr k<32768
 |0=>by decide
 |k+1=>a6T (b2P k)
def uC:nx 0=0:=by decide
def a8Z (a b:Nat):2*(a ^^^ b)=2*a ^^^ 2*b:=by
 have h:(a ^^^ b) <<< 1=a <<< 1 ^^^ b <<< 1:=Nat.shiftLeft_xor_distrib
 have e:∀z:Nat,z <<< 1=2*z:=fun z=>by rw[Xm];omega
 rw[e,e,e]at h
 exact h
def b2H {a:Nat}(h:a<32768):32768<=2*a↔a.testBit 14=true:=by
 rw[Y1,XH]
 show _↔a / 16384 % 2=1
 omega
def a6U {a:Nat}(h:a<32768):nx a=2*a ^^^ (if a.testBit 14=true then 64647 else 0):=by
 unfold nx
 by_cases c:a.testBit 14=true
 ·rw[if_pos c,if_pos ((b2H h).mpr c)]
 ·rw[if_neg c,if_neg fun z=>c ((b2H h).mp z),XY]
def a6S {a b:Nat}(ha:a<32768)(hb:b<32768):nx (a ^^^ b)=nx a ^^^ nx b:=by
 have hab:a ^^^ b<32768:=Nat.xor_lt_two_pow (n:=15) ha hb
 rw[a6U ha,a6U hb,a6U hab,Cl.xor4,a8Z,XS]
 cases a.testBit 14 <;> cases b.testBit 14 <;> rfl
def tm (n k:Nat):Nat:=if n.testBit k then rr k else 0
def R (n:Nat):Nat:=Cl.xs 600 (tm n)
def b2I (n k:Nat):tm n k<32768:=by unfold tm;split;exact b2P k;decide
def c1F (n:Nat):R n<32768:=Cl.xs_lt (m:=15) fun k _=>b2I n k
def b9B (a b:Nat):R (a ^^^ b)=R a ^^^ R b:=by
 unfold R
 rw[<-Cl.xs_xor]
 refine Cl.xs_congr fun k _=>?_
 unfold tm
 rw[XS]
 cases a.testBit k <;> cases b.testBit k <;> simp
def b6H:R 0=0:=Cl.xs_zero fun k _=>by unfold tm;rw[Nat.zero_testBit];rfl
def a5Y:∀k,k<15->rr k=1 <<< k:=by decide
def vJ {r:Nat}(h:r<32768):R r=r:=by
 unfold R
 have e:Cl.xs 600 (tm r)=Cl.xs 15 (tm r):=Cl.xs_more (by decide) fun k h1 _=>by
  unfold tm
  rw[Y3 (Ye h (Yw (n:=2) (i:=15) (by decide) h1))];rfl
 rw[e]
 have s:=Cl.self (n:=15) h
 conv=>rhs;rw[s]
 refine Cl.xs_congr fun k hk=>?_
 unfold tm
 rw[a5Y k hk]
def b7W {n:Nat}{f:Nat->Nat}(h:∀k,f k<32768):nx (Cl.xs n f)=Cl.xs n fun k=>nx (f k):=by
 induction n with
 |zero=>exact uC
 | succ n ih=>
  show nx (Cl.xs n f ^^^ f n)=_ ^^^ _
  rw[a6S (Cl.xs_lt (m:=15) fun k _=>h k) (h n),ih]
def a4D {n:Nat}{f:Nat->Nat}:Cl.xs (n+1) f=f 0 ^^^ Cl.xs n fun k=>f (k+1):=by
 induction n with
 |zero=>show 0 ^^^ f 0=f 0 ^^^ 0;rw[Nat.zero_xor,XY]
 | succ n ih=>
  show Cl.xs (n+1) f ^^^ f (n+1)=f 0 ^^^ (Cl.xs n (fun k=>f (k+1)) ^^^ f (n+1))
  rw[ih,XA]
def tb2 (n b k:Nat)(hb:b<2):(2*n+b).testBit (k+1)=n.testBit k:=by
 rw[Nat.testBit_succ]
 congr 1;omega
def b9K (n b:Nat)(hb:b<2):(2*n+b).testBit 0=decide (b=1):=by
 rw[Nat.testBit_zero]
 congr 1
 have:(2*n+b) % 2=b:=by omega
 rw[this]
def zW {n b:Nat}(hn:n<2 ^ 599)(hb:b<2):R (2*n+b)=nx (R n) ^^^ b:=by
 unfold R
 have e:Cl.xs 600 (tm n)=Cl.xs 599 (tm n):=Cl.xs_more (by decide) fun k h1 _=>by
  unfold tm
  rw[Y3 (Ye hn (Yw (by decide) h1))];rfl
 rw[e,b7W (b2I n),a4D,Nat.xor_comm]
 congr 1
 ·refine Cl.xs_congr fun k _=>?_
  unfold tm
  rw[tb2 n b k hb]
  cases n.testBit k
  ·exact uC.symm
  ·rfl
 ·unfold tm
  rw[b9K n b hb]
  have:b=0\/b=1:=by omega
  rcases this with rfl | rfl <;> rfl
def b9C {n:Nat}(hn:n<2 ^ 599):R (2*n)=nx (R n):=by
 have:=zW hn (b:=0) (by decide)
 rwa [Nat.add_zero,XY]at this
def b9D:∀p,p<=500->R (64647 <<< p)=0:=by
 intro p
 induction p with
 | zero=>
  intro _
  have e:(64647:Nat) <<< 0=2*32323+1:=by decide
  rw[e,zW (Ye (m:=2 ^ 15) (by decide) (Yw (by decide) (by decide))) (by decide),vJ (by decide)]
  decide
 | succ p ih=>
  intro hp
  have e:(64647:Nat) <<< (p+1)=2*64647 <<< p:=by rw[Xm,Xm,XX];omega
  rw[e,b9C,ih (by omega)]
  ·exact uC
  ·rw[Xm]
   have:(64647:Nat)*2 ^ p<2 ^ 16*2 ^ p:=Nat.mul_lt_mul_of_pos_right (by decide) (Nat.two_pow_pos p)
   rw[<-Nat.pow_add]at this
   exact Ye this (Yw (by decide) (by omega))
def b6I {r p:Nat}(hp:p<=500):R (r ^^^ 64647 <<< p)=R r:=by
 rw[b9B,b9D p hp,XY]
def nm (bs:List Int):Nat:=(jV bs).toNat
def pN {bs:List Int}(h:bU bs):((nm bs:Nat):Int)=jV bs:=Int.toNat_of_nonneg (uD h).1
def wH {bs:List Int}(h:bU bs):nm bs<2 ^ bs.length:=by
 have h1:=(uD h).2
 have h2:=pN h
 have:((nm bs:Nat):Int)<((2 ^ bs.length:Nat):Int):=by rw[h2];simpa using h1
 exact_mod_cast this
def b0T {bs:List Int}{b:Int}(h:bU bs)(hb:b=0\/b=1):nm (bs++[b])=2*nm bs+b.toNat:=by
 have h1:=pN h
 have h2:bU (bs++[b]):=fun z hz=>by
  rcases YB.mp hz with q | q
  ·exact h z q
  ·rw[Yj.mp q];exact hb
 have h3:=pN h2
 rw[oG]at h3
 rcases hb with rfl | rfl <;> (simp only[Int.toNat_zero,Int.toNat_one];omega)
def rst (bs:List Int):Nat:=R (nm bs)
def a5X (bs:List Int):rst bs<32768:=c1F _
def a9U:rst []=0:=b6H
def a5W {bs:List Int}{b:Int}(h:bU bs)(hl:bs.length<=500)(hb:b=0\/b=1):rst (bs++[b])=nx (rst bs) ^^^ b.toNat:=by
 unfold rst
 rw[b0T h hb]
 refine zW (Ye (wH h) (Yw (by decide) (by omega))) ?_
 rcases hb with rfl | rfl <;> decide
def stp (r:Nat)(b:Int):Nat:=nx r ^^^ b.toNat
def nxn:Nat->Nat->Nat
 |0,d=>d
 |n+1,d=>nxn n (nx d)
def b6C {b:Int}(h:b=0\/b=1):b.toNat<32768:=by rcases h with rfl | rfl <;> decide
def b3O {r:Nat}{b:Int}(hr:r<32768)(hb:b=0\/b=1):stp r b<32768:=Nat.xor_lt_two_pow (n:=15) (a6T hr) (b6C hb)
def qH {bs:List Int}(h:bU bs)(hl:bs.length<=500):rst bs=bs.foldl stp 0:=by
 have key:∀k,k<=bs.length->rst (bs.take k)=(bs.take k).foldl stp 0:=by
  intro k
  induction k with
  |zero=>intro _;exact a9U
  | succ k ih=>
   intro hk
   have ht:bU (bs.take k):=fun b hb=>h b (XR hb)
   rw[Yh (by omega),Xh,<-ih (by omega),a5W ht (by rw[Yx];omega) (h _ (YV _))]
   rfl
 have:=key bs.length (Yf _)
 rwa [Ys (Yf _)]at this
theorem xH:∀(suf:List Int),bU suf->∀r d,r<32768->d<32768->suf.foldl stp (r ^^^ d)=suf.foldl stp r ^^^ nxn suf.length d
 |[],_,_,_,_,_=>rfl
 | b ::s,h,r,d,hr,hd=>by
  have hb:=h b YH
  rw[Xp,Xp]
  have e:stp (r ^^^ d) b=stp r b ^^^ nx d:=by
   unfold stp
   rw[a6S hr hd,XA,Nat.xor_comm (nx d),<-XA]
  rw[e,xH s (fun z hz=>h z (Yz _ hz)) _ _ (b3O hr hb) (a6T hd)]
  rfl
end Rm
namespace Wm
open Bm Rn
abbrev S:=Option Int×Nat
def skp (s:S)(b:Int):S:=(some b,if s.1=some b then s.2+1 else 1)
def sk (w:List Int):S:=w.foldl skp (none,0)
def run (w:List Int):Nat:=(sk w).2
def lM (w:List Int)(b:Int):sk (w++[b])=skp (sk w) b:=by unfold sk;rw[Xh];rfl
def iW (w:List Int)(b:Int):run (w++[b])=if (sk w).1=some b then run w+1 else 1:=by unfold run;rw[lM];rfl
def oJ (w:List Int)(b:Int):(sk (w++[b])).1=some b:=by rw[lM];rfl
def snoc_ind {P:List Int->Prop}(h0:P [])(hs:∀w b,P w->P (w++[b]))(w:List Int):P w:=by
 have :∀n,∀w:List Int,w.length=n->P w:=by
  intro n
  induction n with
  |zero=>intro w hw;rw[List.eq_nil_of_length_eq_zero hw];exact h0
  | succ n ih=>
   intro w hw
   have hne:w≠ []:=fun z=>by rw[z]at hw;cases hw
   rw[<-List.dropLast_concat_getLast hne]
   exact hs _ _ (ih _ (by rw[List.length_dropLast,hw];rfl))
 exact this _ w rfl
def b4B (w:List Int):run w<=w.length:=by
 refine snoc_ind (P:=fun w=>run w<=w.length) (Yf _) (fun w b ih=>?_) w
 rw[iW,Yc,YG]
 split <;> omega
def last_eq (w:List Int)(h:0<w.length):(sk w).1=some (w.getD (w.length-1) 0):=by
 have hne:w≠ []:=fun z=>by rw[z]at h;cases h
 conv=>lhs;rw[<-List.dropLast_concat_getLast hne]
 rw[oJ,Yn,Yb (by omega),List.getLast_eq_getElem];rfl
def pst (w:List Int)(b:Int):List Int:=if run (w++[b])=5 then w++[b]++[1-b] else w++[b]
def put (l:List Int):List Int:=l.foldl pst []
def iG (l:List Int)(b:Int):put (l++[b])=pst (put l) b:=by unfold put;rw[Xh];rfl
def a0P (b:Int):¬ (some b:Option Int)=some (1-b):=fun z=>by have:=Yo z;omega
def a9Z {w:List Int}{b:Int}(h:run w<=4):run (pst w b)<=4:=by
 unfold pst
 by_cases c:run (w++[b])=5
 ·rw[if_pos c,iW,oJ,if_neg (a0P b)];omega
 ·rw[if_neg c]
  rw[iW]at c ⊢
  split at c <;> rename_i z
  ·rw[if_pos z];omega
  ·rw[if_neg z];omega
def tY (l:List Int):run (put l)<=4:=snoc_ind (P:=fun l=>run (put l)<=4) (by decide) (fun w b ih=>by rw[iG];exact a9Z ih) l
def a6E {l:List Int}(h:bU l):bU (put l):=by
 have : ∀ k,k<=l.length->bU (put (l.take k)):=by
  intro k
  induction k with
  |zero=>intro _ z hz;rw[X2]at hz;cases hz
  | succ k ih=>
   intro hk
   have hb:=h _ (YV (show k<l.length by omega))
   have hi:=ih (by omega)
   rw[Yh (by omega),iG]
   intro z hz
   unfold pst at hz
   split at hz
   ·rcases YB.mp hz with q | q
    ·rcases YB.mp q with q | q
     ·exact hi z q
     ·rw[Yj.mp q];exact hb
    ·rw[Yj.mp q];omega
   ·rcases YB.mp hz with q | q
    ·exact hi z q
    ·rw[Yj.mp q];exact hb
 have:=this l.length (Yf _)
 rwa [Ys (Yf _)]at this
def b0A (w:List Int)(b:Int):w.length+1<=(pst w b).length/\(pst w b).length<=w.length+2:=by
 unfold pst
 split <;> simp
def tZ (l:List Int):l.length<=(put l).length/\(put l).length<=2*l.length:=by
 refine snoc_ind (P:=fun l=>l.length<=(put l).length/\(put l).length<=2*l.length) ⟨Yf _,Yf _⟩ (fun w b ih=>?_) l
 have:=b0A (put w) b
 rw[iG,Yc,YG]
 omega
def kst (s:S×List Int)(b:Int):S×List Int:=(skp s.1 b,if s.1.2=5 then s.2 else s.2++[b])
def kp (w:List Int):List Int:=(w.foldl kst ((none,0), [])).2
def b1B (w:List Int):(w.foldl kst ((none,0), [])).1=sk w:=by
 refine snoc_ind (P:=fun w=>(w.foldl kst ((none,0), [])).1=sk w) rfl (fun w b ih=>?_) w
 rw[Xh,lM,<-ih];rfl
def gR (w:List Int)(b:Int):kp (w++[b])=if run w=5 then kp w else kp w++[b]:=by
 unfold kp run
 rw[Xh,<-b1B];rfl
def b5E:kp []= []:=rfl
def Good (w:List Int):Prop:=∀k,k<=w.length->run (w.take k)<=5
def Good.snoc {w:List Int}{b:Int}(h:Good w)(h5:run (w++[b])<=5):Good (w++[b]):=fun k hk=>by
 rw[Yc,YG]at hk
 by_cases c:k<=w.length
 ·rw[Xn c];exact h k c
 ·rw[Ys (by rw[Yc,YG];omega)];exact h5
def a5U {w:List Int}{b:Int}:run (w++[b])<=run w+1:=by rw[iW];split <;> omega
def a6D (l:List Int):Good (put l):=by
 refine snoc_ind (P:=fun l=>Good (put l)) (fun k hk=>?_) (fun w b ih=>?_) l
 ·have:k=0:=Nat.le_zero.mp hk
  subst this;decide
 ·rw [iG]
  have h4:=tY w
  have h1:run (put w++[b])<=5:=YN a5U (by omega)
  unfold pst
  split
  ·rename_i c
   refine(ih.snoc h1).snoc ?_
   rw[iW,oJ,if_neg (a0P b)];omega
  ·exact ih.snoc h1
def b5D (l:List Int):kp (put l)=l:=by
 refine snoc_ind (P:=fun l=>kp (put l)=l) rfl (fun w b ih=>?_) l
 rw[iG]
 have h4:=tY w
 have e1:kp (put w++[b])=w++[b]:=by rw[gR,if_neg (by omega),ih]
 unfold pst
 split
 ·rename_i c
  rw[gR,if_pos c,e1]
 ·exact e1
def a6B {w:List Int}(hb:bU w)(hg:Good w):put (kp w)=if run w=5 then w++[1-w.getD (w.length-1) 0] else w:=by
 have : ∀ k,k<=w.length->put (kp (w.take k))=if run (w.take k)=5 then w.take k++[1-w.getD (k-1) 0] else w.take k:=by
  intro k
  induction k with
  |zero=>intro _;rfl
  | succ k ih=>
   intro hk
   have hlt:k<w.length:=by omega
   have hbk:=hb _ (YV hlt)
   have gk:w.getD (k+1-1) 0=w[k]:=by rw[Nat.add_sub_cancel,Yn,Yb hlt];rfl
   have ih':=ih (by omega)
   have h5:=hg (k+1) hk
   rw[Yh hlt]at h5 ⊢
   rw[gR,gk]
   by_cases c:run (w.take k)=5
   ·rw [if_pos c,ih',if_pos c]
    have hk0:0<k:=by
     have:=b4B (w.take k)
     rw[Yx]at this
     omega
    have hl:(w.take k).length=k:=by rw[Yx];omega
    have l1:=last_eq (w.take k) (by omega)
    have e2:(w.take k).getD (k-1) 0=w.getD (k-1) 0:=by
     rw[Yn,Yn,List.getElem?_take_of_lt (by omega)]
    rw[hl,e2]at l1
    have hne:¬ (sk (w.take k)).1=some w[k]:=fun z=>by
     rw[iW,if_pos z,c]at h5;omega
    have hlb:w.getD (k-1) 0=0\/w.getD (k-1) 0=1:=by
     rw[Yn,Yb (show k-1<w.length by omega)]
     exact hb _ (YV _)
    have e3:1-w.getD (k-1) 0=w[k]:=by
     have:¬ w.getD (k-1) 0=w[k]:=fun z=>hne (by rw[l1,z])
     omega
    rw[e3,if_neg]
    rw[iW,if_neg hne];decide
   ·rw[if_neg c,iG,ih',if_neg c]
    unfold pst
    split <;> rfl
 have h:=this w.length (Yf _)
 rwa [Ys (Yf _)]at h
def uG {w:List Int}(hb:bU w):bU (kp w):=by
 have : ∀k,k<=w.length->bU (kp (w.take k)):=by
  intro k
  induction k with
  |zero=>intro _ z hz;rw[X2,b5E]at hz;cases hz
  | succ k ih=>
   intro hk z hz
   have hi:=ih (by omega)
   rw[Yh (show k<w.length by omega),gR]at hz
   split at hz
   ·exact hi z hz
   ·rcases YB.mp hz with q | q
    ·exact hi z q
    ·rw[Yj.mp q];exact hb _ (YV _)
 have h:=this w.length (Yf _)
 rwa [Ys (Yf _)]at h
def zF (w:List Int):(kp w).length<=w.length:=by
 refine snoc_ind (P:=fun w=>(kp w).length<=w.length) (Yf _) (fun w b ih=>?_) w
 rw[gR,Yc,YG]
 split
 ·omega
 ·rw[Yc,YG];omega
end Wm
namespace Rm
open Bm
def a6Z {cs:List Int}(h:bU cs)(hl:cs.length<=15):nm cs<32768:=Ye (wH h) (Yw (n:=2) (j:=15) (by decide) hl)
def a2N {cs:List Int}(h:bU cs)(hl:cs.length<=15):rst cs=nm cs:=vJ (a6Z h hl)
def jG {as bs:List Int}(ha:bU as)(hb:bU bs):bU (as++bs):=fun z hz=>(YB.mp hz).elim (ha z) (hb z)
def a0J {bs cs:List Int}(h:bU bs)(hc:bU cs)(hl:bs.length+cs.length<=500)(h15:cs.length<=15):rst (bs++cs)=nm cs ^^^ nxn cs.length (rst bs):=by
 rw[qH (jG h hc) (by rw[Yc];exact hl),Xh,<-qH h (by omega)]
 have:=xH cs hc 0 (rst bs) (by decide) (a5X bs)
 rw[Nat.zero_xor,<-qH hc (by omega),a2N hc h15]at this
 exact this
def zs (n:Nat):List Int:=List.replicate n 0
def a0C (n:Nat):bU (zs n):=fun b hb=> .inl (List.eq_of_mem_replicate hb)
def b7Y:∀n,nm (zs n)=0:=by
 intro n
 have:∀n,jV (zs n)=0:=fun n=>by
  induction n with
  |zero=>rfl
  |succ n ih=>unfold zs;rw[Xk,sO];show 0*_+jV (zs n)=0;rw[ih];simp
 unfold nm;rw[this];rfl
def ckn (bs:List Int):Nat:=rst (bs++zs 15)
def a8L (bs:List Int):ckn bs<32768:=a5X _
def ck (bs:List Int):List Int:=cM (ckn bs) 15
def wI {n m:Nat}(h:n<2 ^ m):nm (cM n m)=n:=by unfold nm;rw[a6W h];rfl
def yS {bs cs:List Int}(h:bU bs)(hc:bU cs)(hl:bs.length<=400)(h15:cs.length=15):rst (bs++cs)=nm cs ^^^ ckn bs:=by
 rw[a0J h hc (by omega) (by omega)]
 unfold ckn
 rw[a0J h (a0C 15) (by unfold zs;rw[YX];omega) (by unfold zs;rw[YX];exact Yf _),b7Y,Nat.zero_xor,h15]
 unfold zs
 rw[YX]
def b4C {bs:List Int}(h:bU bs)(hl:bs.length<=400):rst (bs++ck bs)=0:=by
 unfold ck
 rw[yS h (kI _ _) hl (cP _ _),wI (m:=15) (a8L bs),Nat.xor_self]
end Rm
namespace Wm
open L2 Bm Rn
def a6C (l:List Int):(put l).head? =l.head?:=snoc_ind (P:=fun l=>(put l).head? =l.head?) rfl (fun w b ih=>by
 rw[iG]
 unfold pst
 split
 ·rw[Y5,Y5,Y5,ih]
  cases w.head? <;> rfl
 ·rw[Y5,Y5,ih]) l
def b1C (w:List Int):(kp w).head? =w.head?:=snoc_ind (P:=fun w=>(kp w).head? =w.head?) rfl (fun w b ih=>by
 rw[gR]
 split
 ·rename_i h
  rw[ih,Y5]
  cases w with
  |nil=>exact absurd h (by decide)
  |cons x r=>rfl
 ·rw[Y5,Y5,ih]) w
def a3M {l:List Int}{x:Int}(h:l.head? =some x):l.getD 0 0=x:=by
 cases l with
 |nil=>cases h
 |cons y r=>exact Yo h
end Wm
namespace Wm
open Bm Rn Rm
end Wm
namespace Wm
open Bm
end Wm
namespace Wm
open Bm Rn Rm
end Wm
namespace My
open PySem L2
variable {H:Hp}{p:Addr}{H':Hp}{a:Addr}{v:HO}{x:Addr}{C:Addr}{dx:Addr}{fs:List (Str×V)}{m:Nat}{i:Nat}{bs:List Int}{xs:List (List Int)}{ys:List V}{w:List Int}{CK:Addr}{r:Addr}{st:Addr}{ks:Addr}{t:Addr}{ds:List Int}{l:List Int}{j:Nat}{b:Int}{C1:Addr}{C2:Addr}{K:W.Frag}{vs:List V}{H1:Hp}{H2:Hp}{f:Addr}{nwf:Addr}{ch:Addr}{wl:Addr}{ul:Addr}{ct:Value}{ws:List (List Int)}{us:List V}{nw:Addr}{H0:Hp}{nw':Addr}{k:Nat}{y:List Int}{c:Addr×HO}{dp:Addr}{ps:List (Int×Int)}{L:List (Addr×HO)}{h:Heap}{v':HO}{as:List Addr}{hs:List Int}{L1:List (Addr×HO)}{mg:Str->Option Value}{P:Addr}{cd:Value}{d:FuncData}{oc:Value}{kV:Value}{dc:Value}{pm:Value}{od:Option Addr}{an:Option Addr}{sl:Array (Option Value)}{q:Str}{F:Hp}{F':Hp}
def top (i:Nat):Stmt:=PySem.Challenge.pw_bitrail_k51_the_rails_tape.main.body.getD i (.Pass ⟨0,0,0,0⟩)
def aO (s:Stmt):List Stmt:=match s with | .ClassDef _ _ _ b _ _ _ _ _ _ _=>b | _=>[]
abbrev ZiZ:Stmt:=top 81
abbrev Zh6:Stmt:=(aO (top 26)).getD 0 (.Pass ⟨0,0,0,0⟩)
abbrev ZfM:Stmt:=(aO (top 26)).getD 1 (.Pass ⟨0,0,0,0⟩)
abbrev Zgf:Stmt:=(aO (top 26)).getD 2 (.Pass ⟨0,0,0,0⟩)
abbrev Zff:Stmt:=(aO (top 26)).getD 3 (.Pass ⟨0,0,0,0⟩)
abbrev ZlD:Stmt:=top 9
abbrev ZjU:Stmt:=top 10
abbrev ZjS:Stmt:=top 11
abbrev ZlE:Stmt:=top 13
abbrev ZlG:Stmt:=top 17
abbrev ZkP:Stmt:=top 18
abbrev ZlF:Stmt:=top 22
abbrev Znp:Stmt:=top 27
abbrev Zia:Stmt:=top 34
abbrev ZiY:Stmt:=top 35
abbrev ZlH:Stmt:=top 39
abbrev ZjV:Stmt:=top 37
abbrev Zic:Stmt:=top 36
abbrev Zi0:Stmt:=top 38
abbrev Zh0:Stmt:=(aO (top 47)).getD 0 (.Pass ⟨0,0,0,0⟩)
abbrev Zgw:Stmt:=(aO (top 47)).getD 2 (.Pass ⟨0,0,0,0⟩)
abbrev ZhZ:Stmt:=(aO (top 47)).getD 1 (.Pass ⟨0,0,0,0⟩)
abbrev Zg4:Stmt:=(aO (top 47)).getD 3 (.Pass ⟨0,0,0,0⟩)
abbrev Zg3:Stmt:=(aO (top 47)).getD 4 (.Pass ⟨0,0,0,0⟩)
abbrev ZjN:Stmt:=(aO (top 51)).getD 0 (.Pass ⟨0,0,0,0⟩)
abbrev ZjO:Stmt:=(aO (top 51)).getD 1 (.Pass ⟨0,0,0,0⟩)
abbrev ZiV:Stmt:=(aO (top 51)).getD 5 (.Pass ⟨0,0,0,0⟩)
abbrev Zgy:Stmt:=(aO (top 51)).getD 3 (.Pass ⟨0,0,0,0⟩)
abbrev ZfE:Stmt:=(aO (top 51)).getD 4 (.Pass ⟨0,0,0,0⟩)
abbrev ZjM:Stmt:=(aO (top 51)).getD 2 (.Pass ⟨0,0,0,0⟩)
abbrev Zgv:Stmt:=(aO (top 52)).getD 0 (.Pass ⟨0,0,0,0⟩)
abbrev Zge:Stmt:=(aO (top 53)).getD 0 (.Pass ⟨0,0,0,0⟩)
abbrev ZiI:Stmt:=(aO (top 45)).getD 0 (.Pass ⟨0,0,0,0⟩)
abbrev Zga:Stmt:=(aO (top 45)).getD 6 (.Pass ⟨0,0,0,0⟩)
abbrev ZgY:Stmt:=(aO (top 45)).getD 7 (.Pass ⟨0,0,0,0⟩)
abbrev ZgZ:Stmt:=(aO (top 45)).getD 5 (.Pass ⟨0,0,0,0⟩)
abbrev ZiJ:Stmt:=(aO (top 45)).getD 4 (.Pass ⟨0,0,0,0⟩)
abbrev ZhO:Stmt:=(aO (top 45)).getD 1 (.Pass ⟨0,0,0,0⟩)
abbrev ZhN:Stmt:=(aO (top 45)).getD 2 (.Pass ⟨0,0,0,0⟩)
abbrev ZiH:Stmt:=(aO (top 45)).getD 3 (.Pass ⟨0,0,0,0⟩)
abbrev Zha:Stmt:=top 59
abbrev ZjA:Stmt:=(aO (top 64)).getD 0 (.Pass ⟨0,0,0,0⟩)
abbrev Zh3:Stmt:=(aO (top 65)).getD 0 (.Pass ⟨0,0,0,0⟩)
abbrev ZiP:Stmt:=(aO (top 66)).getD 0 (.Pass ⟨0,0,0,0⟩)
abbrev ZhP:Stmt:=(aO (top 67)).getD 0 (.Pass ⟨0,0,0,0⟩)
abbrev Zgq:Stmt:=(aO (top 68)).getD 0 (.Pass ⟨0,0,0,0⟩)
abbrev Zg5:Stmt:=(aO (top 69)).getD 0 (.Pass ⟨0,0,0,0⟩)
abbrev ZiS:Stmt:=(aO (top 70)).getD 0 (.Pass ⟨0,0,0,0⟩)
abbrev Zgt:Stmt:=(aO (top 77)).getD 8 (.Pass ⟨0,0,0,0⟩)
abbrev ZhT:Stmt:=(aO (top 77)).getD 9 (.Pass ⟨0,0,0,0⟩)
abbrev ZhS:Stmt:=(aO (top 77)).getD 7 (.Pass ⟨0,0,0,0⟩)
abbrev Zgc:Stmt:=(aO (top 77)).getD 10 (.Pass ⟨0,0,0,0⟩)
abbrev Zfe:Stmt:=(aO (top 77)).getD 11 (.Pass ⟨0,0,0,0⟩)
abbrev Zfd:Stmt:=(aO (top 77)).getD 12 (.Pass ⟨0,0,0,0⟩)
abbrev ZjT:Stmt:=top 23
abbrev Zg1:Stmt:=(aO (top 77)).getD 13 (.Pass ⟨0,0,0,0⟩)
abbrev ZjE:Stmt:=(aO (top 77)).getD 1 (.Pass ⟨0,0,0,0⟩)
abbrev Zno:Stmt:=top 76
abbrev ZiL:Stmt:=(aO (top 77)).getD 5 (.Pass ⟨0,0,0,0⟩)
abbrev ZkL:Stmt:=(aO (top 77)).getD 6 (.Pass ⟨0,0,0,0⟩)
abbrev Zi2:Stmt:=top 60
abbrev ZkQ:Stmt:=top 61
abbrev Zi1:Stmt:=top 62
abbrev ZkO:Stmt:=top 63
abbrev Zib:Stmt:=top 74
abbrev Zhb:Stmt:=top 75
abbrev ZjG:Stmt:=(aO (top 77)).getD 0 (.Pass ⟨0,0,0,0⟩)
abbrev ZiK:Stmt:=(aO (top 64)).getD 1 (.Pass ⟨0,0,0,0⟩)
abbrev Zg8:Stmt:=(aO (top 65)).getD 1 (.Pass ⟨0,0,0,0⟩)
abbrev Zh1:Stmt:=(aO (top 66)).getD 1 (.Pass ⟨0,0,0,0⟩)
abbrev Zg0:Stmt:=(aO (top 67)).getD 1 (.Pass ⟨0,0,0,0⟩)
abbrev Zgb:Stmt:=(aO (top 68)).getD 1 (.Pass ⟨0,0,0,0⟩)
abbrev Zgx:Stmt:=(aO (top 69)).getD 1 (.Pass ⟨0,0,0,0⟩)
abbrev Zh2:Stmt:=(aO (top 70)).getD 1 (.Pass ⟨0,0,0,0⟩)
abbrev ZjD:Stmt:=(aO (top 71)).getD 0 (.Pass ⟨0,0,0,0⟩)
abbrev ZjB:Stmt:=(aO (top 64)).getD 2 (.Pass ⟨0,0,0,0⟩)
abbrev Zh4:Stmt:=(aO (top 65)).getD 2 (.Pass ⟨0,0,0,0⟩)
abbrev ZiQ:Stmt:=(aO (top 66)).getD 2 (.Pass ⟨0,0,0,0⟩)
abbrev ZhQ:Stmt:=(aO (top 67)).getD 2 (.Pass ⟨0,0,0,0⟩)
abbrev Zgr:Stmt:=(aO (top 68)).getD 2 (.Pass ⟨0,0,0,0⟩)
abbrev Zg6:Stmt:=(aO (top 69)).getD 2 (.Pass ⟨0,0,0,0⟩)
abbrev ZiT:Stmt:=(aO (top 70)).getD 2 (.Pass ⟨0,0,0,0⟩)
abbrev ZkJ:Stmt:=(aO (top 71)).getD 1 (.Pass ⟨0,0,0,0⟩)
abbrev ZkK:Stmt:=(aO (top 71)).getD 2 (.Pass ⟨0,0,0,0⟩)
abbrev Zgs:Stmt:=(aO (top 68)).getD 3 (.Pass ⟨0,0,0,0⟩)
abbrev Zg7:Stmt:=(aO (top 69)).getD 3 (.Pass ⟨0,0,0,0⟩)
abbrev ZiU:Stmt:=(aO (top 70)).getD 3 (.Pass ⟨0,0,0,0⟩)
abbrev ZjC:Stmt:=(aO (top 64)).getD 3 (.Pass ⟨0,0,0,0⟩)
abbrev ZiR:Stmt:=(aO (top 66)).getD 3 (.Pass ⟨0,0,0,0⟩)
abbrev Zh5:Stmt:=(aO (top 65)).getD 3 (.Pass ⟨0,0,0,0⟩)
abbrev ZhR:Stmt:=(aO (top 67)).getD 3 (.Pass ⟨0,0,0,0⟩)
abbrev ZhU:Stmt:=(aO (top 77)).getD 4 (.Pass ⟨0,0,0,0⟩)
abbrev ZjH:Stmt:=(aO (top 77)).getD 2 (.Pass ⟨0,0,0,0⟩)
abbrev ZjF:Stmt:=(aO (top 77)).getD 3 (.Pass ⟨0,0,0,0⟩)
abbrev Zg2:Stmt:=(aO (top 80)).getD 5 (.Pass ⟨0,0,0,0⟩)
abbrev ZjK:Stmt:=(aO (top 80)).getD 0 (.Pass ⟨0,0,0,0⟩)
abbrev ZjJ:Stmt:=(aO (top 80)).getD 1 (.Pass ⟨0,0,0,0⟩)
abbrev Zgd:Stmt:=(aO (top 80)).getD 4 (.Pass ⟨0,0,0,0⟩)
abbrev ZdO:Stmt:=(aO (top 80)).getD 2 (.Pass ⟨0,0,0,0⟩)
abbrev ZkN:Stmt:=(aO (top 80)).getD 3 (.Pass ⟨0,0,0,0⟩)
abbrev ZhV:Stmt:=(aO (top 80)).getD 10 (.Pass ⟨0,0,0,0⟩)
abbrev ZhY:Stmt:=(aO (top 80)).getD 11 (.Pass ⟨0,0,0,0⟩)
abbrev ZiO:Stmt:=(aO (top 80)).getD 12 (.Pass ⟨0,0,0,0⟩)
abbrev ZkM:Stmt:=(aO (top 80)).getD 13 (.Pass ⟨0,0,0,0⟩)
abbrev ZhW:Stmt:=(aO (top 80)).getD 14 (.Pass ⟨0,0,0,0⟩)
abbrev Zgu:Stmt:=(aO (top 80)).getD 15 (.Pass ⟨0,0,0,0⟩)
abbrev ZhX:Stmt:=(aO (top 80)).getD 16 (.Pass ⟨0,0,0,0⟩)
abbrev ZjL:Stmt:=(aO (top 80)).getD 8 (.Pass ⟨0,0,0,0⟩)
abbrev ZiM:Stmt:=(aO (top 80)).getD 9 (.Pass ⟨0,0,0,0⟩)
abbrev ZiN:Stmt:=(aO (top 80)).getD 6 (.Pass ⟨0,0,0,0⟩)
abbrev ZjI:Stmt:=(aO (top 80)).getD 7 (.Pass ⟨0,0,0,0⟩)
abbrev Zi6:Stmt:=top 83
abbrev ZjQ:Stmt:=top 85
abbrev Zg9:Stmt:=top 86
abbrev Zh8:Stmt:=top 87
abbrev ZiX:Stmt:=top 88
abbrev ZjP:Stmt:=top 89
abbrev ZjR:Stmt:=top 90
abbrev Zh7:Stmt:=top 91
abbrev ZiW:Stmt:=top 92
abbrev ZfU:Stmt:=top 93
abbrev Zh9:Stmt:=top 94
abbrev ZoF:Stmt:=top 95
def aK (h:H p=none)(o:HO):Same H (upd H p o):=fun b u q=>by rw[aH (aJ q h)];exact q
def nS (h:H a=none)(e:upd H a v=H'):Same H H':=e▸aK h v
def nE (e:upd H a v=H'):H' a=some v:=e▸aB
def small {n:Nat}(h:n<=1000):n<=sizeLine:=Y6 (sJ h)
def aL {n:Nat}(h:decide (n<=1000)=true):n<=sizeLine:=small (YL h)
def bI {n:Nat}(h:n<=1000):n<sizeLine:=sJ h
def _root_.L2.Same.put {o:HO}(g:Same H H')(h:H p=none):Same H (upd H' p o):=fun b u q=>by rw[aH (aJ q h)];exact g b u q
def _root_.L2.Same.none (g:Same H H')(h:H' x=none):H x=none:=by
 cases e:H x with
 |none=>rfl
 |some o=>rw[g x o e]at h;cases h
def bO (hx:H x=none)(hd:H dx=none):Same H (upd (upd (upd H dx (.own x)) x (.ins C dx [])) x (.ins C dx fs)):=fun b u q=>by
 rw[aH (aJ q hx),aH (aJ q hx),aH (aJ q hd)];exact q
open Bm Rm
def b8Z (n k:Nat):Builtin.bitAnd ((n:Int) / 2 ^ ((k:Int)).toNat) 1=rG n k:=by
 rw[c0Q]
 have h:Builtin.bitAnd ((n >>> k:Nat):Int) 1=(((n >>> k:Nat) &&& 1:Nat):Int):=band (n >>> k) 1
 rw[h]
 unfold rG
 have h1:=bit_at n k
 have h2:((n >>> k:Nat) &&& 1)=(n >>> k) % 2:=Nat.and_one_is_mod _
 split
 ·rename_i c;exact h1.mpr c
 ·rename_i c
  have:¬ (((n >>> k:Nat) &&& 1:Nat):Int)=1:=fun z=>c (h1.mp z)
  omega
def a5O:Sp:=fun vs H Q _=>∃n m:Nat,vs= [.int n,.int m]/\n<2 ^ m/\m<=128/\∀p,H p=none->Q (.ref p) (upd H p (.lst ((cM n m).map V.int)))
def yL (K:W.Frag):Sp:=fun vs H Q _=>∃(a:Addr)(bs:List Int),vs= [.ref a]/\SqL K H a (bs.map V.int)/\bU bs/\bs.length<=450/\Q (.int ((nm bs:Nat):Int)) H
def a3O {n:Nat}(h:n<2 ^ m):(n:Int) / 2 ^ ((m:Int)).toNat=0:=by
 rw[qL]
 exact Int.ediv_eq_zero_of_lt (Int.natCast_nonneg n) (by exact_mod_cast h)
def a1W {n:Nat}(h:i<m):(cM n m).take (i+1)=(cM n m).take i++[rG n (m-1-i)]:=by
 have hl:i<(cM n m).length:=by rw[cP];exact h
 rw[Yh hl,sZ hl]
def vA (h:i<bs.length):atI (bs.map V.int) ((i:Nat):Int)=some (.int bs[i]):=fC (by rw[Yl,Yb h];rfl)
def lV {x:V}(hx:(bs.map V.int)[i]? =some x):∃h:i<bs.length,x= .int bs[i]:=by
 have hi:i<bs.length:=by
  have:=(Yd.mp hx).1
  rwa [Ya]at this
 refine⟨hi,?_⟩
 rw[Yl,Yb hi]at hx
 exact(Yo hx).symm
abbrev bl (a:Nat):Nat:=Builtin.Int.intBits (a:Int)
def b8Y {a:Nat}(h:a≠0):2 ^ (bl a-1)<=a:=by
 show 2 ^ (Builtin.Int.intBits (a:Int)-1)<=a
 rw[rE,if_neg h]
 exact Nat.log2_self_le h
def a8R {a n:Nat}(h:a<2 ^ n):bl a<=n:=bits_le h
def b2V (a:Nat):a<2 ^ bl a:=b1T a
def zP:bl 64647=16:=by decide
def a7O {r:Nat}(hr:r<2 ^ 450)(h:16<=bl r):(r ^^^ 64647 <<< (bl r-16))<2 ^ 450/\R (r ^^^ 64647 <<< (bl r-16))=R r/\bl (r ^^^ 64647 <<< (bl r-16))<bl r:=by
 have r3:=a8R hr
 have hr0:r≠0:=by
  intro z
  subst z
  have:bl 0=0:=by decide
  omega
 have l1:64647 <<< (bl r-16)<2 ^ (bl r-1+1):=by
  rw[Xm]
  have e1:bl r-1+1=16+(bl r-16):=by omega
  rw[e1,Nat.pow_add]
  exact Nat.mul_lt_mul_of_lt_of_le (by decide) (Yf _) (Nat.two_pow_pos _)
 have l2:2 ^ (bl r-1)<=64647 <<< (bl r-16):=by
  rw[Xm]
  have e1:bl r-1=15+(bl r-16):=by omega
  rw[e1,Nat.pow_add]
  exact Nat.mul_le_mul_right _ (by decide)
 have l3:r<2 ^ (bl r-1+1):=by
  have e1:bl r-1+1=bl r:=by omega
  rw[e1];exact b2V r
 have l4:=a8X l3 l1 (b8Y hr0) l2
 have l5:bl (r ^^^ 64647 <<< (bl r-16))<=bl r-1:=a8R l4
 exact⟨Ye l4 (Yw (by decide) (by omega)),b6I (by omega),by omega⟩
def a2H:Sp:=fun vs H Q _=>∃a:Nat,vs= [.int a,.int 64647]/\a<2 ^ 450/\∀(w:Nat)(p:Addr),H p=none->Q (.ref p) (upd H p (.tup [.int ((w:Nat):Int),.int ((R a:Nat):Int)]))
def b3R (K:W.Frag):Sp:=fun vs H Q _=>∃(a:Addr)(bs:List Int),vs= [.ref a]/\SqL K H a (bs.map V.int)/\bU bs/\bs.length<=450/\∀H',Same H H'->Q (.int ((rst bs:Nat):Int)) H'
def a9M (K:W.Frag):Sp:=fun vs H Q _=>∃(a:Addr)(bs:List Int),vs= [.ref a]/\SqL K H a (bs.map V.int)/\bU bs/\bs.length<=400/\∀p H',H p=none->Same H H'->H' p=some (.lst ((ck bs).map V.int))->Q (.ref p) H'
def b0R (h:bU bs):jV bs=((nm bs:Nat):Int):=(pN h).symm
def szB (bs:List Int):Nat:=nm ((bs.drop 9).take 3)
def nmB (bs:List Int):Nat:=nm ((bs.drop 1).take 8)
def dtB (bs:List Int)(k:Nat):Int:=((nm ((bs.drop (12+8*k)).take 8):Nat):Int)
def daB (bs:List Int):List Int:=(List.range (szB bs)).map (dtB bs)
def lK (bs:List Int):Prop:=12<=bs.length/\bs.length=27+8*szB bs
def zV (bs:List Int):Prop:=lK bs/\bs.getD 0 0=0/\rst bs=0
def lF (h:bU bs)(a n:Nat):bU ((bs.drop a).take n):=fun b hb=>h b (List.mem_of_mem_drop (XR hb))
def a4L (h:bU bs):szB bs<8:=by
 have:=wH (lF h 9 3)
 refine Ye this (Yw (n:=2) (j:=3) (by decide) ?_)
 rw[Yx];omega
def b3Q (K:W.Frag):Sp:=fun vs H Q _=>∃(a:Addr)(bs:List Int),vs= [.ref a]/\SqL K H a (bs.map V.int)/\bU bs/\12<=bs.length/\bs.length<=450/\∀H',Same H H'->Q (.int ((szB bs:Nat):Int)) H'
def b7J (K:W.Frag):Sp:=fun vs H Q _=>∃(a:Addr)(bs:List Int),vs= [.ref a]/\SqL K H a (bs.map V.int)/\bU bs/\bs.length<=450/\(lK bs->∀H',Same H H'->Q (.bl true) H')/\(¬ lK bs->∀H',Same H H'->Q (.bl false) H')
def b3S (K:W.Frag)(C:Addr):Sp:=fun vs H Q E=>∃(a:Addr)(bs:List Int),vs= [.ref a]/\SqL K H a (bs.map V.int)/\bU bs/\bs.length<=450/\
 (zV bs->∀t p H',H p=none->Same H H'->H' p=some (.lst ((daB bs).map V.int))->H' t=some (.tup [.int ((nmB bs:Nat):Int),.ref p])->Q (.ref t) H')/\(¬ zV bs->∀H',Same H H'->False)
def a1J (bs:List Int):(daB bs).length=szB bs:=by unfold daB;rw[Ya,YK]
def a8E (h:i<szB bs):(daB bs).take (i+1)=(daB bs).take i++[dtB bs i]:=by
 have hl:i<(daB bs).length:=by rw[a1J];exact h
 have e:(daB bs)[i]=dtB bs i:=by simp[daB]
 rw[Yh hl,e]
def c0T (h:0<bs.length):bs[0]=bs.getD 0 0:=by rw[Yn,Yb h];rfl
def zN {a n:Nat}{x y:Int}(hx:x=((a:Nat):Int))(hy:y=((a+n:Nat):Int))(h:a+n<=bs.length):pH (bs.map V.int) (some x) (some y)=((bs.drop a).take n).map V.int:=by
 rw[hx,hy];exact b1Q h
open Bm Rn Wm
def b8K:Option Int->V
 |none=> .non
 |some b=> .int b
abbrev skF (s:S):List (Str×V):=[("last",b8K s.1),("alike",.int ((s.2:Nat):Int))]
def jO (C:Addr)(H:Hp)(a:Addr)(s:S):Prop:=∃dx,H a=some (.ins C dx (skF s))
def jO.same {n:S}(h:jO C H a n)(g:Same H H'):jO C H' a n:=by
 obtain⟨dx,e⟩:=h
 exact⟨dx,g _ _ e⟩
def jO.at_ {n:S}(h:jO C H a n)(g:H' a=H a):jO C H' a n:=by
 obtain⟨dx,e⟩:=h
 exact⟨dx,g.trans e⟩
def jO.ne {n:S}{xs:List V}(h:jO C H a n)(e:H p=some (.lst xs)):p≠a:=fun z=>by
 obtain⟨dx,q⟩:=h
 rw[z,q]at e;cases e
def jO.set {n:S}{xs:List V}(h:jO C H a n)(e:H p=some (.lst xs)):jO C (upd H p (.lst ys)) a n:=by
 obtain⟨dx,q⟩:=h
 exact⟨dx,by rw[aH (fun z=>by rw[z,e]at q;cases q)];exact q⟩
def a4W (C:Addr):Sp:=fun vs H Q _=>∃a dx,vs= [.ref a]/\H a=some (.ins C dx [])/\∀H',H'=upd H a (.ins C dx (skF (none,0)))->Q .non H'
def a9E (C:Addr):Sp:=fun vs H Q _=>∃a s b,vs= [.ref a,.int b]/\jO C H a s/\∀H',jO C H' a (skp s b)->(∀x,x≠a->H' x=H x)->Q .non H'
def a4X (C:Addr):Sp:=fun vs H Q _=>∃a s,vs= [.ref a]/\jO C H a s/\Q (.bl (decide (s.2=5))) H
def a4V (C:Addr):Sp:=fun vs H Q _=>∃a s,vs= [.ref a]/\jO C H a s/\Q (.bl (decide (5<s.2))) H
def a3P (n:Nat):decide (((n:Nat):Int)=5)=decide (n=5):=by
 by_cases h:n=5
 ·subst h;rfl
 ·rw[Yr h,Yr (by omega)]
def b1L (n:Nat):decide ((5:Int)<((n:Nat):Int))=decide (5<n):=by
 by_cases h:5<n
 ·rw[Yp h,Yp (by omega)]
 ·rw[Yr h,Yr (by omega)]
def a7U:Good []:=fun k hk=>by
 have:k=0:=Nat.le_zero.mp hk
 subst this;decide
def a9G (K:W.Frag):Sp:=fun vs H Q _=>∃(a:Addr)(bs:List Int),vs= [.ref a]/\SqL K H a (bs.map V.int)/\bs.length<=400/\∀p H',H p=none->Same H H'->H' p=some (.lst ((put bs).map V.int))->Q (.ref p) H'
def a6A (h:i<bs.length):put (bs.take (i+1))=pst (put (bs.take i)) bs[i]:=by rw[Yh h,iG]
instance decCmp (bs:List Int):Decidable (lK bs):=by unfold lK;infer_instance
def ans (w:List Int):Str:=if 5<run w then "six" else if run w=5\/¬ lK (kp w) then "more" else if rst (kp w)=0 then "whole" else "bad"
def pR (h:5<run w):ans w="six":=if_pos h
def lG (h:¬ 5<run w)(g:run w=5\/¬ lK (kp w)):ans w="more":=(if_neg h).trans (if_pos g)
def tO (h:¬ 5<run w)(g:¬ (run w=5\/¬ lK (kp w)))(r:rst (kp w)=0):ans w="whole":=(if_neg h).trans ((if_neg g).trans (if_pos r))
def vG (h:¬ 5<run w)(g:¬ (run w=5\/¬ lK (kp w)))(r:¬ rst (kp w)=0):ans w="bad":=(if_neg h).trans ((if_neg g).trans (if_neg r))
abbrev rdF (st ks:Addr)(t:Str):List (Str×V):=[("streak",.ref st),("kept",.ref ks),("answer",.str t)]
structure iU (C CK:Addr)(H:Hp)(r st ks:Addr)(w:List Int)(t:Str):Prop where
 rd:∃dx,H r=some (.ins C dx (rdF st ks t))
 sk:jO CK H st (sk w)
 kp:H ks=some (.lst ((kp w).map V.int))
def iU.same {t:Str}(h:iU C CK H r st ks w t)(g:Same H H'):iU C CK H' r st ks w t:=⟨let ⟨dx,e⟩:=h.rd;⟨dx,g _ _ e⟩,h.sk.same g,g _ _ h.kp⟩
def iU.ne1 {t:Str}(h:iU C CK H r st ks w t):r≠st:=fun z=>by
 obtain⟨dx,e⟩:=h.rd
 obtain⟨dy,f⟩:=h.sk
 rw[z,f]at e
 cases e
def iU.ne2 {t:Str}(h:iU C CK H r st ks w t):r≠ks:=fun z=>by
 obtain⟨dx,e⟩:=h.rd
 rw[z,h.kp]at e
 cases e
def iU.ne3 {t:Str}(h:iU C CK H r st ks w t):ks≠st:=fun z=>by
 obtain⟨dy,f⟩:=h.sk
 rw[<-z,h.kp]at f
 cases f
def b1Y (H H':Hp)(r st ks:Addr):Prop:=∀x o,x≠r->x≠st->x≠ks->H x=some o->H' x=some o
def a5F (C CK:Addr):Sp:=fun vs H Q _=>∃a dx,vs= [.ref a]/\H a=some (.ins C dx [])/\∀H' st ks,iU C CK H' a st ks [] "more"->H st=none->H ks=none->(∀x o,x≠a->H x=some o->H' x=some o)->Q .non H'
def yJ (C CK:Addr):Sp:=fun vs H Q _=>∃r st ks w t,vs= [.ref r]/\iU C CK H r st ks w t/\bU w/\w.length<=450/\∀H',Same H H'->Q (.str (ans w)) H'
def a5G (C CK:Addr):Sp:=fun vs H Q _=>∃r st ks w t b,vs= [.ref r,.int b]/\iU C CK H r st ks w t/\bU (w++[b])/\w.length<450/\∀H',iU C CK H' r st ks (w++[b]) (ans (w++[b]))->b1Y H H' r st ks->Q (.str (ans (w++[b]))) H'
def a2E (C CK:Addr):Sp:=fun vs H Q _=>∃r st ks w t,vs= [.ref r]/\iU C CK H r st ks w t/\∀p H',H p=none->Same H H'->H' p=some (.lst ((kp w).map V.int))->Q (.ref p) H'
def a2F (C CK:Addr):Sp:=fun vs H Q _=>∃r st ks w,vs= [.ref r]/\iU C CK H r st ks w (ans w)/\bU w/\w.length<=450/\(ans w="whole"->(kp w).getD 0 0=0)/\
 (ans w="whole"->zV (kp w)->∀t p H',H p=none->Same H H'->H' p=some (.lst ((daB (kp w)).map V.int))->H' t=some (.tup [.int ((nmB (kp w):Nat):Int),.ref p])->Q (.ref t) H')/\(ans w≠"whole"->Q .non H)
def vD (h:ans w="whole"):lK (kp w)/\rst (kp w)=0:=by
 by_cases h1:5<run w
 ·rw[pR h1]at h;exact absurd h (by decide +kernel)
 by_cases h2:run w=5\/¬ lK (kp w)
 ·rw[lG h1 h2]at h;exact absurd h (by decide +kernel)
 by_cases h3:rst (kp w)=0
 ·exact⟨YE fun z=>h2 (.inr z),h3⟩
 ·rw[vG h1 h2 h3]at h;exact absurd h (by decide +kernel)
def byt (n:Int):Bool:=decide (0<=n) && decide (n<=255)
def iR {n:Int}:byt n=true↔0<=n/\n<=255:=by unfold byt;simp
def a1L {n:Int}(h:byt n=true):∃m:Nat,n=m/\m<256:=by
 obtain⟨h0,h1⟩:=iR.mp h
 exact⟨n.toNat,by omega,by omega⟩
def b7K:Sp:=fun vs H Q _=>∃n,vs= [.int n]/\Q (.bl (byt n)) H
def a9N (K:W.Frag):Sp:=fun vs H Q _=>∃(a:Addr)(ns:List Int),vs= [.ref a]/\SqA K H a (ns.map V.int)/\ns.length<=500/\∀H',Same H H'->Q (.bl (ns.all byt)) H'
def oO (n:Int)(ds:List Int):Prop:=byt n=true/\ds.length<=7/\ds.all byt=true
def b3Y (K:W.Frag)(C:Addr):Sp:=fun vs H Q E=>∃(n:Int)(a:Addr)(ds:List Int),vs= [.int n,.ref a]/\SqL K H a (ds.map V.int)/\ds.length<=500/\(oO n ds->∀H',Same H H'->Q .non H')/\(¬ oO n ds->∀H',Same H H'->False)
def b8 (d:Int):List Int:=cM d.toNat 8
def hdD (n:Int)(k:Nat)(ds:List Int):List Int:=[0]++b8 n++cM k 3++(ds.map b8).flatten
def hd (n:Int)(ds:List Int):List Int:=hdD n ds.length ds
def fb (n:Int)(ds:List Int):List Int:=hd n ds++ck (hd n ds)
def zQ (d:Int):(b8 d).length=8:=cP _ _
def a1N (d:Int):bU (b8 d):=kI _ _
theorem xJ:∀ds:List Int,(ds.map b8).flatten.length=8*ds.length
 |[]=>rfl
 |d::r=>by rw[YI,Xs,Yc,xJ r,zQ,YU];omega
theorem tD:∀ds:List Int,bU (ds.map b8).flatten
 |[]=>fun _ z=>nomatch z
 |d::r=>by rw[YI,Xs];exact jG (a1N d) (tD r)
def a0Z (n:Int)(k:Nat)(ds:List Int):(hdD n k ds).length=12+8*ds.length:=by
 unfold hdD
 rw[Yc,Yc,Yc,xJ,zQ,cP,YG]
def a7T (n:Int)(k:Nat)(ds:List Int):bU (hdD n k ds):=by
 unfold hdD
 refine jG (jG (jG ?_ (a1N n)) (kI _ _)) (tD ds)
 intro b hb
 exact .inl (Yj.mp hb)
def a7S (n:Int)(k:Nat)(ds:List Int)(d:Int):hdD n k (ds++[d])=hdD n k ds++b8 d:=by
 unfold hdD
 rw[Yk,List.flatten_append,<-Xg]
 simp
def zJ (n:Int)(ds:List Int):(hd n ds).length=12+8*ds.length:=a0Z n _ ds
def uN (n:Int)(ds:List Int):bU (hd n ds):=a7T n _ ds
def a8M (bs:List Int):(ck bs).length=15:=cP _ _
def b1S (bs:List Int):bU (ck bs):=kI _ _
def uQ (n:Int)(ds:List Int):(fb n ds).length=27+8*ds.length:=by unfold fb;rw[Yc,zJ,a8M];omega
def b1J (n:Int)(ds:List Int):bU (fb n ds):=jG (uN n ds) (b1S _)
def b5O (n:Int)(ds:List Int)(h:ds.length<=40):rst (fb n ds)=0:=b4C (uN n ds) (by rw[zJ];omega)
def a9H (K:W.Frag)(C:Addr):Sp:=fun vs H Q E=>∃(n:Int)(a:Addr)(ds:List Int),vs= [.int n,.ref a]/\SqL K H a (ds.map V.int)/\ds.length<=500/\(oO n ds->∀p H',H p=none->Same H H'->H' p=some (.lst ((fb n ds).map V.int))->Q (.ref p) H')/\(¬ oO n ds->∀H',Same H H'->False)
def a6Y {n:Int}(h:¬ byt n=true\/7<ds.length\/∃d∈ds,¬ byt d=true):¬ oO n ds:=fun ⟨h1,h2,h3⟩=>by
 rcases h with h | h | ⟨d,hd,h⟩
 ·exact h h1
 ·omega
 ·exact h (List.all_eq_true.mp h3 d hd)
def a8T (h:ds.all byt=true)(hi:i<ds.length):byt ds[i]=true:=List.all_eq_true.mp h _ (YV hi)
def b1I {n:Nat}(hn:n<256)(hl:ds.length<=7):szB (fb (n:Int) ds)=ds.length:=by
 unfold szB fb hd hdD
 have e:(([0]++b8 (n:Int)++cM ds.length 3++(ds.map b8).flatten++ck ([0]++b8 (n:Int)++cM ds.length 3++(ds.map b8).flatten)).drop 9).take 3=cM ds.length 3:=by
  have h9:([0]++b8 (n:Int)).length=9:=by rw[Yc,zQ];rfl
  rw[Xg,Xg ([0]++b8 (n:Int)),List.drop_append_of_le_length (by omega),List.drop_of_length_le (by omega),List.nil_append,Xn (by rw[cP];exact Yf _),Ys (by rw[cP];exact Yf _)]
 rw[e]
 exact wI (by show ds.length<2 ^ 3;omega)
def b8P {n:Nat}(hn:n<256)(hl:ds.length<=7):zV (fb (n:Int) ds):=by
 refine⟨⟨by rw[uQ];omega,by rw[uQ,b1I hn hl]⟩,?_,b5O _ _ (by omega)⟩
 unfold fb hd hdD
 rfl
def nQ {as:List Int}(ha:bU as)(hb:bU bs):bU (as++bs):=fun z hz=>(YB.mp hz).elim (ha z) (hb z)
def tU {as:List Int}{n:Nat}(ha:bU as):bU (as.take n):=fun z hz=>ha z (XR hz)
def a7N (u:List Int):∀v:List Int,∃x,kp (u++v)=kp u++x:=by
 refine snoc_ind (P:=fun v=>∃x,kp (u++v)=kp u++x) ⟨[],by rw[YQ,YQ]⟩ (fun v b ih=>?_)
 obtain⟨x,e⟩:=ih
 rw[<-Xg,gR]
 split
 ·exact⟨x,e⟩
 ·exact⟨x++[b],by rw[e,Xg]⟩
def a1X {x:List Int}(h:12<=l.length):szB (l++x)=szB l:=by
 unfold szB
 rw[List.drop_append_of_le_length (by omega),Xn (by rw[List.length_drop];omega)]
structure Wr (w:List Int)(bs:List Int):Prop where
 w:w=put bs
 bits:bU bs
 ok:zV bs
def Wr.take_run (h:Wr w bs)(hj:j<=w.length):run (w.take j)<=5:=by
 have:=a6D bs
 rw[<-h.w]at this
 exact this j hj
def Wr.wbits (h:Wr w bs):bU w:=by rw[h.w];exact a6E h.bits
def Wr.kp (h:Wr w bs):kp w=bs:=by rw[h.w];exact b5D bs
def Wr.more (h:Wr w bs)(hj:j<w.length):ans (w.take j)="more":=by
 have r5:=h.take_run (Y6 hj)
 refine lG (by omega) (YE fun z=>?_)
 have n5:¬ run (w.take j)=5:=fun y=>z (.inl y)
 have hc:lK (Wm.kp (w.take j)):=YE fun y=>z (.inr y)
 obtain⟨x,e⟩:=a7N (w.take j) (w.drop j)
 rw[List.take_append_drop,h.kp]at e
 have hc':lK (Wm.kp (w.take j)):=hc
 have h12:=hc.1
 have h27:=hc.2
 have hs:=a1X (l:=Wm.kp (w.take j)) (x:=x) h12
 have hb:=h.ok.1.2
 rw[e]at hb
 have hb':(Wm.kp (w.take j)++x).length=27+8*szB (Wm.kp (w.take j)++x):=hb
 rw[hs,Yc]at hb'
 have hx:x= []:=List.eq_nil_of_length_eq_zero (by omega)
 rw[hx,YQ]at e
 have good:Good (w.take j):=fun k hk=>by
  rw[List.take_take]
  exact h.take_run (by rw[Yx]at hk;omega)
 have hp:=a6B (tU (n:=j) h.wbits) good
 rw[if_neg n5,<-e,<-h.w]at hp
 have:=YJ List.length hp
 rw[Yx]at this
 omega
structure On (w:List Int):Prop where
 good:Good w
 le:12<=(kp w).length->(kp w).length<=27+8*szB (kp w)
 five:lK (kp w)->run w=5
def On.nil:On []:=⟨a7U,fun z=>absurd z (by decide),fun z=>absurd z.1 (by decide)⟩
def a4K (h:12<=l.length):szB (l++[b])=szB l:=by
 unfold szB
 rw[List.drop_append_of_le_length (by omega),Xn (by rw[List.length_drop];omega)]
def On.le' (h:On w):12<=(kp (w++[b])).length->(kp (w++[b])).length<=27+8*szB (kp (w++[b])):=by
 rw[gR]
 by_cases c:run w=5
 ·rw[if_pos c];exact h.le
 ·rw [if_neg c]
  intro h12
  rw[Yc,YG]at h12 ⊢
  by_cases z:12<=(kp w).length
  ·rw[a4K z]
   have h1:=h.le z
   have h2:¬ (kp w).length=27+8*szB (kp w):=fun y=>c (h.five ⟨z,y⟩)
   omega
  ·omega
def On.next (h:On w)(hm:ans (w++[b])="more"):On (w++[b]):=by
 have h1:¬ 5<run (w++[b]):=fun z=>by
  rw[pR z]at hm;exact absurd hm (by decide +kernel)
 refine⟨h.good.snoc (by omega),h.le',fun hc=>YE fun z=>?_⟩
 have h2:¬ (run (w++[b])=5\/¬ lK (kp (w++[b]))):=fun y=>y.elim z fun x=>x hc
 by_cases r:rst (kp (w++[b]))=0
 ·rw[tO h1 h2 r]at hm;exact absurd hm (by decide +kernel)
 ·rw[vG h1 h2 r]at hm;exact absurd hm (by decide +kernel)
def a4O (K:W.Frag)(C:Addr):Sp:=fun vs H Q E=>∃(n:Int)(a:Addr)(ds:List Int),vs= [.int n,.ref a]/\SqL K H a (ds.map V.int)/\ds.length<=500/\(oO n ds->∀p H',H p=none->Same H H'->H' p=some (.lst ((put (fb n ds)).map V.int))->Q (.ref p) H')/\(¬ oO n ds->∀H',Same H H'->False)
def a9D (C:Addr):Sp:=fun vs H Q E=>∃v:Int,vs= [.int v]/\((v=1\/v=3\/v=5)->Q .non H)/\(¬ (v=1\/v=3\/v=5)->False)
def sS (v:Int):decide (v∈ [(1:Int),3,5])=true↔(v=1\/v=3\/v=5):=by
 rw[XH]
 simp
structure TCl (K:W.Frag)(C:Addr):Prop where
 cls:Cls K C
 n1:bL K C "votes"
 n2:bL K C "spoke"
 n3:bL K C "over"
 n4:bL K C "noughts"
abbrev tlF (v:Nat)(s:Bool)(o n:Nat):List (Str×V):=[("votes",.int v),("spoke",.bl s),("over",.int o),("noughts",.int n)]
def oN (C1 C2:Addr)(H:Hp)(t:Addr)(v:Nat)(s:Bool)(o n:Nat):Prop:=∃C dx,(C=C1\/C=C2)/\H t=some (.ins C dx (tlF v s o n))
def oN.same {v:Nat}{s:Bool}{o n:Nat}(h:oN C1 C2 H t v s o n)(g:Same H H'):oN C1 C2 H' t v s o n:=let ⟨C,dx,c,e⟩:=h;⟨C,dx,c,g _ _ e⟩
def iV (s:Bool)(o:Nat):Int:=if o=1/\s=false then 0 else 1
def jQ (s:Bool)(o:Nat)(b:Int):Bool:=if o=1 then s && decide (b=1) else decide (b=0)
def tlN (o:Nat)(b:Int)(n:Nat):Nat:=if 9<=o/\b=0 then n+1 else n
def qD (v o n:Nat):Str:=if o<9+v then ("more":Str) else if v / 2<n then ("refused":Str) else ("taken":Str)
def fP (v:Nat)(s:Bool)(o n:Nat)(b:Int):Str:=if 9<=o then qD v (o+1) (tlN o b n) else if jQ s o b=true then ("fault":Str) else ("more":Str)
def a8W (H H':Hp)(t:Addr):Prop:=∀x o,x≠t->H x=some o->H' x=some o
def a4S (K:W.Frag)(C1 C2:Addr):Sp:=fun vs H Q _=>∃(t C dx:Addr)(v:Nat)(s:Bool),vs= [.ref t,.int v,.bl s]/\(C=C1\/C=C2)/\H t=some (.ins C dx [])/\Q .non (upd H t (.ins C dx (tlF v s 0 0)))
def vQ (C:Addr)(s:Bool):Sp:=fun vs H Q _=>∃(t dx:Addr)(v:Nat),vs= [.ref t,.int v]/\H t=some (.ins C dx [])/\∀H',H'=upd H t (.ins C dx (tlF v s 0 0))->Q .non H'
def a4R (C1 C2:Addr):Sp:=fun vs H Q _=>∃t v s o n,vs= [.ref t]/\oN C1 C2 H t v s o n/\Q (.int (iV s o)) H
def a1Z (C1 C2:Addr):Sp:=fun vs H Q _=>∃t v s o n,vs= [.ref t]/\oN C1 C2 H t v s o n/\Q (.int ((o:Nat):Int)) H
def a2B (C1 C2:Addr):Sp:=fun vs H Q _=>∃t v s o n,∃(a:Nat)(b:Int),vs= [.ref t,.int ((a:Nat):Int),.int b]/\oN C1 C2 H t v s o n/\Q (.bl (jQ s a b)) H
def a2A (C1 C2:Addr):Sp:=fun vs H Q _=>∃t v s o n,∃b:Int,vs= [.ref t,.int b]/\oN C1 C2 H t v s o n/\∀H',oN C1 C2 H' t v s o (if b=0 then n+1 else n)->a8W H H' t->Q (.str (qD v o (if b=0 then n+1 else n))) H'
def a4T (C1 C2:Addr):Sp:=fun vs H Q _=>∃t v s o n,∃b:Int,vs= [.ref t,.int b]/\oN C1 C2 H t v s o n/\∀H',oN C1 C2 H' t v s (o+1) (tlN o b n)->a8W H H' t->Q (.str (fP v s o n b)) H'
def jK (h1:TCl K C1)(h2:TCl K C2)(h:C=C1\/C=C2):TCl K C:=h.elim (fun z=>z▸h1) (fun z=>z▸h2)
def oZ {fa:Addr}{m:Str}(h1:Meth K C1 m fa)(h2:Meth K C2 m fa)(h:C=C1\/C=C2):Meth K C m fa:=h.elim (fun z=>z▸h1) (fun z=>z▸h2)
abbrev ctF (n:Int):List (Str×V):=[("total",.int n)]
def rR (C:Addr)(H:Hp)(a:Addr)(n:Int):Prop:=∃dx,H a=some (.ins C dx (ctF n))
def a5L (C:Addr):Sp:=fun vs H Q _=>∃a dx,vs= [.ref a]/\H a=some (.ins C dx [])/\Q .non (upd H a (.ins C dx (ctF 0)))
def b2N (C:Addr)(lim:Int):Sp:=fun vs H Q _=>∃a n,vs= [.ref a]/\rR C H a n/\Q (.bl (decide (lim<=n))) H
def b7I (C:Addr):Sp:=fun vs H Q _=>∃a n,vs= [.ref a]/\rR C H a n/\Q (.int n) H
def mvd (n st:Int):Int:=if 18<=n then n else max 0 (n+st)
def a5K (C:Addr):Sp:=fun vs H Q _=>∃a n st,vs= [.ref a,.int st]/\rR C H a n/\∀H',rR C H' a (mvd n st)->(∀b,b≠a->H' b=H b)->Q .non H'
def a2I (C:Addr):Sp:=fun vs H Q _=>∃a n b,vs= [.ref a,.bl b]/\rR C H a n/\∀H',rR C H' a (mvd n (if b=true then 8 else 1))->(∀b,b≠a->H' b=H b)->Q .non H'
def vU (C:Addr)(st:Int):Sp:=fun vs H Q _=>∃a n,vs= [.ref a]/\rR C H a n/\∀H',rR C H' a (mvd n st)->(∀b,b≠a->H' b=H b)->Q .non H'
abbrev Own:=Addr->Prop
variable {o:Own}{o':Own}{o1:Own}{o2:Own}{ob:Own}{os:Own}{ox:Own}
def isT (o:HO):Prop:=∃vs,o= .tup vs
def cQ (o:Own)(H H':Hp):Prop:=∀x v,H x=some v->(¬ o x\/isT v)->H' x=some v
def Mv (o:Own)(H:Hp)(o':Own)(H':Hp):Prop:=cQ o H H'/\∀x,o' x->o x\/H x=none
abbrev Or2 (a b:Own):Own:=fun x=>a x\/b x
def cQ.of (g:Same H H'):cQ o H H':=fun x v e _=>g x v e
def cQ.refl:cQ o H H:=fun _ _ e _=>e
def cQ.tup (k:cQ o H H')(e:H x=some (.tup vs)):H' x=some (.tup vs):=k x _ e (.inr ⟨vs,rfl⟩)
def cQ.le (k:cQ o H H')(h:∀x,o x->o' x):cQ o' H H':=fun x v e z=>k x v e (z.elim (fun y=> .inl fun w=>y (h x w)) .inr)
def Mv.refl:Mv o H o H:=⟨cQ.refl,fun _=> .inl⟩
def Mv.of (g:Same H H'):Mv o H o H':=⟨cQ.of g,fun _=> .inl⟩
def Mv.trans (a:Mv o H o1 H1)(b:Mv o1 H1 o2 H2):Mv o H o2 H2:=by
 refine⟨fun x v e z=>b.1 x v (a.1 x v e z) ?_,fun x hx=>?_⟩
 ·rcases z with z | z
  ·exact .inl fun w=>(a.2 x w).elim z fun n=>by rw[n]at e;cases e
  ·exact .inr z
 ·rcases b.2 x hx with h | h
  ·exact a.2 x h
  ·rcases Classical.em (o x) with c | c
   ·exact .inl c
   ·right
    cases e:H x with
    |none=>rfl
    |some v=>rw[a.1 x v e (.inl c)]at h;cases h
def Mv.out (a:Mv o H o1 H1)(e:H x=some v)(h:¬ o x):¬ o1 x:=fun w=>(a.2 x w).elim h fun n=>by rw[n]at e;cases e
structure Cs where
 (post count free speaks reads intail flag settles rests off reader streak rtail stail:Addr)
variable {A:Cs}
inductive Stc where
 |free (k:Nat) | speaks (n:Nat) (ds:List Int) (k:Nat) | reads (h:List Int) | tlS (v c:Nat) | tlR (n:Nat) (ds:List Int) (v c:Nat) | flag (l:Nat) (m:Bool) | settles (m:Bool) | rests (l:Nat) | off
abbrev Fr:=Nat×List Int
structure PS where
 (m1 m2 vt:Nat) (wt up:List Fr) (tot:Int) (now:Stc)
variable {S:PS}
abbrev wr (n:Nat)(ds:List Int):List Int:=put (fb (n:Int) ds)
def Stc.shown:Stc->Str×Nat
 |.free k=>("free",k)
 |.speaks _ _ k=>("speaks",k)
 |.reads h=>("reads",h.length)
 |.tlS v _=>("tail speaks",v)
 |.tlR _ _ v _=>("tail reads",v)
 |.flag l _=>("flag",l)
 |.settles _=>("settles",0)
 |.rests l=>("rests",l)
 |.off=>("off",0)
def bQ (S:PS):Int:=match S.now with
 |.free k=>if S.wt= [] then 1 else if 12<=S.tot/\k<8 then 1 else 0
 |.speaks n ds k=>(wr n ds).getD k 0
 |.tlS v _=>iV true v
 |.tlR _ _ v _=>iV false v
 |.flag _ _=>0
 |_=>1
def dD (S:PS)(st:Int)(w:Str)(nx:Stc):Str×PS:=if 18<=mvd S.tot st then ("off",{ S with tot:=mvd S.tot st,now:= .off }) else (w,{ S with tot:=mvd S.tot st,now:=nx })
def cG (S:PS)(sp:Bool):Str×PS:=dD S (if sp=true then 8 else 1) "fault" (.flag 6 (!sp))
def cR (S:PS)(sp:Bool):Str×PS:=dD S (if sp=true then 8 else 1) "refuses" (.settles false)
def fG (S:PS):Str×PS:=dD S 8 "" (.settles false)
def pX (S:PS)(n:Nat):Bool:=decide (Builtin.bitAnd ((n:Nat):Int) ((S.m1:Nat):Int)=((S.m2:Nat):Int))
def bT (S:PS)(b:Int):Str×PS:=match S.now with
 |.free k=>if bQ S=0 then (if b=0 then ("begins",{ S with now:= .speaks (S.wt.headD (0, [])).1 (S.wt.headD (0, [])).2 1 }) else cG S true) else if b=0 then ("",{ S with now:= .reads [0] }) else ("",{ S with now:= .free (k+1) })
 |.speaks n ds k=>if ans ((wr n ds).take k++[b])="six" then cG S true else if (wr n ds).getD k 0=1/\b=0/\(kp ((wr n ds).take k)).length<9 then ("loses",{ S with now:= .reads ((wr n ds).take k++[b]) }) else if b=(wr n ds).getD k 0 then (if k+1=(wr n ds).length then ("",{ S with now:= .tlS 0 0 }) else ("",{ S with now:= .speaks n ds (k+1) })) else cG S true
 |.reads h=>if ans (h++[b])="more" then ("",{ S with now:= .reads (h++[b]) }) else if ans (h++[b])="whole" then ("",{ S with now:= .tlR (nmB (kp (h++[b]))) (daB (kp (h++[b]))) 0 0 }) else cG S false
 |.tlS v c=>if fP S.vt true v c b="more" then ("",{ S with now:= .tlS (v+1) (tlN v b c) }) else if fP S.vt true v c b="fault" then cG S true else if fP S.vt true v c b="refused" then cR S true else ("done",{ S with tot:=mvd S.tot (-1),wt:=S.wt.tail,now:= .rests 3 })
 |.tlR n ds v c=>if fP S.vt false v c b="more" then ("",{ S with now:= .tlR n ds (v+1) (tlN v b c) }) else if fP S.vt false v c b="fault" then cG S false else if fP S.vt false v c b="refused" then cR S false else ("takes",{ S with tot:=mvd S.tot (-1),up:=if pX S n=true then S.up++[(n,ds)] else S.up,now:= .rests 3 })
 |.flag l m=>if l=1 then ("",{ S with now:= .settles m }) else ("",{ S with now:= .flag (l-1) m })
 |.settles m=>if b=1 then ("",{ S with now:= .rests 3 }) else if m=true then fG S else ("",S)
 |.rests l=>if b=0 then cG S false else ("",{ S with now:=if l=1 then .free 0 else .rests (l-1) })
 |.off=>("",S)
def FrN (f:Fr):Prop:=f.1<256/\f.2.length<=7/\f.2.all byt=true
def FrN.ok {f:Fr}(h:FrN f):oO (f.1:Int) f.2:=⟨iR.mpr ⟨by omega,by have:=h.1;omega⟩,h.2.1,h.2.2⟩
def Stc.Wf (wt:List Fr):Stc->Prop
 |.speaks n ds k=>FrN (n,ds)/\1<=k/\k<(wr n ds).length/\wt≠ []
 |.reads h=>bU h/\On h/\h.head? =some 0
 |.tlS _ _=>wt≠ []
 |.flag l _=>1<=l
 |.rests l=>1<=l
 |_=>True
structure Wf (S:PS):Prop where
 vt:S.vt<=5
 wt:∀f∈S.wt,FrN f
 now:S.now.Wf S.wt
def nm3 (hb:bU l):szB l<=7:=by
 unfold szB
 have h:=wH (lF hb 9 3)
 have h2:((l.drop 9).take 3).length<=3:=by rw[Yx];omega
 have h3:=Yw (n:=2) (by decide) h2
 have:(2:Nat) ^ 3=8:=rfl
 omega
def b4W {h:List Int}(hb:bU h)(ho:On h):h.length<=170:=by
 have e:=a6B hb ho.good
 have l:=(tZ (kp h)).2
 have s:=nm3 (uG hb)
 have k83:(kp h).length<=83:=by
  by_cases c:12<=(kp h).length
  ·have:=ho.le c;omega
  ·omega
 have:h.length<=(put (kp h)).length:=by
  rw[e]
  split
  ·rw[Yc];omega
  ·exact Yf _
 omega
def a0F {n:Nat}(h:FrN (n,ds)):Wr (wr n ds) (fb (n:Int) ds):=⟨rfl,b1J _ _,b8P h.1 h.2.1⟩
def a4E {n:Nat}(h:FrN (n,ds)):27<=(wr n ds).length/\(wr n ds).length<=166:=by
 have a:=uQ (n:Int) ds
 have b:=tZ (fb (n:Int) ds)
 have c:=h.2.1
 have c':ds.length<=7:=c
 show 27<=(put (fb (n:Int) ds)).length/\(put (fb (n:Int) ds)).length<=166
 omega
def a0E (n:Nat)(ds:List Int):(wr n ds).head? =some 0:=by
 show (put (fb (n:Int) ds)).head? =some 0
 rw[a6C]
 unfold fb hd hdD
 rfl
def b3F {n:Nat}:(wr n ds).take 1= [0]:=by
 have:=a0E n ds
 generalize wr n ds=w at this
 cases w with
 |nil=>cases this
 |cons a b=>exact YJ (fun y=>[y]) (Yo this)
theorem b2G {n:Nat}(h:FrN (n,ds)):∀k,k<(wr n ds).length->On ((wr n ds).take k)
 |0,_=>On.nil
 | k+1,hk=>by
  have ih:=b2G h k (by omega)
  have e:(wr n ds).take (k+1)=(wr n ds).take k++[(wr n ds)[k]]:=Yh (by omega)
  have m:=(a0F h).more hk
  rw[e]at m ⊢
  exact ih.next m
def a3B (h6:¬ ans (w++[b])="six")(h9:(kp w).length<9):ans (w++[b])="more":=by
 have h1:¬ 5<run (w++[b]):=fun z=>h6 (pR z)
 refine lG h1 (.inr fun c=>?_)
 have:=c.1
 rw[gR]at this
 split at this
 ·omega
 ·rw[Yc,YG]at this;omega
def qY {st:Int}{w:Str}{nx:Stc}(h:Wf S)(hn:nx.Wf S.wt):Wf (dD S st w nx).2:=by
 unfold dD
 split
 ·exact⟨h.vt,h.wt,trivial⟩
 ·exact⟨h.vt,h.wt,hn⟩
def Wf.hear (h:Wf S)(hb:b=0\/b=1):Wf (bT S b).2:=by
 have hf:∀sp,Wf (cG S sp).2:=fun sp=>qY h (by show 1<=6;decide)
 have hr:∀sp,Wf (cR S sp).2:=fun sp=>qY h trivial
 have hn:=h.now
 unfold bT
 cases e:S.now with
 | free k =>
  dsimp only
  split
  ·rename_i c
   split
   ·refine⟨h.vt,h.wt,?_⟩
    have hw:S.wt≠ []:=fun z=>by
     unfold bQ at c
     rw[e]at c
     dsimp only at c
     rw[if_pos z]at c
     cases c
    cases ew:S.wt with
    |nil=>exact absurd ew hw
    | cons f r=>
     have hfn:=h.wt f (by rw[ew];exact YH)
     have:=a4E (n:=f.1) (ds:=f.2) hfn
     exact⟨hfn,Yf _,by show 1<(wr f.1 f.2).length;omega,by intro z;cases z⟩
   ·exact hf true
  ·split
   ·refine⟨h.vt,h.wt,⟨fun z hz=> .inl (Yj.mp hz),?_,rfl⟩⟩
    exact On.nil.next (b:=0) (by decide +kernel)
   ·exact⟨h.vt,h.wt,trivial⟩
 | speaks n ds k=>
  rw[e]at hn
  obtain⟨f1,f2,f3,f4⟩:=hn
  dsimp only
  split
  ·exact hf true
  rename_i c6
  split
  ·rename_i c
   have ho:=b2G f1 k f3
   refine⟨h.vt,h.wt,⟨?_,ho.next (a3B c6 c.2.2),?_⟩⟩
   ·exact nQ (tU (a0F f1).wbits) (fun z hz=>by rw[Yj.mp hz];exact hb)
   ·have hh:=a0E n ds
    generalize wr n ds=w at hh f3
    cases w with
    |nil=>cases hh
    | cons x y=>
     cases k with
     |zero=>cases f2
     |succ k=>exact hh
  split
  ·split
   ·exact⟨h.vt,h.wt,f4⟩
   ·exact⟨h.vt,h.wt,⟨f1,by omega,by omega,f4⟩⟩
  ·exact hf true
 | reads r=>
  rw[e]at hn
  obtain⟨f1,f2,f3⟩:=hn
  dsimp only
  split
  ·rename_i c
   refine⟨h.vt,h.wt,⟨nQ f1 (fun z hz=>by rw[Yj.mp hz];exact hb),f2.next c,?_⟩⟩
   rw[Y5,f3];rfl
  split
  ·exact⟨h.vt,h.wt,trivial⟩
  ·exact hf false
 | tlS v c=>
  rw[e]at hn
  dsimp only
  split
  ·exact⟨h.vt,h.wt,hn⟩
  split
  ·exact hf true
  split
  ·exact hr true
  ·exact⟨h.vt,fun f hf=>h.wt f (List.mem_of_mem_tail hf),by show 1<=3;decide⟩
 | tlR n ds v c=>
  dsimp only
  split
  ·exact⟨h.vt,h.wt,trivial⟩
  split
  ·exact hf false
  split
  ·exact hr false
  ·exact⟨h.vt,h.wt,by show 1<=3;decide⟩
 | flag l m=>
  rw[e]at hn
  have hl:1<=l:=hn
  dsimp only
  split
  ·exact⟨h.vt,h.wt,trivial⟩
  ·exact⟨h.vt,h.wt,by show 1<=l-1;omega⟩
 | settles m=>
  dsimp only
  split
  ·exact⟨h.vt,h.wt,by show 1<=3;decide⟩
  split
  ·exact qY h trivial
  ·exact h
 | rests l=>
  rw[e]at hn
  have hl:1<=l:=hn
  dsimp only
  split
  ·exact hf false
  ·refine⟨h.vt,h.wt,?_⟩
   show Stc.Wf S.wt (if l=1 then .free 0 else .rests (l-1))
   split
   ·trivial
   ·show 1<=l-1;omega
 |off=>exact h
def a3V (H:Hp)(o:Own)(t:Addr)(f:Fr):Prop:=∃d,H t=some (.tup [.int ((f.1:Nat):Int),.ref d])/\H d=some (.lst (f.2.map V.int))/\o d
inductive dU (H:Hp)(o:Own):List V->List Fr->Prop
 |nil:dU H o [] []
 |cons {t:Addr} {f:Fr} {ts:List V} {fs:List Fr}:a3V H o t f->dU H o ts fs->dU H o (.ref t::ts) (f::fs)
theorem dU.len:∀{ts:List V}{fs:List Fr},dU H o ts fs->ts.length=fs.length
 |_,_,.nil=>rfl
 |_,_,.cons _ r=>YJ (·+1) r.len
theorem dU.snoc {f:Fr}:∀{ts:List V}{fs:List Fr},dU H o ts fs->a3V H o t f->dU H o (ts++[.ref t]) (fs++[f])
 |_,_,.nil,h=> .cons h .nil
 |_,_,.cons a r,h=> .cons a (r.snoc h)
def a3V.imp {f:Fr}(h:a3V H o t f)(g:∀x v,H x=some v->(o x\/isT v)->H' x=some v)(w:∀x,o x->o' x):a3V H' o' t f:=by
 obtain⟨d,e1,e2,e3⟩:=h
 exact⟨d,g _ _ e1 (.inr ⟨_,rfl⟩),g _ _ e2 (.inl e3),w d e3⟩
theorem dU.imp (g:∀x v,H x=some v->(o x\/isT v)->H' x=some v)(w:∀x,o x->o' x):∀{ts:List V}{fs:List Fr},dU H o ts fs->dU H' o' ts fs
 |_,_,.nil=> .nil
 |_,_,.cons a r=> .cons (a.imp g w) (r.imp g w)
theorem dU.get:∀{ts:List V}{fs:List Fr},dU H o ts fs->∀{i:Nat}{v:V},ts[i]? =some v->∃t f,v= .ref t/\fs[i]? =some f/\a3V H o t f
 |_,_,.cons a _,0,_,rfl=>⟨_,_,rfl,rfl,a⟩
 |_,_,.cons _ r,i+1,_,h=>r.get (i:=i) h
abbrev pF (ch:Addr)(vt:Nat)(wl ul ct nw:Addr):List (Str×V):=[("choice",.ref ch),("votes",.int vt),("waiting",.ref wl),("handed_up",.ref ul),("tally",.ref ct),("now",.ref nw)]
abbrev Dl (o:Own)(wl ul:Addr):Own:=fun x=>o x/\x≠wl/\x≠ul
structure BAt (A:Cs)(H:Hp)(p nwf:Addr)(S:PS)(o:Own)(dx ch wl ul ct:Addr)(ws us:List V):Prop where
 e:H p=some (.ins A.post dx (pF ch S.vt wl ul ct nwf))
 ec:H ch=some (.tup [.int S.m1,.int S.m2])
 ew:H wl=some (.lst ws)
 fw:dU H (Dl o wl ul) ws S.wt
 eu:H ul=some (.lst us)
 fu:dU H (Dl o wl ul) us S.up
 et:rR A.count H ct S.tot
 op:o p
 ow:o wl
 ou:o ul
 ot:o ct
 ne:wl≠ul
 al:∀x,o x->H x≠none
def Bd (A:Cs)(H:Hp)(p nwf:Addr)(S:PS)(o:Own):Prop:=∃dx ch wl ul ct ws us,BAt A H p nwf S o dx ch wl ul ct ws us
def BAt.move {ct:Addr}{ws:List V}(h:BAt A H p nwf S o dx ch wl ul ct ws us)(g:∀x v,H x=some v->(o x\/isT v)->H' x=some v):BAt A H' p nwf S o dx ch wl ul ct ws us:=
 ⟨g _ _ h.e (.inl h.op),g _ _ h.ec (.inr ⟨_,rfl⟩),g _ _ h.ew (.inl h.ow),h.fw.imp (fun x v e z=>g x v e (z.imp_left And.left)) fun _ z=>z,g _ _ h.eu (.inl h.ou),h.fu.imp (fun x v e z=>g x v e (z.imp_left And.left)) fun _ z=>z,
  let ⟨d,e⟩:=h.et;⟨d,g _ _ e (.inl h.ot)⟩,h.op,h.ow,h.ou,h.ot,h.ne,fun x hx=>by
   have:=h.al x hx
   cases e:H x with
   |none=>exact absurd e this
   |some v=>rw[g x v e (.inl hx)];simp⟩
def Bd.move (h:Bd A H p nwf S o)(g:∀x v,H x=some v->(o x\/isT v)->H' x=some v):Bd A H' p nwf S o:=
 let ⟨dx,ch,wl,ul,ct,ws,us,b⟩:=h;⟨dx,ch,wl,ul,ct,ws,us,b.move g⟩
def Bd.al (h:Bd A H p nwf S o):∀x,o x->H x≠none:=let ⟨_,_,_,_,_,_,_,b⟩:=h;b.al
def Bd.op (h:Bd A H p nwf S o):o p:=let ⟨_,_,_,_,_,_,_,b⟩:=h;b.op
def Bd.now {S':PS}(h:Bd A H p nwf S o)(e1:S'.m1=S.m1)(e2:S'.m2=S.m2)(e3:S'.vt=S.vt)(e4:S'.wt=S.wt)(e5:S'.up=S.up)(e6:S'.tot=S.tot):Bd A H p nwf S' o:=by
 obtain⟨dx,ch,wl,ul,ct,ws,us,b⟩:=h
 exact⟨dx,ch,wl,ul,ct,ws,us,by rw[e3];exact b.e,by rw[e1,e2];exact b.ec,b.ew,by rw[e4];exact b.fw,b.eu,by rw[e5];exact b.fu,by rw[e6];exact b.et,b.op,b.ow,b.ou,b.ot,b.ne,b.al⟩
def b6G (A:Cs)(H:Hp)(nw:Addr)(vt:Nat)(o:Own):Stc->Prop
 |.free k=>∃dx,H nw=some (.ins A.free dx [("since",.int ((k:Nat):Int))])
 |.speaks n ds k=>∃dx wa r st ks t,H nw=some (.ins A.speaks dx [("wire",.ref wa),("reader",.ref r),("many",.int ((k:Nat):Int))])/\H wa=some (.lst ((wr n ds).map V.int))/\iU A.reader A.streak H r st ks ((wr n ds).take k) t/\wa≠ks/\o wa/\o r/\o st/\o ks
 |.reads h=>∃dx r st ks t,H nw=some (.ins A.reads dx [("reader",.ref r),("many",.int ((h.length:Nat):Int))])/\iU A.reader A.streak H r st ks h t/\o r/\o st/\o ks
 |.tlS v c=>∃dx tl,H nw=some (.ins A.intail dx [("tail",.ref tl),("found",.non)])/\oN A.rtail A.stail H tl vt true v c/\o tl
 |.tlR n ds v c=>∃dx tl t d,H nw=some (.ins A.intail dx [("tail",.ref tl),("found",.ref t)])/\oN A.rtail A.stail H tl vt false v c/\H t=some (.tup [.int ((n:Nat):Int),.ref d])/\H d=some (.lst (ds.map V.int))/\o tl/\o d
 |.flag l m=>∃dx,H nw=some (.ins A.flag dx [("left",.int ((l:Nat):Int)),("may_blame",.bl m)])
 |.settles m=>∃dx,H nw=some (.ins A.settles dx [("may_blame",.bl m)])
 |.rests l=>∃dx,H nw=some (.ins A.rests dx [("left",.int ((l:Nat):Int))])
 |.off=>∃dx,H nw=some (.ins A.off dx [])
structure StW (A:Cs)(H:Hp)(nw:Addr)(S:PS)(o:Own):Prop where
 at_:b6G A H nw S.vt o S.now
 on:o nw
 al:∀x,o x->H x≠none
def a0K {t:Str}(h:iU C CK H r st ks w t)(g1:∀v,H r=some v->H' r=some v)(g2:∀v,H st=some v->H' st=some v)(g3:∀v,H ks=some v->H' ks=some v):iU C CK H' r st ks w t:=
 ⟨let ⟨d,e⟩:=h.rd;⟨d,g1 _ e⟩,let ⟨d,e⟩:=h.sk;⟨d,g2 _ e⟩,g3 _ h.kp⟩
def StW.move (h:StW A H nw S o)(g:∀x v,H x=some v->(o x\/isT v)->H' x=some v):StW A H' nw S o:=by
 obtain⟨a,on,al⟩:=h
 have gn:∀v,H nw=some v->H' nw=some v:=fun v e=>g _ _ e (.inl on)
 refine⟨?_,on,fun x hx=>?_⟩
 ·revert a
  generalize S.now=s
  cases s with
  |free k=>intro hh;obtain⟨dx,e⟩:=hh;exact⟨dx,gn _ e⟩
  |speaks n ds k=>intro hh;obtain⟨dx,wa,r,st,ks,t,e,e1,e2,e3,o1,o2,o3,o4⟩:=hh;exact⟨dx,wa,r,st,ks,t,gn _ e,g _ _ e1 (.inl o1),a0K e2 (fun v z=>g _ _ z (.inl o2)) (fun v z=>g _ _ z (.inl o3)) (fun v z=>g _ _ z (.inl o4)),e3,o1,o2,o3,o4⟩
  |reads w=>intro hh;obtain⟨dx,r,st,ks,t,e,e2,o2,o3,o4⟩:=hh;exact⟨dx,r,st,ks,t,gn _ e,a0K e2 (fun v z=>g _ _ z (.inl o2)) (fun v z=>g _ _ z (.inl o3)) (fun v z=>g _ _ z (.inl o4)),o2,o3,o4⟩
  |tlS v c=>intro hh;obtain⟨dx,tl,e,⟨C,d,hC,e1⟩,o1⟩:=hh;exact⟨dx,tl,gn _ e,⟨C,d,hC,g _ _ e1 (.inl o1)⟩,o1⟩
  |tlR n ds v c=>intro hh;obtain⟨dx,tl,t,d,e,⟨C,d',hC,e1⟩,e2,e3,o1,o2⟩:=hh;exact⟨dx,tl,t,d,gn _ e,⟨C,d',hC,g _ _ e1 (.inl o1)⟩,g _ _ e2 (.inr ⟨_,rfl⟩),g _ _ e3 (.inl o2),o1,o2⟩
  |flag l m=>intro hh;obtain⟨dx,e⟩:=hh;exact⟨dx,gn _ e⟩
  |settles m=>intro hh;obtain⟨dx,e⟩:=hh;exact⟨dx,gn _ e⟩
  |rests l=>intro hh;obtain⟨dx,e⟩:=hh;exact⟨dx,gn _ e⟩
  |off=>intro hh;obtain⟨dx,e⟩:=hh;exact⟨dx,gn _ e⟩
 ·have:=al x hx
  cases e:H x with
  |none=>exact absurd e this
  |some v=>rw[g x v e (.inl hx)];simp
def bZ (A:Cs)(H:Hp)(p:Addr)(S:PS)(o:Own):Prop:=∃nw ob os,Bd A H p nw S ob/\StW A H nw S os/\(∀x,ob x->os x->False)/\Wf S/\(∀x,ob x\/os x->o x)/\∀x,o x->H x≠none
def bZ.move (h:bZ A H p S o)(g:∀x v,H x=some v->(o x\/isT v)->H' x=some v):bZ A H' p S o:=by
 obtain⟨nw,ob,os,b,s,d,w,i,al⟩:=h
 refine⟨nw,ob,os,b.move fun x v e z=>g x v e (z.imp_left fun y=>i x (.inl y)),s.move fun x v e z=>g x v e (z.imp_left fun y=>i x (.inr y)),d,w,i,fun x hx=>?_⟩
 have:=al x hx
 cases e:H x with
 |none=>exact absurd e this
 |some v=>rw[g x v e (.inl hx)];simp
def bZ.same (h:bZ A H p S o)(g:Same H H'):bZ A H' p S o:=h.move fun x v e _=>g x v e
def bZ.wf (h:bZ A H p S o):Wf S:=let ⟨_,_,_,_,_,_,w,_,_⟩:=h;w
def bZ.al (h:bZ A H p S o):∀x,o x->H x≠none:=let ⟨_,_,_,_,_,_,_,_,a⟩:=h;a
def at0 {v:V}:atI (v::vs) (0:Int)=some v:=fC (j:=0) rfl
def sq0 {v:V}:seqIndex? (0:Int) (v::vs).length=some 0:=by
 unfold seqIndex?
 rw[YU]
 simp
def jP (H:Hp)(a:Addr)(x y:HO):upd (upd H a x) a y=upd H a y:=by
 funext z
 by_cases h:z=a
 ·rw[h,aB,aB]
 ·rw[aH h,aH h,aH h]
def yN (C:Addr)(f:Str):Sp:=fun vs H Q _=>∃a dx v,vs= [.ref a,v]/\H a=some (.ins C dx [])/\∀H',H'=upd H a (.ins C dx [(f,v)])->Q .non H'
def yM (C:Addr)(f g:Str):Sp:=fun vs H Q _=>∃a dx v w,vs= [.ref a,v,w]/\H a=some (.ins C dx [])/\∀H',H'=upd H a (.ins C dx [(f,v),(g,w)])->Q .non H'
def b3T (C:Addr)(f g h:Str):Sp:=fun vs H Q _=>∃a dx v w z,vs= [.ref a,v,w,z]/\H a=some (.ins C dx [])/\∀H',H'=upd H a (.ins C dx [(f,v),(g,w),(h,z)])->Q .non H'
def a9P (A:Cs):Sp:=fun vs H Q _=>vs= []/\∀r st ks H' t,iU A.reader A.streak H' r st ks [0] t->Same H H'->H r=none->H st=none->H ks=none->Q (.ref r) H'
def b2O (A:Cs)(lim:Int):Sp:=fun vs H Q _=>∃p nwf S o,vs= [.ref p]/\Bd A H p nwf S o/\Q (.bl (decide (lim<=S.tot))) H
def b7L (A:Cs):Sp:=fun vs H Q _=>∃p nwf S o,vs= [.ref p]/\Bd A H p nwf S o/\Q (.int S.tot) H
def b7G (A:Cs):Sp:=fun vs H Q _=>∃p nwf S o,vs= [.ref p]/\Bd A H p nwf S o/\Q (.bl (decide (0<(S.wt.length:Int)))) H
def yO (A:Cs):Sp:=fun vs H Q _=>∃p nwf S o f r,vs= [.ref p]/\Bd A H p nwf S o/\S.wt=f::r/\FrN f/\∀pw H',H pw=none->Same H H'->H' pw=some (.lst ((wr f.1 f.2).map V.int))->Q (.ref pw) H'
def b3W (A:Cs):Sp:=fun vs H Q _=>∃p nwf S o,vs= [.ref p]/\Bd A H p nwf S o/\S.wt≠ []/\∀H',Bd A H' p nwf { S with wt:=S.wt.tail } o->cQ o H H'->Q .non H'
def a5J (A:Cs):Sp:=fun vs H Q _=>∃p nwf S o t d n ds,vs= [.ref p,.ref t]/\Bd A H p nwf S o/\H t=some (.tup [.int ((n:Nat):Int),.ref d])/\H d=some (.lst (ds.map V.int))/\¬ o d/\S.up.length<900/\
 ∀H',Bd A H' p nwf { S with up:=if pX S n=true then S.up++[(n,ds)] else S.up } (Or2 o fun x=>x=d)->cQ o H H'->Q .non H'
def b3U (K:W.Frag)(A:Cs)(C:Addr):Sp:=fun vs H Q E=>∃p nwf S o n a ds,vs= [.ref p,.int n,.ref a]/\Bd A H p nwf S o/\SqL K H a (ds.map V.int)/\ds.length<=500/\S.wt.length<900/\
 (oO n ds->∀H' d,H d=none->Bd A H' p nwf { S with wt:=S.wt++[(n.toNat,ds)] } (Or2 o fun x=>x=d)->cQ o H H'->Q .non H')/\(¬ oO n ds->∀H',Same H H'->False)
inductive eQ (H H':Hp):List V->List Fr->Prop
 |nil:eQ H H' [] []
 |cons {t d:Addr} {f:Fr} {ts:List V} {fs:List Fr}:H t=none->H d=none->H' t=some (.tup [.int ((f.1:Nat):Int),.ref d])->H' d=some (.lst (f.2.map V.int))->eQ H H' ts fs->eQ H H' (.ref t::ts) (f::fs)
theorem eQ.snoc {d:Addr}{f:Fr}(h1:H t=none)(h2:H d=none)(e1:H' t=some (.tup [.int ((f.1:Nat):Int),.ref d]))(e2:H' d=some (.lst (f.2.map V.int))):∀{ts:List V}{fs:List Fr},eQ H H' ts fs->eQ H H' (ts++[.ref t]) (fs++[f])
 |_,_,.nil=> .cons h1 h2 e1 e2 .nil
 |_,_,.cons a1 a2 a3 a4 r=> .cons a1 a2 a3 a4 (r.snoc h1 h2 e1 e2)
theorem eQ.same (g:Same H' H2):∀{ts:List V}{fs:List Fr},eQ H H' ts fs->eQ H H2 ts fs
 |_,_,.nil=> .nil
 |_,_,.cons a1 a2 a3 a4 r=> .cons a1 a2 (g _ _ a3) (g _ _ a4) (r.same g)
theorem eQ.len:∀{ts:List V}{fs:List Fr},eQ H H' ts fs->ts.length=fs.length
 |_,_,.nil=>rfl
 |_,_,.cons _ _ _ _ r=>YJ (·+1) r.len
def a5M (K:W.Frag):Sp:=fun vs H Q _=>∃(a:Addr)(ts:List V)(fs:List Fr)(o:Own),vs= [.ref a]/\H a=some (.lst ts)/\dU H o ts fs/\fs.length<=900/\∀l xs H',H l=none->Same H H'->H' l=some (.lst xs)->eQ H H' xs fs->Q (.ref l) H'
def a9C (A:Cs):Sp:=fun vs H Q _=>∃p nwf S o,vs= [.ref p]/\Bd A H p nwf S o/\S.wt.length<=900/\∀l xs H',H l=none->Same H H'->H' l=some (.lst xs)->eQ H H' xs S.wt->Q (.ref l) H'
def b7H (A:Cs):Sp:=fun vs H Q _=>∃p nwf S o,vs= [.ref p]/\Bd A H p nwf S o/\S.up.length<=900/\∀l xs H',H l=none->Same H H'->H' l=some (.lst xs)->eQ H H' xs S.up->Q (.ref l) H'
def a4Q (A:Cs):Sp:=fun vs H Q _=>∃p nwf S o w nx,vs= [.ref p,.str w,.ref nx]/\Bd A H p nwf S o/\(¬ 18<=S.tot->∀t H',Same H H'->H' t=some (.tup [.str w,.ref nx])->Q (.ref t) H')/\
 (18<=S.tot->∀t nw dx H',Same H H'->H nw=none->H' nw=some (.ins A.off dx [])->H' t=some (.tup [.str "off",.ref nw])->Q (.ref t) H')
def Aft (A:Cs)(H:Hp)(p nwf:Addr)(o:Own)(r:Str×PS)(t:Addr)(H':Hp):Prop:=∃nw' os',H' t=some (.tup [.str r.1,.ref nw'])/\Bd A H' p nwf r.2 o/\StW A H' nw' r.2 os'/\(∀x,os' x->H x=none)/\cQ o H H'
def Stp (A:Cs)(H:Hp)(p nwf:Addr)(ob os:Own)(r:Str×PS)(t:Addr)(H':Hp):Prop:=∃nw' ob' os',H' t=some (.tup [.str r.1,.ref nw'])/\Bd A H' p nwf r.2 ob'/\StW A H' nw' r.2 os'/\(∀x,ob' x->os' x->False)/\Mv (Or2 ob os) H (Or2 ob' os') H'
def a9I (A:Cs):Sp:=fun vs H Q _=>∃p nwf S o sp,vs= [.ref p,.bl sp]/\Bd A H p nwf S o/\∀t H',Aft A H p nwf o (cG S sp) t H'->Q (.ref t) H'
def a2D (A:Cs):Sp:=fun vs H Q _=>∃p nwf S o sp,vs= [.ref p,.bl sp]/\Bd A H p nwf S o/\∀t H',Aft A H p nwf o (cR S sp) t H'->Q (.ref t) H'
def a9O (A:Cs):Sp:=fun vs H Q _=>∃p nwf S o,vs= [.ref p]/\Bd A H p nwf S o/\∀t H',Aft A H p nwf o (fG S) t H'->Q (.ref t) H'
def mY {o o':Own}(k:cQ o H H')(n:H' x=none):o x\/H x=none:=by
 rcases Classical.em (o x) with c | c
 ·exact .inl c
 ·right
  cases e:H x with
  |none=>rfl
  |some v=>rw[k x v e (.inl c)]at n;cases n
def Aft.stp {r:Str×PS}(h:Aft A H p nwf ob r t H')(k:cQ (Or2 ob os) H0 H)(b:Bd A H p nwf S ob):Stp A H0 p nwf ob os r t H':=by
 obtain⟨nw',os',e,bd,st,fr,kp⟩:=h
 refine⟨nw',ob,os',e,bd,st,fun x hx hy=>b.al x hx (fr x hy),fun x v ex z=>?_,fun x hx=>?_⟩
 ·exact kp x v (k x v ex z) (z.imp_left fun y w=>y (.inl w))
 ·rcases hx with hx | hx
  ·exact .inl (.inl hx)
  ·exact mY (o':=ob) k (fr x hx)
def Bd.count {ct:Addr}{ws:List V}{n:Int}(b:BAt A H p nwf S o dx ch wl ul ct ws us)(c:rR A.count H' ct n)(k:∀x,x≠ct->H' x=H x):Bd A H' p nwf { S with tot:=n } o/\cQ o H H':=by
 have ne:∀{x:Addr}{v:HO},H x=some v->(∀C d,v≠ .ins C d (ctF S.tot))->x≠ct:=fun {x v} e h z=>by
  obtain⟨d,q⟩:=b.et
  rw[z,q]at e
  exact h _ _ (Yo e).symm
 have kk:cQ o H H':=fun x v e z=>by
  rw[k x]
  ·exact e
  ·rintro rfl
   rcases z with z | ⟨vs,rfl⟩
   ·exact z b.ot
   ·obtain⟨d,q⟩:=b.et
    rw[q]at e;cases e
 have lk:∀{x:Addr}{l:List V},H x=some (.lst l)->H' x=some (.lst l):=fun {x l} e=>by rw[k x (ne e fun C d z=>nomatch z)];exact e
 have fk:∀{ts:List V}{fs:List Fr},dU H (Dl o wl ul) ts fs->dU H' (Dl o wl ul) ts fs:=fun {ts fs} h=>by
  induction h with
  |nil=>exact .nil
  | cons a _ ih=>
   obtain⟨d,e1,e2,e3⟩:=a
   exact .cons ⟨d,kk.tup e1,lk e2,e3⟩ ih
 refine⟨⟨dx,ch,wl,ul,ct,ws,us,?_,kk.tup b.ec,lk b.ew,fk b.fw,lk b.eu,fk b.fu,c,b.op,b.ow,b.ou,b.ot,b.ne,fun x hx=>?_⟩,kk⟩
 ·rw[k p (ne b.e fun C d z=>by cases z)];exact b.e
 ·by_cases h:x=ct
  ·obtain⟨d,q⟩:=c
   rw[h,q];simp
  ·rw[k x h];exact b.al x hx
def a4P (K:W.Frag):Sp:=fun vs H Q _=>∃(c:Addr)(m t n:Int),vs= [.ref c,.int n]/\H c=some (.tup [.int m,.int t])/\Q (.bl (decide (Builtin.bitAnd n m=t))) H
def a5N (K:W.Frag)(C:Addr):Sp:=fun vs H Q E=>∃(a:Addr)(ns:List Int),vs= [.ref a]/\SqT K H a (ns.map V.int)/\ns.length<=500/\(ns.all byt=true->∀H',Same H H'->Q .non H')/\(¬ ns.all byt=true->∀H',Same H H'->False)
def S0 (m1 m2 v:Nat):PS:=⟨m1,m2,v, [], [],0,.free 0⟩
def a3U (m1 m2 v:Int):Prop:=byt m1=true/\byt m2=true/\(v=1\/v=3\/v=5)
def yK (K:W.Frag)(A:Cs)(C:Addr):Sp:=fun vs H Q E=>∃(a dx ch:Addr)(m1 m2 v:Int),vs= [.ref a,.ref ch,.int v]/\H a=some (.ins A.post dx [])/\H ch=some (.tup [.int m1,.int m2])/\
 (a3U m1 m2 v->∀H' o,bZ A H' a (S0 m1.toNat m2.toNat v.toNat) o->(∀x,o x->x=a\/H x=none)->(∀x u,x≠a->H x=some u->H' x=some u)->Q .non H')/\(¬ a3U m1 m2 v->∀H':Hp,(∀x u,x≠a->H x=some u->H' x=some u)->False)
def Bd.grow {d:Addr}(h:Bd A H p nwf S o)(e:H d=some v):Bd A H p nwf S (Or2 o fun x=>x=d):=by
 obtain⟨dx,ch,wl,ul,ct,ws,us,b⟩:=h
 refine⟨dx,ch,wl,ul,ct,ws,us,b.e,b.ec,b.ew,b.fw.imp (fun x v e _=>e) (fun x z=>⟨.inl z.1,z.2⟩),b.eu,b.fu.imp (fun x v e _=>e) (fun x z=>⟨.inl z.1,z.2⟩),b.et,.inl b.op,.inl b.ow,.inl b.ou,.inl b.ot,b.ne,fun x hx=>?_⟩
 rcases hx with hx | hx
 ·exact b.al x hx
 ·have hx':x=d:=hx
  rw[hx',e];simp
def wV {ct:Addr}{ws:List V}(b:BAt A H p nwf S o dx ch wl ul ct ws us)(ha:a=wl\/a=ul):
  cQ o H (upd H a (.lst ys))/\upd H a (.lst ys) p=H p/\upd H a (.lst ys) ch=H ch/\upd H a (.lst ys) ct=H ct/\(∀{ts:List V}{fs:List Fr},dU H (Dl o wl ul) ts fs->dU (upd H a (.lst ys)) (Dl o wl ul) ts fs)/\∀x,o x->upd H a (.lst ys) x≠none:=by
 have ea:∃l,H a=some (.lst l):=ha.elim (fun z=>⟨_,z▸b.ew⟩) fun z=>⟨_,z▸b.eu⟩
 obtain⟨l,ea⟩:=ea
 have oa:o a:=ha.elim (fun z=>z▸b.ow) fun z=>z▸b.ou
 have kk:cQ o H (upd H a (.lst ys)):=fun x v e z=>by
  rw[aH]
  ·exact e
  ·rintro rfl
   rcases z with z | ⟨vs,rfl⟩
   ·exact z oa
   ·rw[ea]at e;cases e
 have nl:∀{x:Addr}{v:HO},H x=some v->(∀l,v≠ .lst l)->upd H a (.lst ys) x=H x:=fun {x v} e h=>by
  rw[aH]
  rintro rfl
  rw[ea]at e
  exact h _ (Yo e).symm
 refine⟨kk,nl b.e (fun l z=>nomatch z),nl b.ec (fun l z=>nomatch z),(let ⟨d,e⟩:=b.et;nl e fun l z=>nomatch z),fun {ts fs} h=>?_,fun x hx=>?_⟩
 ·induction h with
  |nil=>exact .nil
  | cons a' _ ih=>
   obtain⟨d,e1,e2,e3⟩:=a'
   refine .cons ⟨d,kk.tup e1,?_,e3⟩ ih
   rw[aH (ha.elim (fun z=>z▸e3.2.1) fun z=>z▸e3.2.2)]
   exact e2
 ·by_cases h:x=a
  ·rw[h,aB];simp
  ·rw[aH h];exact b.al x hx
def Stc.tag:Stc->Nat
 |.free _=>0
 |.speaks _ _ _=>1
 |.reads _=>2
 |.tlS _ _=>3
 |.tlR _ _ _ _=>3
 |.flag _ _=>4
 |.settles _=>5
 |.rests _=>6
 |.off=>7
def dO (A:Cs)(i:Nat):Sp:=fun vs H Q _=>∃nw S o,vs= [.ref nw]/\S.now.tag=i/\StW A H nw S o/\∀t H',H t=none->Same H H'->H' t=some (.tup [.str S.now.shown.1,.int ((S.now.shown.2:Nat):Int)])->Q (.ref t) H'
def cV (A:Cs)(i:Nat):Sp:=fun vs H Q _=>∃nw p nwf S ob os,vs= [.ref nw,.ref p]/\S.now.tag=i/\Bd A H p nwf S ob/\StW A H nw S os/\Wf S/\Q (.int (bQ S)) H
def cU (A:Cs)(i:Nat):Sp:=fun vs H Q _=>∃nw p nwf S ob os b,vs= [.ref nw,.int b,.ref p]/\S.now.tag=i/\Bd A H p nwf S ob/\StW A H nw S os/\(∀x,ob x->os x->False)/\Wf S/\(b=0\/b=1)/\S.up.length<900/\∀t H',Stp A H p nwf ob os (bT S b) t H'->Q (.ref t) H'
structure Bef (S S':PS):Prop where
 e1:S'.m1=S.m1
 e2:S'.m2=S.m2
 e3:S'.vt=S.vt
 e4:S'.wt=S.wt
 e5:S'.up=S.up
 e6:S'.tot=S.tot
def Stp.go {os':Own}{r:Str×PS}(b:Bd A H0 p nwf S ob)(dj:∀x,ob x->os x->False)(k:cQ os H0 H1)(g:Same H1 H')(e:H' t=some (.tup [.str r.1,.ref nw']))(f:Bef S r.2)(st:StW A H' nw' r.2 os')(fr:∀x,os' x->os x\/H1 x=none):Stp A H0 p nwf ob os r t H':=by
 have b1:Bd A H1 p nwf S ob:=b.move fun x v e z=>k x v e (z.imp_left fun y w=>dj x y w)
 refine⟨nw',ob,os',e,(b1.move fun x v e _=>g x v e).now f.e1 f.e2 f.e3 f.e4 f.e5 f.e6,st,fun x hx hy=>?_,fun x v ex z=>g x v (k x v ex (z.imp_left fun y w=>y (.inr w))),fun x hx=>?_⟩
 ·exact(fr x hy).elim (dj x hx) (b1.al x hx)
 ·rcases hx with hx | hx
  ·exact .inl (.inl hx)
  ·rcases fr x hx with h | h
   ·exact .inl (.inr h)
   ·exact(mY (o':=ob) k h).imp_left .inr
def Stp.go2 {ob' os':Own}{r:Str×PS}(b:Bd A H1 p nwf r.2 ob')(k:cQ (Or2 ob os) H0 H1)(g:Same H1 H')(e:H' t=some (.tup [.str r.1,.ref nw']))(st:StW A H' nw' r.2 os')(fr:∀x,os' x->H1 x=none)(fo:∀x,ob' x->Or2 ob os x\/H0 x=none):Stp A H0 p nwf ob os r t H':=by
 refine⟨nw',ob',os',e,b.move fun x v e _=>g x v e,st,fun x hx hy=>b.al x hx (fr x hy),fun x v ex z=>g x v (k x v ex z),fun x hx=>?_⟩
 rcases hx with hx | hx
 ·exact fo x hx
 ·exact mY (o':=ob) k (fr x hx)
def iC (e:H nw=some v)(h:b6G A H nw S.vt (fun x=>x=nw) S.now):StW A H nw S (fun x=>x=nw):=⟨h,rfl,fun x hx=>by
 have hx':x=nw:=hx
 rw[hx',e];simp⟩
def vV (e:S.now= .free k):bQ S=if S.wt= [] then 1 else if 12<=S.tot/\k<8 then 1 else 0:=by unfold bQ;rw[e]
def a2G (A:Cs):Sp:=fun vs H Q _=>∃p S o,vs= [.ref p]/\bZ A H p S o/\∀t H',H t=none->Same H H'->H' t=some (.tup [.str S.now.shown.1,.int ((S.now.shown.2:Nat):Int)])->Q (.ref t) H'
def a5H (A:Cs):Sp:=fun vs H Q _=>∃p S o,vs= [.ref p]/\bZ A H p S o/\Q (.int (bQ S)) H
def a5I (A:Cs):Sp:=fun vs H Q _=>∃p S o b,vs= [.ref p,.int b]/\bZ A H p S o/\(b=0\/b=1)/\S.up.length<900/\∀H' o',bZ A H' p (bT S b).2 o'->Mv o H o' H'->Q (.str (bT S b).1) H'
def qP {y D dy:Addr}{gs:List (Str×V)}{v:V}(f:Str)(e1:H x=some (.ins C dx fs))(e2:H y=some (.ins D dy gs))(h1:fs.lookup f=some v)(h2:gs.lookup f=none):x≠y:=fun z=>by
 rw[z,e2]at e1
 have:=Yo e1
 injection this with _ _ h
 rw[<-h,h2]at h1
 cases h1
def a0O {y:Addr}{l:List V}(e1:H x=some (.ins C dx fs))(e2:H y=some (.lst l)):x≠y:=fun z=>by
 rw[z,e2]at e1
 cases e1
def a0W {t:Str}(h:iU C CK H r st ks w t)(b:b1Y H H1 r st ks)(o1:o r)(o2:o st)(o3:o ks):cQ o H H1:=fun x v e z=>by
 refine b x v ?_ ?_ ?_ e
 ·rintro rfl
  rcases z with z | ⟨vs,rfl⟩
  ·exact z o1
  ·obtain⟨d,q⟩:=h.rd;rw[q]at e;cases e
 ·rintro rfl
  rcases z with z | ⟨vs,rfl⟩
  ·exact z o2
  ·obtain⟨d,q⟩:=h.sk;rw[q]at e;cases e
 ·rintro rfl
  rcases z with z | ⟨vs,rfl⟩
  ·exact z o3
  ·rw[h.kp]at e;cases e
def a0V {tl:Addr}{v n c:Nat}{s:Bool}(h:oN C1 C2 H tl v s n c)(b:a8W H H1 tl)(o1:o tl):cQ o H H1:=fun x u e z=>by
 refine b x u ?_ e
 rintro rfl
 rcases z with z | ⟨vs,rfl⟩
 ·exact z o1
 ·obtain⟨C,d,_,q⟩:=h;rw[q]at e;cases e
def pP (bd:Bd A H p nwf S ob)(dj:∀x,ob x->os x->False)(k:cQ os H H1):Bd A H1 p nwf S ob:=bd.move fun x v e z=>k x v e (z.imp_left fun y w=>dj x y w)
def getD_get (h:k<w.length):w.getD k 0=w[k]:=by rw[Yn,Yb h];rfl
def lL {r:Str×PS}(b:Bd A H0 p nwf S ob)(dj:∀x,ob x->os x->False)(k:cQ os H0 H1)(g:Same H1 H')(e:H' t=some (.tup [.str r.1,.ref nw']))(f:Bef S r.2)(hn:H1 nw'=none)(en:H' nw'=some v)(sa:b6G A H' nw' r.2.vt (fun x=>x=nw') r.2.now):Stp A H0 p nwf ob os r t H':=
 Stp.go b dj k g e f (iC en sa) fun x hx=> .inr (by have hx':x=nw':=hx;rw[hx'];exact hn)
def lR (e:S.now= .free k):bT S b=(if bQ S=0 then (if b=0 then ("begins",{ S with now:= .speaks (S.wt.headD (0, [])).1 (S.wt.headD (0, [])).2 1 }) else cG S true) else if b=0 then ("",{ S with now:= .reads [0] }) else ("",{ S with now:= .free (k+1) }):Str×PS):=by unfold bT;rw[e]
def lU {l:Nat}{m:Bool}(e:S.now= .flag l m):bT S b=(if l=1 then ("",{ S with now:= .settles m }) else ("",{ S with now:= .flag (l-1) m }):Str×PS):=by unfold bT;rw[e]
def iQ {m:Bool}(e:S.now= .settles m):bT S b=(if b=1 then ("",{ S with now:= .rests 3 }) else if m=true then fG S else ("",S):Str×PS):=by unfold bT;rw[e]
def jY {l:Nat}(e:S.now= .rests l):bT S b=(if b=0 then cG S false else ("",{ S with now:=if l=1 then .free 0 else .rests (l-1) }):Str×PS):=by unfold bT;rw[e]
def nG (e:S.now= .off):bT S b=(("",S):Str×PS):=by unfold bT;rw[e]
def jZ {h:List Int}(e:S.now= .reads h):bT S b=(if ans (h++[b])="more" then ("",{ S with now:= .reads (h++[b]) }) else if ans (h++[b])="whole" then ("",{ S with now:= .tlR (nmB (kp (h++[b]))) (daB (kp (h++[b]))) 0 0 }) else cG S false:Str×PS):=by unfold bT;rw[e]
def jM {n:Nat}(e:S.now= .speaks n ds k):bT S b=(if ans ((wr n ds).take k++[b])="six" then cG S true else if (wr n ds).getD k 0=1/\b=0/\(kp ((wr n ds).take k)).length<9 then ("loses",{ S with now:= .reads ((wr n ds).take k++[b]) }) else if b=(wr n ds).getD k 0 then (if k+1=(wr n ds).length then ("",{ S with now:= .tlS 0 0 }) else ("",{ S with now:= .speaks n ds (k+1) })) else cG S true:Str×PS):=by unfold bT;rw[e]
def nC {v c:Nat}(e:S.now= .tlS v c):bT S b=(if fP S.vt true v c b="more" then ("",{ S with now:= .tlS (v+1) (tlN v b c) }) else if fP S.vt true v c b="fault" then cG S true else if fP S.vt true v c b="refused" then cR S true else ("done",{ S with tot:=mvd S.tot (-1),wt:=S.wt.tail,now:= .rests 3 }):Str×PS):=by unfold bT;rw[e]
def nD {n:Nat}{v c:Nat}(e:S.now= .tlR n ds v c):bT S b=(if fP S.vt false v c b="more" then ("",{ S with now:= .tlR n ds (v+1) (tlN v b c) }) else if fP S.vt false v c b="fault" then cG S false else if fP S.vt false v c b="refused" then cR S false else ("takes",{ S with tot:=mvd S.tot (-1),up:=if pX S n=true then S.up++[(n,ds)] else S.up,now:= .rests 3 }):Str×PS):=by unfold bT;rw[e]
structure Mid (H:Hp)(a:Addr)(v:HO)(cs:List (Addr×HO))(Hx:Hp):Prop where
 ea:Hx a=some v
 kp:∀x u,x≠a->H x=some u->Hx x=some u
 nw:∀c∈cs,H c.1=none/\c.1≠a/\Hx c.1=some c.2
 nd:(cs.map Prod.fst).Nodup
def Mid.set {cs:List (Addr×HO)}{Hx:Hp}(m:Mid H a v cs Hx)(v':HO):Mid H a v' cs (upd Hx a v'):=
 ⟨aB,fun x u hx h=>by rw[aH hx];exact m.kp x u hx h,fun c hc=>⟨(m.nw c hc).1,(m.nw c hc).2.1,by rw[aH (m.nw c hc).2.1];exact(m.nw c hc).2.2⟩,m.nd⟩
def Mid.add {y:Addr}{o:HO}{cs:List (Addr×HO)}{Hx Hy:Hp}(m:Mid H a v cs Hx)(hn:Hx y=none)(g:Same Hx Hy)(e:Hy y=some o):Mid H a v ((y,o)::cs) Hy:=by
 have ya:y≠a:=fun z=>by rw[z,m.ea]at hn;cases hn
 refine⟨g _ _ m.ea,fun x u hx h=>g _ _ (m.kp x u hx h),fun c hc=>?_,Y7.mpr ⟨fun h=>?_,m.nd⟩⟩
 ·rcases Yt.mp hc with rfl | hc
  ·refine⟨?_,ya,e⟩
   cases eh:H y with
   |none=>rfl
   |some u=>rw[m.kp y u ya eh]at hn;cases hn
  ·exact⟨(m.nw c hc).1,(m.nw c hc).2.1,g _ _ (m.nw c hc).2.2⟩
 ·obtain⟨c,hc,ec⟩:=YD.mp h
  have:=(m.nw c hc).2.2
  rw[ec,hn]at this
  cases this
def oH (b:Bd A H1 p nwf S o)(k:cQ o H H1)(n:H1 x=none):H x=none:=by
 rcases mY (o':=o) k n with h | h
 ·exact absurd n (b.al x h)
 ·exact h
theorem a3L {A:Cs}{H':Hp}{p nwf nw':Addr}{S:PS}{ob' os':Own}{b:Int}(wf:Wf S)(hb:b=0\/b=1)(b':Bd A H' p nwf (bT S b).2 ob')(s':StW A H' nw' (bT S b).2 os')(dj':∀x,ob' x->os' x->False)
  {dp ch wl ul ct:Addr} {ws us:List V} (bb:BAt A H' p nwf (bT S b).2 ob' dp ch wl ul ct ws us) :
  bZ A (upd H' p (.ins A.post dp (pF ch (bT S b).2.vt wl ul ct nw'))) p (bT S b).2 (Or2 ob' os')/\cQ (fun x=>x=p) H' (upd H' p (.ins A.post dp (pF ch (bT S b).2.vt wl ul ct nw'))):=by
 have kk:cQ (fun x=>x=p) H' (upd H' p (.ins A.post dp (pF ch (bT S b).2.vt wl ul ct nw'))):=fun x v e z=>by
  rw[aH]
  ·exact e
  ·rintro rfl
   rcases z with z | ⟨vs,rfl⟩
   ·exact z rfl
   ·rw[bb.e]at e;cases e
 have ne:∀{x:Addr}{v:HO},H' x=some v->x≠p->upd H' p (.ins A.post dp (pF ch (bT S b).2.vt wl ul ct nw')) x=some v:=fun e h=>by rw[aH h];exact e
 have nl:∀{x:Addr}{l:List V},H' x=some (.lst l)->x≠p:=fun e z=>by rw[z,bb.e]at e;cases e
 have fk:∀{ts:List V}{fs:List Fr},dU H' (Dl ob' wl ul) ts fs->dU (upd H' p (.ins A.post dp (pF ch (bT S b).2.vt wl ul ct nw'))) (Dl ob' wl ul) ts fs:=fun {ts fs} h=>by
  induction h with
  |nil=>exact .nil
  | cons a _ ih=>
   obtain⟨d,e1,e2,e3⟩:=a
   exact .cons ⟨d,kk.tup e1,ne e2 (nl e2),e3⟩ ih
 have al:∀x,Or2 ob' os' x->upd H' p (.ins A.post dp (pF ch (bT S b).2.vt wl ul ct nw')) x≠none:=fun x hx=>by
  by_cases h:x=p
  ·rw[h,aB];simp
  ·rw[aH h];exact hx.elim (bb.al x) (s'.al x)
 obtain⟨dc,ec⟩:=id bb.et
 have ncp:ct≠p:=qP "total" ec bb.e rfl rfl
 refine⟨⟨nw',ob',os',⟨dp,ch,wl,ul,ct,ws,us,aB,kk.tup bb.ec,ne bb.ew (nl bb.ew),fk bb.fw,ne bb.eu (nl bb.eu),fk bb.fu,⟨dc,ne ec ncp⟩,bb.op,bb.ow,bb.ou,bb.ot,bb.ne,fun x hx=>al x (.inl hx)⟩,s'.move fun x v e z=>kk x v e (z.imp_left fun y w=>dj' x (by have w':x=p:=w;rw[w'];exact bb.op) y),dj',wf.hear hb,fun x hx=>hx,al⟩,kk⟩
def b6R (S:PS)(b:Int):(bT S b).2.up.length<=S.up.length+1:=by
 have hg:∀st w nx,(dD S st w nx).2.up=S.up:=fun st w nx=>by unfold dD;split <;> rfl
 have h1:∀sp,(cG S sp).2.up.length<=S.up.length+1:=fun sp=>by unfold cG;rw[hg];omega
 have h2:∀sp,(cR S sp).2.up.length<=S.up.length+1:=fun sp=>by unfold cR;rw[hg];omega
 have h3:(fG S).2.up.length<=S.up.length+1:=by unfold fG;rw[hg];omega
 have h0:S.up.length<=S.up.length+1:=Xv _
 cases en:S.now with
 | free k=>
  rw[lR en]
  split
  ·split
   ·exact h0
   ·exact h1 _
  ·split
   ·exact h0
   ·exact h0
 | speaks n ds k=>
  rw[jM en]
  split
  ·exact h1 _
  split
  ·exact h0
  split
  ·split
   ·exact h0
   ·exact h0
  ·exact h1 _
 | reads h=>
  rw[jZ en]
  split
  ·exact h0
  split
  ·exact h0
  ·exact h1 _
 | tlS v c=>
  rw[nC en]
  split
  ·exact h0
  split
  ·exact h1 _
  split
  ·exact h2 _
  ·exact h0
 | tlR n ds v c=>
  rw[nD en]
  split
  ·exact h0
  split
  ·exact h1 _
  split
  ·exact h2 _
  ·show (if pX S n=true then S.up++[(n,ds)] else S.up).length<=_
   split
   ·rw[Yc];exact Yf _
   ·exact h0
 | flag l m=>
  rw[lU en]
  split
  ·exact h0
  ·exact h0
 | settles m=>
  rw[iQ en]
  split
  ·exact h0
  split
  ·exact h3
  ·exact h0
 | rests l=>
  rw[jY en]
  split
  ·exact h1 _
  ·exact h0
 | off=>
  rw[nG en]
  exact h0
structure Lw (A:Cs)(H0 H:Hp)(p:Addr)(S:PS)(o:Own):Prop where
 same:Same H0 H
 fr:∀x,o x->H0 x=none
 po:bZ A H p S o
def Wf.hand {f:Fr}(h:Wf S)(hf:FrN f):Wf { S with wt:=S.wt++[f] }:=by
 refine⟨h.vt,fun g hg=>?_,?_⟩
 ·rcases YB.mp hg with z | z
  ·exact h.wt g z
  ·rw[Yj.mp z];exact hf
 ·have hn:=h.now
  have hne:S.wt++[f]≠ []:=by intro z;have:=(List.append_eq_nil_iff.mp z).2;cases this
  show Stc.Wf (S.wt++[f]) S.now
  revert hn
  cases S.now with
  |speaks n ds k=>exact fun ⟨a,b,c,d⟩=>⟨a,b,c,hne⟩
  |tlS v c=>exact fun _=>hne
  |free k=>exact fun z=>z
  |reads h=>exact fun z=>z
  |tlR n ds v c=>exact fun z=>z
  |flag l m=>exact fun z=>z
  |settles m=>exact fun z=>z
  |rests l=>exact fun z=>z
  |off=>exact fun z=>z
def bZ.hand (h:bZ A H p S o):∃nw ob,Bd A H p nw S ob/\∀{n:Int}{ds:List Int},oO n ds->∀H' d,H d=none->Bd A H' p nw { S with wt:=S.wt++[(n.toNat,ds)] } (Or2 ob fun x=>x=d)->cQ ob H H'->∃o',bZ A H' p { S with wt:=S.wt++[(n.toNat,ds)] } o'/\Mv o H o' H':=by
 obtain⟨nw,ob,os,bd,st,dj,wf,inc,al⟩:=h
 refine⟨nw,ob,bd,fun {n ds} ok H' d hd b' k=>?_⟩
 have hb:=iR.mp ok.1
 have hf:FrN (n.toNat,ds):=⟨by show n.toNat<256;omega,ok.2.1,ok.2.2⟩
 have s':StW A H' nw S os:=st.move fun x v e z=>k x v e (z.imp_left fun y w=>dj x w y)
 refine⟨Or2 o fun x=>x=d,⟨nw,Or2 ob fun x=>x=d,os,b',⟨s'.at_,s'.on,s'.al⟩,?_,wf.hand hf,?_,?_⟩,k.le fun x hx=>inc x (.inl hx),fun x hx=>?_⟩
 ·rintro x (hx | hx) hy
  ·exact dj x hx hy
  ·have hx':x=d:=hx
   rw[hx']at hy
   exact al d (inc d (.inr hy)) hd
 ·rintro x ((hx | hx) | hx)
  ·exact .inl (inc x (.inl hx))
  ·exact .inr hx
  ·exact .inl (inc x (.inr hx))
 ·rintro x (hx | hx)
  ·rcases Classical.em (ob x) with c | c
   ·exact b'.al x (.inl c)
   ·cases e:H x with
    |none=>exact absurd e (al x hx)
    |some v=>rw[k x v e (.inl c)];simp
  ·exact b'.al x (.inr hx)
 ·rcases hx with hx | hx
  ·exact .inl hx
  ·have hx':x=d:=hx
   rw[hx'];exact .inr hd
def b0E (g:Same H H1)(hp:H1 p=none)(hdp:H1 dp=none)(hP:bZ A H' p S o)(hin:∀x,o x->x=p\/upd (upd H1 dp (.own p)) p v x=none)(hk:∀x u,x≠p->upd (upd H1 dp (.own p)) p v x=some u->H' x=some u):Lw A H H' p S o/\Same H1 H':=by
 have s1:Same H1 H':=fun x u e=>hk x u (aJ e hp) (by rw[aH (aJ e hp),aH (aJ e hdp)];exact e)
 refine⟨⟨g.trans s1,fun x hx=>?_,hP⟩,s1⟩
 rcases hin x hx with h | h
 ·rw[h];exact g.none hp
 ·refine g.none ?_
  by_cases c:x=p
  ·rw[c,aB]at h;cases h
  ·rw[aH c]at h
   by_cases d:x=dp
   ·rw[d,aB]at h;cases h
   ·rw[aH d]at h;exact h
def bZ.bd (h:bZ A H p S o):∃nw ob,Bd A H p nw S ob:=let ⟨nw,ob,_,bd,_⟩:=h;⟨nw,ob,bd⟩
def bZ.cell (h:bZ A H p S o):∃dx ch vt wl ul ct nw,H p=some (.ins A.post dx (pF ch vt wl ul ct nw)):=let ⟨nw,_,_,⟨dx,ch,wl,ul,ct,_,_,b⟩,_⟩:=h;⟨dx,ch,_,wl,ul,ct,nw,b.e⟩
theorem eQ.at_:∀{ts:List V}{fs:List Fr},eQ H H' ts fs->dU H' (fun _=>True) ts fs
 |_,_,.nil=> .nil
 |_,_,.cons _ _ a3 a4 r=> .cons ⟨_,a3,a4,trivial⟩ r.at_
def frD (f:Fr):PyData:= .tuple [.int ((f.1:Nat):Int),.list (f.2.map .int)]
theorem dU.dvs:∀{ts:List V}{fs:List Fr},dU H o ts fs->DVs K H ts (fs.map frD)
 |_,_,.nil=> .nil
 |_,_,.cons ⟨_,e1,e2,_⟩ r=> .cons (.tup (Vc e1) (.cons (.int _) (.cons (DV.ints (Vb e2)) .nil))) r.dvs
def b4X {lo:Own}{o u:HO}(e:H a=some o)(h:lo a)(n:¬ isT o):Mv lo H lo (upd H a u):=⟨fun x v ex z=>by
 rw[aH]
 ·exact ex
 ·rintro rfl
  rcases z with z | z
  ·exact z h
  ·rw[e]at ex;cases ex;exact n z,fun _=> .inl⟩
def b0S {xs:List V}:¬ isT (.lst xs):=fun ⟨_,z⟩=>by cases z
def StW.disp (st:StW A H nw S os):∃C dd fs,H nw=some (.ins C dd fs)/\(fs.lookup ("says":Str)=none/\fs.lookup ("step":Str)=none/\fs.lookup ("shown":Str)=none)/\∀f:Nat->Sp,(C=A.free/\f S.now.tag=f 0)\/(C=A.speaks/\f S.now.tag=f 1)\/(C=A.reads/\f S.now.tag=f 2)\/(C=A.intail/\f S.now.tag=f 3)\/(C=A.flag/\f S.now.tag=f 4)\/(C=A.settles/\f S.now.tag=f 5)\/(C=A.rests/\f S.now.tag=f 6)\/(C=A.off/\f S.now.tag=f 7):=by
 have sa:=st.at_
 cases en:S.now
 case free k=>
  rw[en]at sa
  obtain⟨dd,hS⟩:=sa
  exact⟨_,dd,_,hS,⟨rfl,rfl,rfl⟩,fun f=> .inl ⟨rfl,rfl⟩⟩
 case speaks n ds k=>
  rw[en]at sa
  obtain⟨dd,wa,r,st2,ks,t0,hS,_⟩:=sa
  exact⟨_,dd,_,hS,⟨rfl,rfl,rfl⟩,fun f=> .inr (.inl ⟨rfl,rfl⟩)⟩
 case reads h=>
  rw[en]at sa
  obtain⟨dd,r,st2,ks,t0,hS,_⟩:=sa
  exact⟨_,dd,_,hS,⟨rfl,rfl,rfl⟩,fun f=> .inr (.inr (.inl ⟨rfl,rfl⟩))⟩
 case tlS v c=>
  rw[en]at sa
  obtain⟨dd,tl,hS,_⟩:=sa
  exact⟨_,dd,_,hS,⟨rfl,rfl,rfl⟩,fun f=> .inr (.inr (.inr (.inl ⟨rfl,rfl⟩)))⟩
 case tlR n ds v c=>
  rw[en]at sa
  obtain⟨dd,tl,tf,df,hS,_⟩:=sa
  exact⟨_,dd,_,hS,⟨rfl,rfl,rfl⟩,fun f=> .inr (.inr (.inr (.inl ⟨rfl,rfl⟩)))⟩
 case flag l m=>
  rw[en]at sa
  obtain⟨dd,hS⟩:=sa
  exact⟨_,dd,_,hS,⟨rfl,rfl,rfl⟩,fun f=> .inr (.inr (.inr (.inr (.inl ⟨rfl,rfl⟩))))⟩
 case settles m=>
  rw[en]at sa
  obtain⟨dd,hS⟩:=sa
  exact⟨_,dd,_,hS,⟨rfl,rfl,rfl⟩,fun f=> .inr (.inr (.inr (.inr (.inr (.inl ⟨rfl,rfl⟩)))))⟩
 case rests l=>
  rw[en]at sa
  obtain⟨dd,hS⟩:=sa
  exact⟨_,dd,_,hS,⟨rfl,rfl,rfl⟩,fun f=> .inr (.inr (.inr (.inr (.inr (.inr (.inl ⟨rfl,rfl⟩))))))⟩
 case off=>
  rw[en]at sa
  obtain⟨dd,hS⟩:=sa
  exact⟨_,dd,_,hS,⟨rfl,rfl,rfl⟩,fun f=> .inr (.inr (.inr (.inr (.inr (.inr (.inr (⟨rfl,rfl⟩)))))))⟩
def jJ (A:Cs)(H:Hp):List Addr->List PS->Own->Prop
 |[], [],o=>∀x,o x->H x≠none
 |p::ps,S::Ss,o=>∃o1 o2,bZ A H p S o1/\jJ A H ps Ss o2/\(∀x,o1 x->o2 x->False)/\(∀x,o1 x\/o2 x->o x)/\∀x,o x->H x≠none
 |_,_,_=>False
theorem jJ.al:∀{ps:List Addr}{Ss:List PS}{o:Own},jJ A H ps Ss o->∀x,o x->H x≠none
 |[], [],_,h=>h
 |_::_,_::_,_,⟨_,_,_,_,_,_,h⟩=>h
theorem jJ.len:∀{ps:List Addr}{Ss:List PS}{o:Own},jJ A H ps Ss o->ps.length=Ss.length
 |[], [],_,_=>rfl
 |_::_,_::_,_,⟨_,_,_,h,_⟩=>YJ (·+1) h.len
theorem jJ.move:∀{ps:List Addr}{Ss:List PS}{o:Own},jJ A H ps Ss o->(∀x v,H x=some v->(o x\/isT v)->H' x=some v)->jJ A H' ps Ss o
 | [], [],o,h,g=>fun x hx=>by
  cases e:H x with
  |none=>exact absurd e (h x hx)
  |some v=>rw[g x v e (.inl hx)];simp
 | _::_,_::_,o,⟨o1,o2,h1,h2,dj,inc,al⟩,g=>⟨o1,o2,h1.move fun x v e z=>g x v e (z.imp_left fun y=>inc x (.inl y)),h2.move fun x v e z=>g x v e (z.imp_left fun y=>inc x (.inr y)),dj,inc,fun x hx=>by
  cases e:H x with
  |none=>exact absurd e (al x hx)
  |some v=>rw[g x v e (.inl hx)];simp⟩
def jJ.same {ps:List Addr}{Ss:List PS}(h:jJ A H ps Ss o)(g:Same H H'):jJ A H' ps Ss o:=h.move fun x v e _=>g x v e
theorem jJ.get:∀{ps:List Addr}{Ss:List PS}{o:Own},jJ A H ps Ss o->∀{i:Nat}{p:Addr},ps[i]? =some p->∃S oi,Ss[i]? =some S/\bZ A H p S oi/\(∀x,oi x->o x)/\∀H' oi' S',Mv oi H oi' H'->bZ A H' p S' oi'->∃o',jJ A H' ps (Ss.set i S') o'/\Mv o H o' H'
 | q ::ps,S::Ss,o,⟨o1,o2,h1,h2,dj,inc,al⟩,0,p,hp=>by
  cases hp
  refine⟨S,o1,rfl,h1,fun x hx=>inc x (.inl hx),fun H' oi' S' m hP=>?_⟩
  have h2':jJ A H' ps Ss o2:=h2.move fun x v e z=>m.1 x v e (z.imp_left fun y w=>dj x w y)
  refine⟨Or2 oi' o2,⟨oi',o2,hP,h2',fun x hx hy=>?_,fun x hx=>hx,fun x hx=>?_⟩,⟨fun x v e z=>m.1 x v e (z.imp_left fun y w=>y (inc x (.inl w))),fun x hx=>?_⟩⟩
  ·exact(m.2 x hx).elim (fun z=>dj x z hy) fun z=>h2.al x hy z
  ·rcases hx with hx | hx
   ·exact hP.al x hx
   ·exact h2'.al x hx
  ·rcases hx with hx | hx
   ·exact(m.2 x hx).imp (fun z=>inc x (.inl z)) id
   ·exact .inl (inc x (.inr hx))
 | q ::ps,S::Ss,o,⟨o1,o2,h1,h2,dj,inc,al⟩,i+1,p,hp=>by
  obtain⟨S1,oi,e1,hP1,le,back⟩:=jJ.get h2 (i:=i) hp
  refine⟨S1,oi,e1,hP1,fun x hx=>inc x (.inr (le x hx)),fun H' oi' S' m hP=>?_⟩
  obtain⟨o2',h2',m'⟩:=back H' oi' S' m hP
  have h1':bZ A H' q S o1:=h1.move fun x v e z=>m'.1 x v e (z.imp_left fun y w=>dj x y w)
  refine⟨Or2 o1 o2',⟨o1,o2',h1',h2',fun x hx hy=>?_,fun x hx=>hx,fun x hx=>?_⟩,⟨fun x v e z=>m'.1 x v e (z.imp_left fun y w=>y (inc x (.inr w))),fun x hx=>?_⟩⟩
  ·exact(m'.2 x hy).elim (fun z=>dj x hx z) fun z=>h1.al x hx z
  ·rcases hx with hx | hx
   ·exact h1'.al x hx
   ·exact h2'.al x hx
  ·rcases hx with hx | hx
   ·exact .inl (inc x (.inl hx))
   ·exact(m'.2 x hx).imp (fun z=>inc x (.inr z)) id
theorem jJ.snoc (hP:bZ A H' p S o1)(g:Same H H')(n:∀x,o1 x->H x=none):∀{ps:List Addr}{Ss:List PS}{o:Own},jJ A H ps Ss o->jJ A H' (ps++[p]) (Ss++[S]) (Or2 o o1)
  | [], [],o,h=>⟨o1,o,hP,fun x hx=>by
      cases e:H x with
      |none=>exact absurd e (h x hx)
      |some v=>rw[g x v e];simp,fun x hx hy=>h x hy (n x hx),fun x hx=>hx.symm,fun x hx=>by
      rcases hx with hx | hx
      · cases e:H x with
        |none=>exact absurd e (h x hx)
        |some v=>rw[g x v e];simp
      · exact hP.al x hx⟩
  | q :: ps,T::Ss,o,⟨oa,ob,h1,h2,dj,inc,al⟩=>⟨oa,Or2 ob o1,h1.same g,jJ.snoc hP g n h2,fun x hx hy=>by
      rcases hy with hy | hy
      · exact dj x hx hy
      · exact h1.al x hx (n x hy),fun x hx=>by
      rcases hx with hx | hx | hx
      · exact .inl (inc x (.inl hx))
      · exact .inl (inc x (.inr hx))
      · exact .inr hx,fun x hx=>by
      rcases hx with hx | hx
      · cases e:H x with
        |none=>exact absurd e (al x hx)
        |some v=>rw[g x v e];simp
      · exact hP.al x hx⟩
structure dX (H:Hp)(L:List (Addr×HO)):Prop where
 at_:∀(j:Nat)(c:Addr×HO),L[j]? =some c->H c.1=some c.2
 ap:∀(i j:Nat)(c d:Addr×HO),L[i]? =some c->L[j]? =some d->c.1=d.1->i=j
def dX.put {h:HO}(hc:dX H L)(e:L[i]? =some (a,h))(h':HO):dX (upd H a h') (L.set i (a,h')):=by
 have hi:i<L.length:=(Yd.mp e).1
 have old:∀(j:Nat)(c:Addr×HO),(L.set i (a,h'))[j]? =some c->(j=i/\c=(a,h'))\/(j≠i/\L[j]? =some c):=fun j c z=>by
  rw[Xi]at z
  by_cases k:i=j
  ·rw[if_pos k,if_pos hi]at z
   exact .inl ⟨k.symm,(Yo z).symm⟩
  ·rw[if_neg k]at z
   exact .inr ⟨fun y=>k y.symm,z⟩
 refine⟨fun j c z=>?_,fun j k c d z y q=>?_⟩
 ·rcases old j c z with ⟨_,rfl⟩ | ⟨n,z⟩
  ·exact aB
  ·rw[aH fun q=>n (hc.ap j i c (a,h) z e q)]
   exact hc.at_ j c z
 ·rcases old j c z with ⟨n1,rfl⟩ | ⟨n1,z⟩ <;> rcases old k d y with ⟨n2,rfl⟩ | ⟨n2,y⟩
  ·rw[n1,n2]
  ·exact absurd (hc.ap k i d (a,h) y e q.symm) n2
  ·exact absurd (hc.ap j i c (a,h) z e q) n1
  ·exact hc.ap j k c d z y q
def dX.keep (hc:dX H L)(g:∀(j:Nat)(c:Addr×HO),L[j]? =some c->H' c.1=some c.2):dX H' L:=⟨g,hc.ap⟩
def dX.same (hc:dX H L)(g:Same H H'):dX H' L:=hc.keep fun j c z=>g _ _ (hc.at_ j c z)
def dX.snoc {h:HO}(hc:dX H L)(n:H a=none):dX (upd H a h) (L++[(a,h)]):=by
 have old:∀(j:Nat)(c:Addr×HO),(L++[(a,h)])[j]? =some c->(j=L.length/\c=(a,h))\/L[j]? =some c:=fun j c z=>by
  by_cases k:j<L.length
  ·rw[YC k]at z
   exact .inr z
  ·rw [YA (by omega)]at z
   have hj:j-L.length=0:=by
    cases e:j-L.length with
    |zero=>rfl
    |succ m=>rw[e]at z;cases z
   rw[hj]at z
   exact .inl ⟨by omega,(Yo z).symm⟩
 have ne:∀(j:Nat)(c:Addr×HO),L[j]? =some c->c.1≠a:=fun j c z q=>by have:=hc.at_ j c z;rw[q,n]at this;cases this
 refine⟨fun j c z=>?_,fun j k c d z y q=>?_⟩
 ·rcases old j c z with ⟨_,rfl⟩ | z
  ·exact aB
  ·rw[aH (ne j c z)];exact hc.at_ j c z
 ·rcases old j c z with ⟨n1,rfl⟩ | z <;> rcases old k d y with ⟨n2,rfl⟩ | y
  ·rw[n1,n2]
  ·exact absurd q.symm (ne k d y)
  ·exact absurd q (ne j c z)
  ·exact hc.ap j k c d z y q
open PyProof.Rows in
structure RS where
 (ps:List PS) (ow:List (Key×V)) (bo:List Int) (sa he:List (List Int)) (ev:List (Nat×Nat×Str))
variable {R':RS}
inductive gM (H:Hp):List V->List (Nat×Nat×Str)->Prop
 |nil:gM H [] []
 |cons {t:Addr} {e:Nat×Nat×Str} {vs:List V} {es:List (Nat×Nat×Str)}:H t=some (.tup [.int ((e.1:Nat):Int),.int ((e.2.1:Nat):Int),.str e.2.2])->gM H vs es->gM H (.ref t::vs) (e::es)
theorem gM.imp (g:∀x xs,H x=some (.tup xs)->H' x=some (.tup xs)):∀{vs:List V}{es:List (Nat×Nat×Str)},gM H vs es->gM H' vs es
 |_,_,.nil=> .nil
 |_,_,.cons a r=> .cons (g _ _ a) (r.imp g)
theorem gM.snoc {e:Nat×Nat×Str}(a:H t=some (.tup [.int ((e.1:Nat):Int),.int ((e.2.1:Nat):Int),.str e.2.2])):∀{vs:List V}{es:List (Nat×Nat×Str)},gM H vs es->gM H (vs++[.ref t]) (es++[e])
 |_,_,.nil=> .cons a .nil
 |_,_,.cons b r=> .cons b (r.snoc a)
theorem gM.len:∀{vs:List V}{es:List (Nat×Nat×Str)},gM H vs es->vs.length=es.length
 |_,_,.nil=>rfl
 |_,_,.cons _ r=>YJ (·+1) r.len
abbrev rF (PL OW BO SA HE EV:Addr):List (Str×V):=[("posts",.ref PL),("owners",.ref OW),("borne",.ref BO),("sayings",.ref SA),("hearings",.ref HE),("happened",.ref EV)]
def lsC (as:List Addr)(xs:List (List Int)):List (Addr×HO):=List.zipWith (fun a x=>(a,HO.lst (x.map V.int))) as xs
structure Rw where
 (dx PL OW BO SA HE EV:Addr) (ps sas hes:List Addr) (evs:List V) (op:Own)
abbrev kO (C r:Addr)(w:Rw)(R:RS):List (Addr×HO):=(r,.ins C w.dx (rF w.PL w.OW w.BO w.SA w.HE w.EV))::(w.PL,.lst (w.ps.map V.ref))::(w.OW,.dK R.ow)::(w.BO,.lst (R.bo.map V.int))::(w.SA,.lst (w.sas.map V.ref))::(w.HE,.lst (w.hes.map V.ref))::(w.EV,.lst w.evs)::(lsC w.sas R.sa++lsC w.hes R.he)
structure bY (C:Addr)(A:Cs)(H:Hp)(r:Addr)(R:RS)(o:Own)(w:Rw):Prop where
 cs:dX H (kO C r w R)
 po:jJ A H w.ps R.ps w.op
 ev:gM H w.evs R.ev
 l1:w.sas.length=R.ps.length
 l2:R.sa.length=R.ps.length
 l3:w.hes.length=R.ps.length
 l4:R.he.length=R.ps.length
 lp:R.ps.length<=5
 dj:∀x,w.op x->∀(j:Nat)(c:Addr×HO),(kO C r w R)[j]? =some c->c.1≠x
 inc:∀x,(w.op x\/∃(j:Nat)(c:Addr×HO),(kO C r w R)[j]? =some c/\c.1=x)->o x
 al:∀x,o x->H x≠none
def bK (C:Addr)(A:Cs)(H:Hp)(r:Addr)(R:RS)(o:Own):Prop:=∃w,bY C A H r R o w
section
variable {R:RS}{w:Rw}
def bY.move (h:bY C A H r R o w)(g:∀x v,H x=some v->(o x\/isT v)->H' x=some v):bY C A H' r R o w:=
 ⟨h.cs.keep fun j c z=>g _ _ (h.cs.at_ j c z) (.inl (h.inc _ (.inr ⟨j,c,z,rfl⟩))),h.po.move fun x v e z=>g x v e (z.imp_left fun y=>h.inc x (.inl y)),h.ev.imp fun x xs e=>g x _ e (.inr ⟨_,rfl⟩),h.l1,h.l2,h.l3,h.l4,h.lp,h.dj,h.inc,fun x hx=>by
  cases e:H x with
  |none=>exact absurd e (h.al x hx)
  |some v=>rw[g x v e (.inl hx)];simp⟩
def bY.same (h:bY C A H r R o w)(g:Same H H'):bY C A H' r R o w:=h.move fun x v e _=>g x v e
def bY.er (h:bY C A H r R o w):H r=some (.ins C w.dx (rF w.PL w.OW w.BO w.SA w.HE w.EV)):=h.cs.at_ 0 _ rfl
def bY.ePL (h:bY C A H r R o w):H w.PL=some (.lst (w.ps.map V.ref)):=h.cs.at_ 1 _ rfl
def bY.eOW (h:bY C A H r R o w):H w.OW=some (.dK R.ow):=h.cs.at_ 2 _ rfl
def bY.eBO (h:bY C A H r R o w):H w.BO=some (.lst (R.bo.map V.int)):=h.cs.at_ 3 _ rfl
def bY.eSA (h:bY C A H r R o w):H w.SA=some (.lst (w.sas.map V.ref)):=h.cs.at_ 4 _ rfl
def bY.eHE (h:bY C A H r R o w):H w.HE=some (.lst (w.hes.map V.ref)):=h.cs.at_ 5 _ rfl
def bY.eEV (h:bY C A H r R o w):H w.EV=some (.lst w.evs):=h.cs.at_ 6 _ rfl
def bY.pl (h:bY C A H r R o w):w.ps.length=R.ps.length:=h.po.len
def bY.at (h:bY C A H r R o w)(hi:R.ps[i]? =some S):∃p oi,w.ps[i]? =some p/\bZ A H p S oi:=by
 have hl:i<w.ps.length:=by rw[h.pl];exact(Yd.mp hi).1
 have hp:w.ps[i]? =some w.ps[i]:=Yb hl
 obtain⟨S',oi,e,hP,_⟩:=h.po.get hp
 rw[hi]at e
 cases e
 exact⟨_,oi,hp,hP⟩
end
def a0H (e:L[k]? =some (a,v))(h:(L.set k (a,v'))[j]? =some c):∃c',L[j]? =some c'/\c'.1=c.1:=by
 have hk:k<L.length:=(Yd.mp e).1
 rw[Xi]at h
 by_cases q:k=j
 ·rw[if_pos q,if_pos hk]at h
  cases h
  exact⟨(a,v),q▸e,rfl⟩
 ·rw[if_neg q]at h
  exact⟨c,h,rfl⟩
def bY.put {R:RS}{w w':Rw}(h:bY C A H r R o w)(e:(kO C r w R)[k]? =some (a,v))(nT:¬ isT v)(eL:kO C r w' R'=(kO C r w R).set k (a,v'))(ep:R'.ps=R.ps)(e1:w'.ps=w.ps)(e2:w'.op=w.op)(e3:w'.sas.length=w.sas.length)(e4:R'.sa.length=R.sa.length)(e5:w'.hes.length=w.hes.length)(e6:R'.he.length=R.he.length)(ev:gM H w'.evs R'.ev):bY C A (upd H a v') r R' o w'/\Mv o H o (upd H a v'):=by
 have ea:=h.cs.at_ k _ e
 have oa:o a:=h.inc a (.inr ⟨k,_,e,rfl⟩)
 have kT:∀x u,H x=some u->isT u->upd H a v' x=some u:=fun x u eu t=>by
  rw[aH]
  ·exact eu
  ·rintro rfl
   rw[ea]at eu
   cases eu
   exact nT t
 refine⟨⟨eL▸h.cs.put e v',?_,ev.imp fun x xs ex=>kT x _ ex ⟨_,rfl⟩,by rw[e3,ep];exact h.l1,by rw[e4,ep];exact h.l2,by rw[e5,ep];exact h.l3,by rw[e6,ep];exact h.l4,by rw[ep];exact h.lp,?_,?_,?_⟩,b4X ea oa nT⟩
 ·rw[e1,e2,ep]
  refine h.po.move fun x u eu z=>?_
  rcases z with z | z
  ·rw[aH fun q=>h.dj x z k _ e q.symm];exact eu
  ·exact kT x u eu z
 ·rw[e2,eL]
  intro x hx j c hc q
  obtain⟨c',h1,h2⟩:=a0H e hc
  exact h.dj x hx j c' h1 (h2.trans q)
 ·rw [e2,eL]
  rintro x (hx | ⟨j,c,hc,q⟩)
  ·exact h.inc x (.inl hx)
  ·obtain⟨c',h1,h2⟩:=a0H e hc
   exact h.inc x (.inr ⟨j,c',h1,h2.trans q⟩)
 ·intro x hx
  by_cases q:x=a
  ·rw[q,aB];simp
  ·rw[aH q];exact h.al x hx
def bY.step {R:RS}{w:Rw}(h:bY C A H r R o w)(hp:w.ps[i]? =some p):∃S oi,R.ps[i]? =some S/\bZ A H p S oi/\(∀x,oi x->o x)/\∀H' oi' S',Mv oi H oi' H'->bZ A H' p S' oi'->∃o' op',bY C A H' r { R with ps:=R.ps.set i S' } o' { w with op:=op' }/\Mv o H o' H':=by
 obtain⟨S,oi,eS,hP,le,back⟩:=h.po.get hp
 refine⟨S,oi,eS,hP,fun x hx=>h.inc x (.inl (le x hx)),fun H' oi' S' m hP'=>?_⟩
 obtain⟨op',po',m'⟩:=back H' oi' S' m hP'
 have nop:∀(j:Nat)(c:Addr×HO),(kO C r w R)[j]? =some c->¬ w.op c.1:=fun j c hc z=>h.dj _ z j c hc rfl
 have len:(R.ps.set i S').length=R.ps.length:=Xq
 have ko:cQ o H H':=fun x v e z=>m'.1 x v e (z.imp_left fun y q=>y (h.inc x (.inl q)))
 refine⟨Or2 (fun x=>o x/\¬ w.op x) op',op',⟨h.cs.keep fun j c hc=>m'.1 _ _ (h.cs.at_ j c hc) (.inl (nop j c hc)),po',h.ev.imp fun x xs e=>m'.1 x _ e (.inr ⟨_,rfl⟩),h.l1.trans len.symm,h.l2.trans len.symm,h.l3.trans len.symm,h.l4.trans len.symm,by show (R.ps.set i S').length<=5;rw[len];exact h.lp,?_,?_,?_⟩,ko,?_⟩
 ·intro x hx j c hc q
  rcases m'.2 x hx with z | z
  ·exact h.dj x z j c hc q
  ·have:=h.cs.at_ j c hc
   rw[q,z]at this
   cases this
 ·rintro x (hx | ⟨j,c,hc,q⟩)
  ·exact .inr hx
  ·exact .inl ⟨h.inc x (.inr ⟨j,c,hc,q⟩),q▸nop j c hc⟩
 ·rintro x (hx | hx)
  ·cases e:H x with
   |none=>exact absurd e (h.al x hx.1)
   |some v=>rw[m'.1 x v e (.inl hx.2)];simp
  ·exact po'.al x hx
 ·rintro x (hx | hx)
  ·exact .inl hx.1
  ·exact(m'.2 x hx).imp (fun z=>h.inc x (.inl z)) id
def a9B {b:Addr}{xs:List V}{m:List ((Int ⊕ Str)×V)}(h:SqL K H a xs)(e:H b=some (.dK m)):SqL K (upd H b v) a xs:=by
 rcases h with (h | ⟨o,h⟩) | h
 ·exact .inl (.inl ((aH fun q=>by rw[q,e]at h;cases h).trans h))
 ·exact .inl (.inr ⟨o,(aH fun q=>by rw[q,e]at h;cases h).trans h⟩)
 ·exact .inr h
def b7X {m:List ((Int ⊕ Str)×V)}:¬ isT (.dK m):=fun ⟨_,z⟩=>by cases z
def a7I {x:List Int}(ha:as[i]? =some a)(hx:xs[i]? =some x):(lsC as xs)[i]? =some (a,HO.lst (x.map V.int)):=by
 unfold lsC
 rw[List.getElem?_zipWith,ha,hx]
def pO (h:as.length=xs.length):(lsC as xs).length=xs.length:=by
 unfold lsC
 rw[List.length_zipWith,h,Nat.min_self]
def bY.sa_at {R:RS}{w:Rw}{xs:List Int}(h:bY C A H r R o w)(hi:R.sa[i]? =some xs):∃a,w.sas[i]? =some a/\(kO C r w R)[i+7]? =some (a,.lst (xs.map V.int)):=by
 have hl:i<R.sa.length:=(Yd.mp hi).1
 have e1:=h.l1
 have e2:=h.l2
 have ha:w.sas[i]? =some (w.sas[i]'(by omega)):=Yb (by omega)
 refine⟨_,ha,?_⟩
 show (lsC w.sas R.sa++lsC w.hes R.he)[i]? =_
 rw[YC (by rw[pO (by omega)];exact hl)]
 exact a7I ha hi
def bY.he_at {R:RS}{w:Rw}{xs:List Int}(h:bY C A H r R o w)(hi:R.he[i]? =some xs):∃a,w.hes[i]? =some a/\(kO C r w R)[R.ps.length+i+7]? =some (a,.lst (xs.map V.int)):=by
 have hl:i<R.he.length:=(Yd.mp hi).1
 have e1:=h.l1
 have e2:=h.l2
 have e3:=h.l3
 have e4:=h.l4
 have ha:w.hes[i]? =some (w.hes[i]'(by omega)):=Yb (by omega)
 refine⟨_,ha,?_⟩
 show (lsC w.sas R.sa++lsC w.hes R.he)[R.ps.length+i]? =_
 have ll:=pO (as:=w.sas) (xs:=R.sa) (by omega)
 rw[YA (by omega),show R.ps.length+i-(lsC w.sas R.sa).length=i by omega]
 exact a7I ha hi
def a2C (C:Addr)(A:Cs):Sp:=fun vs H Q _=>∃r R o w,vs= [.ref r]/\bY C A H r R o w/\Q (.int ((R.bo.length:Nat):Int)) H
def a5E (C:Addr)(A:Cs):Sp:=fun vs H Q _=>∃r R o w,vs= [.ref r]/\bY C A H r R o w/\∀l,H l=none->Q (.ref l) (upd H l (.lst (R.bo.map V.int)))
def a0T (ha:as[i]? =some a):lsC as (xs.set i y)=(lsC as xs).set i (a,HO.lst (y.map V.int)):=by
 unfold lsC
 apply List.ext_getElem?
 intro j
 rw[List.getElem?_zipWith,Xi,Xi,List.getElem?_zipWith]
 by_cases q:i=j
 ·subst q
  have hl:i<as.length:=(Yd.mp ha).1
  rw[if_pos rfl,if_pos rfl,ha,List.length_zipWith]
  by_cases z:i<xs.length
  ·rw[if_pos z,if_pos (by omega)]
  ·rw[if_neg z,if_neg (by omega)]
 ·rw[if_neg q,if_neg q]
def bY.say {R:RS}{w:Rw}{xs:List Int}(h:bY C A H r R o w)(hi:R.sa[i]? =some xs)(ha:w.sas[i]? =some a):bY C A (upd H a (.lst (xs.map V.int++[.int b]))) r { R with sa:=R.sa.set i (xs++[b]) } o w/\Mv o H o (upd H a (.lst (xs.map V.int++[.int b]))):=by
 obtain⟨a',ha',e⟩:=h.sa_at hi
 rw[ha]at ha'
 cases ha'
 have hl:i<R.sa.length:=(Yd.mp hi).1
 have e1:=h.l1
 have e2:=h.l2
 have em:xs.map V.int++[V.int b]=(xs++[b]).map V.int:=by rw[Yk];rfl
 have eL:lsC w.sas (R.sa.set i (xs++[b]))++lsC w.hes R.he=(lsC w.sas R.sa++lsC w.hes R.he).set i (a,.lst ((xs++[b]).map V.int)):=by
  rw[List.set_append_left _ _ (by rw[pO (by omega)];exact hl),a0T ha]
 rw[em]
 refine h.put (k:=i+7) (w':=w) e b0S ?_ rfl rfl rfl rfl Xq rfl rfl h.ev
 show (r,_)::(w.PL,_)::(w.OW,_)::(w.BO,_)::(w.SA,_)::(w.HE,_)::(w.EV,_)::(lsC w.sas (R.sa.set i (xs++[b]))++lsC w.hes R.he)=_
 rw[eL]
 rfl
def bY.hrd {R:RS}{w:Rw}{xs:List Int}(h:bY C A H r R o w)(hi:R.he[i]? =some xs)(ha:w.hes[i]? =some a):bY C A (upd H a (.lst (xs.map V.int++[.int b]))) r { R with he:=R.he.set i (xs++[b]) } o w/\Mv o H o (upd H a (.lst (xs.map V.int++[.int b]))):=by
 obtain⟨a',ha',e⟩:=h.he_at hi
 rw[ha]at ha'
 cases ha'
 have hl:i<R.he.length:=(Yd.mp hi).1
 have e1:=h.l1
 have e2:=h.l2
 have em:xs.map V.int++[V.int b]=(xs++[b]).map V.int:=by rw[Yk];rfl
 have ll:=pO (as:=w.sas) (xs:=R.sa) (by omega)
 have eL:lsC w.sas R.sa++lsC w.hes (R.he.set i (xs++[b]))=(lsC w.sas R.sa++lsC w.hes R.he).set (R.ps.length+i) (a,.lst ((xs++[b]).map V.int)):=by
  rw[List.set_append_right _ _ (by omega),show R.ps.length+i-(lsC w.sas R.sa).length=i by omega,a0T ha]
 rw[em]
 refine h.put (k:=R.ps.length+i+7) (w':=w) e b0S ?_ rfl rfl rfl rfl rfl rfl Xq h.ev
 show (r,_)::(w.PL,_)::(w.OW,_)::(w.BO,_)::(w.SA,_)::(w.HE,_)::(w.EV,_)::(lsC w.sas R.sa++lsC w.hes (R.he.set i (xs++[b])))=_
 rw[eL]
 rfl
def bY.bear {R:RS}{w:Rw}(h:bY C A H r R o w):bY C A (upd H w.BO (.lst (R.bo.map V.int++[.int b]))) r { R with bo:=R.bo++[b] } o w/\Mv o H o (upd H w.BO (.lst (R.bo.map V.int++[.int b]))):=by
 have em:R.bo.map V.int++[V.int b]=(R.bo++[b]).map V.int:=by rw[Yk];rfl
 rw[em]
 exact h.put (k:=3) (w':=w) rfl b0S rfl rfl rfl rfl rfl rfl rfl rfl h.ev
def bY.happen {R:RS}{w:Rw}{e:Nat×Nat×Str}(h:bY C A H r R o w)(et:H t=some (.tup [.int ((e.1:Nat):Int),.int ((e.2.1:Nat):Int),.str e.2.2])):bY C A (upd H w.EV (.lst (w.evs++[.ref t]))) r { R with ev:=R.ev++[e] } o { w with evs:=w.evs++[.ref t] }/\Mv o H o (upd H w.EV (.lst (w.evs++[.ref t]))):=
 h.put (k:=6) (w':={ w with evs:=w.evs++[.ref t] }) rfl b0S rfl rfl rfl rfl rfl rfl rfl rfl (h.ev.snoc et)
def a5A (C:Addr)(A:Cs)(NP:Addr):Sp:=fun vs H Q E=>∃r R o w k,vs= [.ref r,.int k]/\bY C A H r R o w/\(∀(i:Nat) p,k=((i:Nat):Int)->w.ps[i]? =some p->Q (.ref p) H)/\(¬ (0<=k/\k<((R.ps.length:Nat):Int))->∀H',Same H H'->False)
def yI (C:Addr)(A:Cs):Sp:=fun vs H Q _=>∃r R o w,vs= [.ref r]/\bY C A H r R o w/\∀l,H l=none->Q (.ref l) (upd H l (.lst w.evs))
def a5D (K:W.Frag)(C:Addr)(A:Cs)(NP NF NN:Addr):Sp:=fun vs H Q E=>∃r R o w k n a ds,vs= [.ref r,.int k,.int n,.ref a]/\bY C A H r R o w/\SqL K H a (ds.map V.int)/\ds.length<=500/\R.ow.length<=900/\(∀S∈R.ps,S.wt.length<900)/\
 (¬ (0<=k/\k<((R.ps.length:Nat):Int))->∀H',Same H H'->False)/\((0<=k/\k<((R.ps.length:Nat):Int))->¬ oO n ds->∀H',Same H H'->False)/\
 (∀ (i:Nat) S,k=((i:Nat):Int)->R.ps[i]? =some S->oO n ds->∃j:Int,(gZ R.ow (.inl n)).getD (.int ((i:Nat):Int))= .int j/\(j≠((i:Nat):Int)->∀H',Same H H'->False)/\
  (j=((i:Nat):Int)->∀H' o',bK C A H' r { R with ps:=R.ps.set i { S with wt:=S.wt++[(n.toNat,ds)] },ow:=putK R.ow (.inl n) (.int ((i:Nat):Int)) } o'->Mv o H o' H'->Q .non H'))
def evt (t n:Nat)(w:Str):List (Nat×Nat×Str):=if w="" then [] else [(t,n,w)]
def rK (R R':RS)(n:Nat)(S:PS)(b:Int)(x y:List Int):RS:=
 { R' with ps:=R'.ps.set n (bT S b).2,sa:=R'.sa.set n (x++[bQ S]),he:=R'.he.set n (y++[b]),ev:=R'.ev++evt R.bo.length n (bT S b).1 }
def aY (R:RS)(hs:List Int):Nat->RS
 |0=>R
 | n+1=>match R.ps[n]?,hs[n]?,R.sa[n]?,R.he[n]? with
  |some S,some b,some x,some y=>rK R (aY R hs n) n S b x y
  |_,_,_,_=>aY R hs n
def kJ (R:RS)(hs:List Int)(b:Int):RS:={ aY R hs R.ps.length with bo:=R.bo++[b] }
def kE {R:RS}{n:Nat}{x:List Int}(e1:R.ps[n]? =some S)(e2:hs[n]? =some b)(e3:R.sa[n]? =some x)(e4:R.he[n]? =some y):aY R hs (n+1)=rK R (aY R hs n) n S b x y:=by
 show (match R.ps[n]?,hs[n]?,R.sa[n]?,R.he[n]? with
  |some S,some b,some x,some y=>rK R (aY R hs n) n S b x y
  |_,_,_,_=>aY R hs n)=_
 rw[e1,e2,e3,e4]
theorem jF (R:RS)(hs:List Int):∀n:Nat,(aY R hs n).bo=R.bo/\(aY R hs n).ow=R.ow/\(aY R hs n).ps.length=R.ps.length/\(aY R hs n).sa.length=R.sa.length/\(aY R hs n).he.length=R.he.length/\(∀j,n<=j->(aY R hs n).ps[j]? =R.ps[j]?/\(aY R hs n).sa[j]? =R.sa[j]?/\(aY R hs n).he[j]? =R.he[j]?)/\(aY R hs n).ev.length<=R.ev.length+n
 |0=>⟨rfl,rfl,rfl,rfl,rfl,fun _ _=>⟨rfl,rfl,rfl⟩,Yf _⟩
 | n + 1 => by
  obtain⟨h1,h2,h3,h4,h5,h6,h7⟩:=jF R hs n
  have go :(aY R hs (n+1)=aY R hs n)\/∃S b x y,aY R hs (n+1)=rK R (aY R hs n) n S b x y:=by
   cases e1:R.ps[n]? with
   |none=>left;show (match R.ps[n]?,hs[n]?,R.sa[n]?,R.he[n]? with | some S,some b,some x,some y=>rK R (aY R hs n) n S b x y | _,_,_,_=>aY R hs n)=_;rw[e1]
   | some S=>
    cases e2:hs[n]? with
    |none=>left;show (match R.ps[n]?,hs[n]?,R.sa[n]?,R.he[n]? with | some S,some b,some x,some y=>rK R (aY R hs n) n S b x y | _,_,_,_=>aY R hs n)=_;rw[e1,e2]
    | some b=>
     cases e3:R.sa[n]? with
     |none=>left;show (match R.ps[n]?,hs[n]?,R.sa[n]?,R.he[n]? with | some S,some b,some x,some y=>rK R (aY R hs n) n S b x y | _,_,_,_=>aY R hs n)=_;rw[e1,e2,e3]
     | some x=>
      cases e4:R.he[n]? with
      |none=>left;show (match R.ps[n]?,hs[n]?,R.sa[n]?,R.he[n]? with | some S,some b,some x,some y=>rK R (aY R hs n) n S b x y | _,_,_,_=>aY R hs n)=_;rw[e1,e2,e3,e4]
      |some y=>exact .inr ⟨S,b,x,y,kE e1 e2 e3 e4⟩
  rcases go with e | ⟨S,b,x,y,e⟩
  ·rw[e];exact⟨h1,h2,h3,h4,h5,fun j hj=>h6 j (by omega),by omega⟩
  ·rw [e]
   refine⟨h1,h2,?_,?_,?_,fun j hj=>⟨?_,?_,?_⟩,?_⟩
   ·show ((aY R hs n).ps.set n _).length=_;rw[Xq];exact h3
   ·show ((aY R hs n).sa.set n _).length=_;rw[Xq];exact h4
   ·show ((aY R hs n).he.set n _).length=_;rw[Xq];exact h5
   ·show ((aY R hs n).ps.set n _)[j]? =_;rw[Y2 (by omega)];exact(h6 j (by omega)).1
   ·show ((aY R hs n).sa.set n _)[j]? =_;rw[Y2 (by omega)];exact(h6 j (by omega)).2.1
   ·show ((aY R hs n).he.set n _)[j]? =_;rw[Y2 (by omega)];exact(h6 j (by omega)).2.2
   ·show ((aY R hs n).ev++evt _ _ _).length<=_
    rw[Yc]
    have:(evt R.bo.length n (bT S b).1).length<=1:=by unfold evt;split <;> simp
    omega
def lJ (ns:List Int)(b:Int):Prop:=b∈ns/\∀z∈ns,b<=z
def lJ.uniq {ns:List Int}{a:Int}(h:lJ ns a)(g:lJ ns b):a=b:=by
 have:=h.2 b g.1
 have:=g.2 a h.1
 omega
structure SzR (R:RS):Prop where
 bo:R.bo.length<900
 sa:∀x∈R.sa,x.length<900
 he:∀x∈R.he,x.length<900
 ev:R.ev.length<900
 up:∀S∈R.ps,S.up.length<900
def a5B (K:W.Frag)(C:Addr)(A:Cs)(spc:Addr->List V->Hp->VK->Prop):Sp:=fun vs H Q _=>∃r R o w f,∃hs:Int->Nat->Int,vs= [.ref r,.ref f]/\bY C A H r R o w/\R.ps≠ []/\SzR R/\(∀b,lJ (R.ps.map bQ) b->(∀i,i<R.ps.length->∀H1,Same H H1->FnE K H1 f/\∀Q1:VK,(∀H2,Same H1 H2->Q1 (.int (hs b i)) H2)->spc f [.int ((i:Nat):Int),.int ((R.bo.length:Nat):Int),.int b] H1 Q1)/\(∀i,hs b i=0\/hs b i=1)/\
 ∀H' o',bK C A H' r (kJ R ((List.range R.ps.length).map (hs b)) b) o'->Mv o H o' H'->Q (.int b) H')
def mZ {L2:List (Addr×HO)}{c0:Addr×HO}(z:(L1++c0::L2)[j]? =some c):(j=L1.length/\c=c0)\/(j<L1.length/\(L1++L2)[j]? =some c)\/(L1.length<j/\(L1++L2)[j-1]? =some c):=by
 by_cases k:j<L1.length
 ·rw[YC k]at z
  exact .inr (.inl ⟨k,by rw[YC k];exact z⟩)
 ·rw[YA (by omega)]at z
  cases e:j-L1.length with
  |zero=>rw[e]at z;exact .inl ⟨by omega,(Yo z).symm⟩
  |succ m=>rw[e]at z;exact .inr (.inr ⟨by omega,by rw[YA (by omega),show j-1-L1.length=m by omega];exact z⟩)
def dX.ins {L2:List (Addr×HO)}{h:HO}(hc:dX H (L1++L2))(n:H a=none):dX (upd H a h) (L1++(a,h)::L2):=by
 have ne:∀(j:Nat)(c:Addr×HO),(L1++L2)[j]? =some c->c.1≠a:=fun j c z q=>by have:=hc.at_ j c z;rw[q,n]at this;cases this
 refine⟨fun j c z=>?_,fun j k c d z y q=>?_⟩
 ·rcases mZ z with ⟨_,rfl⟩ | ⟨_,z⟩ | ⟨_,z⟩
  ·exact aB
  ·rw[aH (ne _ c z)];exact hc.at_ _ c z
  ·rw[aH (ne _ c z)];exact hc.at_ _ c z
 ·rcases mZ z with ⟨n1,rfl⟩ | ⟨n1,z⟩ | ⟨n1,z⟩ <;> rcases mZ y with ⟨n2,rfl⟩ | ⟨n2,y⟩ | ⟨n2,y⟩
  ·omega
  ·exact absurd q.symm (ne _ d y)
  ·exact absurd q.symm (ne _ d y)
  ·exact absurd q (ne _ c z)
  ·exact hc.ap _ _ c d z y q
  ·have:=hc.ap _ _ c d z y q;omega
  ·exact absurd q (ne _ c z)
  ·have:=hc.ap _ _ c d z y q;omega
  ·have:=hc.ap _ _ c d z y q;omega
structure Mk0 (A:Cs)(H0:Hp)(a:Addr)(H:Hp)(L:List (Addr×HO))(ps:List Addr)(Ss:List PS)(op:Own):Prop where
 cs:dX H L
 po:jJ A H ps Ss op
 dj:∀x,op x->∀(j:Nat)(c:Addr×HO),L[j]? =some c->c.1≠x
 nw:∀(j:Nat)(c:Addr×HO),L[j]? =some c->c.1=a\/H0 c.1=none
 npo:∀x,op x->H0 x=none
 kp:∀x u,x≠a->H0 x=some u->H x=some u
 ha:H a≠none
def uB {c0:Addr×HO}(z:[c0][j]? =some c):j=0/\c=c0:=by
 cases j with
 |zero=>exact⟨rfl,(Yo z).symm⟩
 |succ j=>cases z
def Mk0.base (e:H a=some v):Mk0 A H a H [(a,v)] [] [] (fun _=>False):=by
 refine⟨⟨fun j c z=>?_,fun i j c d z y q=>?_⟩,fun x hx=>hx.elim,fun x hx=>hx.elim,fun j c z=>?_,fun x hx=>hx.elim,fun x u _ q=>q,by rw[e];simp⟩
 ·obtain⟨_,rfl⟩:=uB z
  exact e
 ·rw[(uB z).1,(uB y).1]
 ·obtain⟨_,rfl⟩:=uB z
  exact .inl rfl
section
variable {q:Addr}{L2:List (Addr×HO)}{ps:List Addr}{Ss:List PS}{op:Own}
def Mk0.non0 (h:Mk0 A H0 a H L ps Ss op)(n:H q=none):H0 q=none:=by
 cases e:H0 q with
 |none=>rfl
 | some u=>
  by_cases z:q=a
  ·exact absurd (z▸n) h.ha
  ·rw[h.kp q u z e]at n;cases n
def Mk0.ins (h:Mk0 A H0 a H (L1++L2) ps Ss op)(n:H q=none):Mk0 A H0 a (upd H q v) (L1++(q,v)::L2) ps Ss op:=by
 have nq:=h.non0 n
 refine⟨h.cs.ins n,h.po.same (aK n v),fun x hx j c z y=>?_,fun j c z=>?_,h.npo,fun x u hx e=>?_,?_⟩
 ·rcases mZ z with ⟨_,rfl⟩ | ⟨_,z⟩ | ⟨_,z⟩
  ·exact h.po.al x hx (y▸n)
  ·exact h.dj x hx _ c z y
  ·exact h.dj x hx _ c z y
 ·rcases mZ z with ⟨_,rfl⟩ | ⟨_,z⟩ | ⟨_,z⟩
  ·exact .inr nq
  ·exact h.nw _ c z
  ·exact h.nw _ c z
 ·exact aK n v _ _ (h.kp x u hx e)
 ·have:=h.ha
  cases e:H a with
  |none=>exact absurd e this
  |some u=>rw[aK n v _ _ e];simp
def Mk0.put (h:Mk0 A H0 a H ((a,v)::L) ps Ss op)(nT:¬ isT v):Mk0 A H0 a (upd H a v') ((a,v')::L) ps Ss op:=by
 have e:H a=some v:=h.cs.at_ 0 _ rfl
 have old:∀(j:Nat)(c:Addr×HO),((a,v')::L)[j]? =some c->∃c',((a,v)::L)[j]? =some c'/\c'.1=c.1:=fun j c z=>by
  cases j with
  |zero=>cases z;exact⟨_,rfl,rfl⟩
  |succ j=>exact⟨c,z,rfl⟩
 refine⟨h.cs.put (i:=0) rfl v',h.po.move fun x u eu z=>?_,fun x hx j c z y=>?_,fun j c z=>?_,h.npo,fun x u hx eu=>?_,by rw[aB];simp⟩
 ·rw [aH fun y=>?_]
  ·exact eu
  ·rcases z with z | z
   ·exact h.dj x z 0 _ rfl y.symm
   ·rw[y,e]at eu;cases eu;exact nT z
 ·obtain⟨c',z1,z2⟩:=old j c z
  exact h.dj x hx j c' z1 (z2.trans y)
 ·obtain⟨c',z1,z2⟩:=old j c z
  rw[<-z2]
  exact h.nw j c' z1
 ·rw[aH hx];exact h.kp x u hx eu
def Mk0.post {w:HO}(h:Mk0 A H0 a H L ps Ss op)(hp:H p=none)(hdp:H dp=none)(hP:bZ A H' p S o)(hin:∀x,o x->x=p\/upd (upd H dp (.own p)) p w x=none)(hk:∀x u,x≠p->upd (upd H dp (.own p)) p w x=some u->H' x=some u):Mk0 A H0 a H' L (ps++[p]) (Ss++[S]) (Or2 op o):=by
 obtain⟨lw,g⟩:=b0E (Vd H) hp hdp hP hin hk
 have no:∀x,o x->H x=none:=fun x hx=>lw.fr x hx
 refine⟨h.cs.same g,h.po.snoc hP g no,fun x hx j c z y=>?_,h.nw,fun x hx=>?_,fun x u hx e=>g _ _ (h.kp x u hx e),?_⟩
 ·rcases hx with hx | hx
  ·exact h.dj x hx j c z y
  ·have:=h.cs.at_ j c z
   rw[y,no x hx]at this;cases this
 ·rcases hx with hx | hx
  ·exact h.npo x hx
  ·exact h.non0 (no x hx)
 ·have:=h.ha
  cases e:H a with
  |none=>exact absurd e this
  |some u=>rw[g _ _ e];simp
end
def wU {q:Addr}(n:Nat)(h:as.length=n):lsC (as++[q]) (List.replicate (n+1) [])=lsC as (List.replicate n [])++[(q,.lst [])]:=by
 unfold lsC
 rw[List.replicate_succ',List.zipWith_append (by rw[YX];exact h)]
 rfl
def R0 (ms:List (Int×Int))(v:Int):RS:={ ps:=ms.map fun m=>S0 m.1.toNat m.2.toNat v.toNat,ow:=[],bo:=[],sa:=List.replicate ms.length [],he:=List.replicate ms.length [],ev:=[] }
def Mk0.fin {PL OW BO SA HE EV:Addr}{ps sas hes:List Addr}{op:Own}{ms:List (Int×Int)}{v:Int}(h:Mk0 A H0 a H (kO C a ⟨dx,PL,OW,BO,SA,HE,EV,ps,sas,hes, [],op⟩ (R0 ms v)) ps (R0 ms v).ps op)(l1:sas.length=ms.length)(l2:hes.length=ms.length)(l5:ms.length<=5):∃o,bK C A H a (R0 ms v) o/\∀x,o x->x=a\/H0 x=none:=by
 have lp:(R0 ms v).ps.length=ms.length:=Ya ..
 refine⟨fun x=>op x\/∃(j:Nat)(c:Addr×HO),(kO C a ⟨dx,PL,OW,BO,SA,HE,EV,ps,sas,hes, [],op⟩ (R0 ms v))[j]? =some c/\c.1=x,⟨_,h.cs,h.po,.nil,by rw[lp];exact l1,by rw[lp];exact YX ..,by rw[lp];exact l2,by rw[lp];exact YX ..,by rw[lp];exact l5,h.dj,fun x hx=>hx,fun x hx=>?_⟩,fun x hx=>?_⟩
 ·rcases hx with hx | ⟨j,c,z,rfl⟩
  ·exact h.po.al x hx
  ·rw[h.cs.at_ j c z];simp
 ·rcases hx with hx | ⟨j,c,z,rfl⟩
  ·exact .inr (h.npo x hx)
  ·exact h.nw j c z
def iI (H:Hp)(cl:Addr)(ms:List (Int×Int)):Prop:=∃ts:List Addr,H cl=some (.lst (ts.map V.ref))/\ts.length=ms.length/\∀(i:Nat)(t:Addr)(m:Int×Int),ts[i]? =some t->ms[i]? =some m->H t=some (.tup [.int m.1,.int m.2])
def iI.keep {cl:Addr}{ms:List (Int×Int)}(h:iI H cl ms)(g:∀x u,(x=cl\/isT u)->H x=some u->H' x=some u):iI H' cl ms:=by
 obtain⟨ts,h1,h2,h3⟩:=h
 exact⟨ts,g _ _ (.inl rfl) h1,h2,fun i t m z y=>g _ _ (.inr ⟨_,rfl⟩) (h3 i t m z y)⟩
def a5C (C:Addr)(A:Cs)(NP:Addr):Sp:=fun vs H Q E=>∃a dx cl v ms,vs= [.ref a,.ref cl,.int v]/\H a=some (.ins C dx [])/\iI H cl ms/\ms.length<=500/\
 (((1<=ms.length/\ms.length<=5)/\∀m∈ms,a3U m.1 m.2 v)->∀H' o,bK C A H' a (R0 ms v) o->(∀x,o x->x=a\/H x=none)->(∀x u,x≠a->H x=some u->H' x=some u)->Q .non H')/\
 (¬ ((1<=ms.length/\ms.length<=5)/\∀m∈ms,a3U m.1 m.2 v)->∀H':Hp,(∀x u,x≠a->H x=some u->H' x=some u)->False)
def BmK (K:W.Frag)(bm:Addr):Prop:=W.nsIn K mainGlobals "__builtins__"=some (some (.ref bm))/\bm≠builtinsNs/\bm≠mainGlobals/\∃sl,K.lookup bm=some ⟨.type "module",some builtinsNs,.plain,sl⟩
def BmK.bm {bm:Addr}(X:K.In h)(G:h.Ns mainGlobals mg)(z:BmK K bm):Bm K mg bm:=by
 obtain⟨a,b,c,sl,d⟩:=z
 exact⟨W.mg_of X G a,b,c,_,d,rfl,rfl,rfl⟩
def mJ.same {pos:Pos}{qual:Str}(h:mJ P pos qual H)(k:Same H H'):mJ P pos qual H':=by
 obtain⟨ps,h1,h2,h3⟩:=h
 exact⟨ps,k _ _ h1,h2,h3.imp id fun ⟨c',a,b⟩=>⟨c',a,k _ _ b⟩⟩
def qG (wf:Wf S):bQ S=0\/bQ S=1:=by
 have hw:=wf.now
 have sy:bQ S=bQ S:=rfl
 conv at sy=>rhs;unfold bQ
 rw[sy]
 cases en:S.now with
 | speaks n ds k=>
  rw[en]at hw
  dsimp only
  rw[Yn,Yb hw.2.2.1]
  exact(a0F hw.1).wbits _ (YV _)
 |tlR n ds v c=>dsimp only;unfold iV;split <;> first | exact .inl rfl | exact .inr rfl
 |tlS v c=>dsimp only;unfold iV;split <;> first | exact .inl rfl | exact .inr rfl
 |free k=>dsimp only;(repeat' split) <;> first | exact .inl rfl | exact .inr rfl
 |flag l m=>exact .inl rfl
 |reads h=>exact .inr rfl
 |settles m=>exact .inr rfl
 |rests l=>exact .inr rfl
 |off=>exact .inr rfl
abbrev b7N:Stmt:=(cZ ZdO).getD 2 (.Pass ⟨0,0,0,0⟩)
abbrev lamT:Expr:=match b7N with
 |.Return (some (.Call _ (l::_) _ _)) _=>l
 |_=> .Name "" ⟨0,0,0,0⟩
abbrev ipT:Arguments:=match lamT with
 |.Lambda a _ _ _=>a
 |_=>⟨[], [],none, [], [],none, []⟩
abbrev ibT:Expr:=match lamT with
 |.Lambda _ b _ _=>b
 |e=>e
abbrev b5K:Scope:=match lamT with
 |.Lambda _ _ s _=>s
 |_=>aR b7N
abbrev b0F:Pos:=match lamT with
 |.Lambda _ _ _ p=>p
 |_=>⟨0,0,0,0⟩
abbrev iqT:Str:=("Rail.turn":Str)++".<locals>."++"<lambda>"
def clT {L c:Addr}(h:(PyProof.Rows.envOfC "Rail.turn" (aR ZdO) L f cd).cells.lookup (Str.ofString "wrong")=some c):closureFor b5K (PyProof.Rows.envOfC "Rail.turn" (aR ZdO) L f cd)=pure [(Str.ofString "wrong",c)]:=by
 have e:(PyProof.Rows.envOfC "Rail.turn" (aR ZdO) L f cd).cells.lookup (Str.ofString "wrong")=some (L+1):=rfl
 rw[e]at h
 cases h
 rfl
def scT:lW ["post","turn","bit","wrong"] ["post","turn","bit"] ["wrong"] b5K:=⟨rfl,rfl,rfl,by decide +kernel,rfl,by decide +kernel,by decide +kernel,by decide +kernel⟩
def xU (H:Hp)(f:Addr)(ws:List Int):Prop:=∃c c' wl,H f=some (nW f iqT ipT ibT b5K [("wrong",c)] c')/\H c'=some (dW c' iqT)/\H c=some (cI c (.ref wl))/\H wl=some (.lst (ws.map V.int))
def wrB (ws:List Int)(i b:Int):Int:=if i∈ws then 1-b else b
def b7D:Addr->List V->Hp->VK->Prop:=fun f vs H Q=>∃(ws:List Int)(i t b:Int),vs= [.int i,.int t,.int b]/\xU H f ws/\∀H',Same H H'->Q (.int (wrB ws i b)) H'
def xU.same {ws:List Int}(h:xU H f ws)(g:Same H H'):xU H' f ws:=by
 obtain⟨c,c',wl,h1,h2,h3,h4⟩:=h
 exact⟨c,c',wl,g _ _ h1,g _ _ h2,g _ _ h3,g _ _ h4⟩
def a5T {P:Program}{w:World}{base:Heap}:tQ P w K mg base 2 b7D:=by
 rintro f A outer s H us vs Q hr e0 r ⟨ws,i,t,b,rfl,⟨c,c',wl,h1,h2,h3,h4⟩,q⟩
 refine b0Y (k:=1) (N:=["post","turn","bit","wrong"]) (ws:=[.ref wl]) scT hr e0 h1 h2 ⟨rfl,by simp,.cons h3 .nil⟩ rfl r (fun pm ctv=> .of_eq ?_) fun hr'=>⟨_,(cD (dC (bA b2E (dv 0) (dv 3) rfl) (aZ lZ aG (dv 2)) (dv 2))),?_⟩
 ·rcases r with _ | ⟨r1,r⟩
  rcases r with _ | ⟨r2,r⟩
  rcases r with _ | ⟨r3,r⟩
  cases r
  rfl
 have dc:wl≠c:=fun z=>by rw[z,h3]at h4;cases h4
 have hd:fU H [c] wl=some (.lst (ws.map V.int)):=by rw[bJ (by simpa using dc)];exact h4
 refine⟨fun v H'=>v= .int (wrB ws i b)/\H'=fU H [c],?_,?_⟩
 ·refine⟨ws,(show SqA K (fU H [c]) wl (ws.map V.int) from .inl (Vb hd)),?_⟩
  unfold wrB
  by_cases hm:i∈ws
  ·rw[Yp hm,if_pos hm]
   exact⟨rfl,rfl⟩
  ·rw[Yr hm,if_neg hm]
   exact⟨rfl,rfl⟩
 ·rintro v H' ⟨rfl,rfl⟩
  refine q _ fun z o e=>?_
  show mH H (fU H [c]) [c] z=some o
  by_cases hz:z∈ [c]
  ·rw[nO hz];exact e
  ·rw[cW hz,bJ hz];exact e
def MvP (P:Addr)(o:Own)(H:Hp)(o':Own)(H':Hp):Prop:=Mv (Or2 o fun x=>x=P) H (Or2 o' fun x=>x=P) H'
def lX (P:Addr)(o:Own)(H:Hp):Prop:=¬ o P/\∃ps,H P=some (.tbl ps)/\TriplesOk ps.toList/\(codeAmong b0F ps.toList=none\/∃c',codeAmong b0F ps.toList=some (.ref c')/\H c'=some (dW c' iqT)/\¬ o c')
def lX.tabP (h:lX P o H):mJ P b0F iqT H:=by
 obtain⟨_,ps,h1,h2,h3⟩:=h
 exact⟨ps,h1,h2,h3.imp id fun ⟨c',a,b,_⟩=>⟨c',a,b⟩⟩
def lX.same (h:lX P o H)(g:Same H H'):lX P o H':=by
 obtain⟨n,ps,h1,h2,h3⟩:=h
 exact⟨n,ps,g _ _ h1,h2,h3.imp id fun ⟨c',a,b,c⟩=>⟨c',a,g _ _ b,c⟩⟩
def lX.mv2 (h:lX P (Or2 o ox) H)(m:Mv o H o' H'):lX P (Or2 o' ox) H':=by
 obtain⟨n,ps,h1,h2,h3⟩:=h
 refine⟨fun z=>?_,ps,m.1 _ _ h1 (.inl fun z=>n (.inl z)),h2,h3.imp id fun ⟨c',a,b,c⟩=>⟨c',a,m.1 _ _ b (.inl fun z=>c (.inl z)),fun z=>?_⟩⟩
 ·rcases z with z | z
  ·rcases m.2 _ z with y | y
   ·exact n (.inl y)
   ·rw[h1]at y;cases y
  ·exact n (.inr z)
 ·rcases z with z | z
  ·rcases m.2 _ z with y | y
   ·exact c (.inl y)
   ·rw[b]at y;cases y
  ·exact c (.inr z)
def lX.own (h:lX P o H)(g:∀x,o2 x->o x):lX P o2 H:=by
 obtain⟨n,ps,h1,h2,h3⟩:=h
 exact⟨fun z=>n (g _ z),ps,h1,h2,h3.imp id fun ⟨c',a,b,c⟩=>⟨c',a,b,fun z=>c (g _ z)⟩⟩
def b2S {qs:Array Value}:¬ isT (.tbl qs):=fun ⟨_,z⟩=>by cases z
def wrL (ws:List Int)(n:Nat)(b:Int):List Int:=(List.range n).map fun i=>wrB ws ((i:Nat):Int) b
def a4Y (C:Addr)(A:Cs)(NP P:Addr):Sp:=fun vs H Q E=>∃r R o w wl ws ox,vs= [.ref r,.ref wl]/\H wl=some (.lst (ws.map V.int))/\ws.length<=500/\bY C A H r R o w/\R.ps≠ []/\SzR R/\lX P (Or2 o ox) H/\(∀x,ox x->H x≠none)/\
 ((∀x∈ws,0<=x/\x<((R.ps.length:Nat):Int))->∀b H' o',lJ (R.ps.map bQ) b->bK C A H' r (kJ R (wrL ws R.ps.length b) b) o'->lX P (Or2 o' ox) H'->MvP P o H o' H'->Q (.int b) H')/\
 (¬ (∀x∈ws,0<=x/\x<((R.ps.length:Nat):Int))->∀H',Same H H'->False)
def pW {ws:List Int}{i:Int}(h:b=0\/b=1):wrB ws i b=0\/wrB ws i b=1:=by
 unfold wrB
 by_cases z:i∈ws
 ·rw[if_pos z];omega
 ·rw[if_neg z];exact h
def bY.says {R:RS}{w:Rw}(h:bY C A H r R o w)(hb:b∈R.ps.map bQ):b=0\/b=1:=by
 obtain⟨S,hS,rfl⟩:=YD.mp hb
 obtain⟨i,hi,e⟩:=YT hS
 obtain⟨p,oi,_,hP⟩:=h.at (i:=i) (S:=S) (by rw[Yb hi,e])
 exact qG hP.wf
def tW:Sp:=fun vs H Q _=>∃a b c,vs= [.int a,.int b,.int c]/\Q (.int c) H
def b7C (a:Addr):Addr->List V->Hp->VK->Prop:=fun f vs H Q=>f=a/\∃x y z:Int,vs= [.int x,.int y,.int z]/\Q (.int z) H
def a2L {P:Program}{w:World}{base:Heap}{ps:List Str}(G:fV P w K mg base CX0 k a d ps tW)(B:Binds K d ps []):tQ P w K mg base k (b7C a):=by
 rintro f A outer s H us vs Q hr e0 r ⟨rfl,x,y,z,rfl,q⟩
 have hsp:tW [.int x,.int y,.int z] H Q E0:=⟨x,y,z,rfl,q⟩
 have KX:K.In s.heap:=e0.mod.kin.keeps fun b o e=>(e0.bs b o e).1
 have hb:=B s us KX (by rw[YQ,<-r.length];exact G.len _ _ _ _ hsp)
 rw[YQ]at hb
 exact G.run A outer s H ⟨us, []⟩ us _ Q E0 hr e0 hb r hsp
def iH (R:RS):Int:=if (0:Int)∈R.ps.map bQ then 0 else 1
def a3E {ns:List Int}(h:∀z∈ns,z=0\/z=1)(l:lJ ns b):b=if (0:Int)∈ns then 0 else 1:=by
 by_cases c:(0:Int)∈ns
 ·rw[if_pos c]
  have:=l.2 0 c
  rcases h b l.1 with z | z <;> omega
 ·rw[if_neg c]
  rcases h b l.1 with z | z
  ·exact absurd (z▸l.1) c
  ·exact z
def bY.says54 {R:RS}{w:Rw}(h:bY C A H r R o w)(hb:b∈R.ps.map bQ):b=0\/b=1:=by
 obtain⟨S,hS,rfl⟩:=YD.mp hb
 obtain⟨i,hi,e⟩:=YT hS
 obtain⟨p,oi,_,hP⟩:=h.at (i:=i) (S:=S) (by rw[Yb hi,e])
 exact qG hP.wf
def sI (K:W.Frag)(C:Addr)(A:Cs)(spc:Addr->List V->Hp->VK->Prop):Sp:=fun vs H Q _=>∃r R o w f,∃(hs:Int->Nat->Int)(ox:Own)(Pv:Int->Nat->Hp->Prop),vs= [.ref r,.ref f]/\bY C A H r R o w/\R.ps≠ []/\SzR R/\(∀x,ox x->¬ o x/\H x≠none)/\(∀b,lJ (R.ps.map bQ) b->(∀H1,Same H H1->Pv b 0 H1)/\(∀i,i<R.ps.length->∀H1,Pv b i H1->FnE K H1 f/\∀Q1:VK,(∀H2,Pv b (i+1) H2->Mv ox H1 ox H2->Q1 (.int (hs b i)) H2)->spc f [.int ((i:Nat):Int),.int ((R.bo.length:Nat):Int),.int b] H1 Q1)/\(∀i,hs b i=0\/hs b i=1)/\
 ∀H1 H2 H' o',Pv b R.ps.length H1->Mv ox H ox H1->Same H1 H2->bK C A H' r (kJ R ((List.range R.ps.length).map (hs b)) b) o'->Mv o H2 o' H'->Q (.int b) H')
def a2Y {spc:Addr->List V->Hp->VK->Prop}{Q:VK}{E:XK}(h:a5B K C A spc vs H Q E):sI K C A spc vs H Q E:=by
 obtain⟨r,R,o,w,f,hs,rfl,hR,ne,sz,q⟩:=h
 refine⟨r,R,o,w,f,hs,fun _=>False,fun _ _ H1=>Same H H1,rfl,hR,ne,sz,fun x hx=>hx.elim,fun b hb=>?_⟩
 obtain⟨h1,h2,h3⟩:=q b hb
 exact⟨fun H1 g=>g,fun i hi H1 g=>⟨(h1 i hi H1 g).1,fun Q1 k=>(h1 i hi H1 g).2 Q1 fun H2 g2=>k H2 (g.trans g2) (Mv.of g2)⟩,h2,fun H1 H2 H' o' g m g2 hR' m'=>h3 H' o' hR' ((Mv.of (g.trans g2)).trans m')⟩
def jN (R:RS)(hs:Nat->Nat->Int):Nat->RS
 |0=>R
 |t+1=>kJ (jN R hs t) ((List.range R.ps.length).map (hs t)) (iH (jN R hs t))
theorem vY (R:RS)(hs:Nat->Nat->Int):∀n:Nat,(jN R hs n).ps.length=R.ps.length
 |0=>rfl
 |n+1=>((jF (jN R hs n) _ _).2.2.1).trans (vY R hs n)
theorem a0I (R:RS)(hs:Nat->Nat->Int):∀n:Nat,(jN R hs n).bo.length=R.bo.length+n
 |0=>rfl
 | n+1=>by
  show ((jN R hs n).bo++[_]).length=_
  rw[Yc,a0I R hs n]
  rfl
def Mv.left (m:Mv o H o' H'):Mv (Or2 o ox) H (Or2 o' ox) H':=⟨m.1.le fun x h=> .inl h,fun x hx=>hx.elim (fun z=>(m.2 x z).imp .inl id) fun z=> .inl (.inr z)⟩
def Mv.right (m:Mv ox H ox H'):Mv (Or2 o ox) H (Or2 o ox) H':=⟨m.1.le fun x h=> .inr h,fun x hx=> .inl hx⟩
structure a8U (K:W.Frag)(spc:Addr->List V->Hp->VK->Prop)(f:Addr)(R:RS)(n:Nat)(hs:Nat->Nat->Int)(ox:Own)(PS:Nat->Hp->Own->Prop)(Pv:Nat->Nat->Hp->Own->Prop):Prop where
 out:∀t H o,PS t H o->∀x,ox x->¬ o x/\H x≠none
 beg:∀t H o H1,PS t H o->Same H H1->Pv t 0 H1 o
 ask:∀t,t<n->∀i,i<R.ps.length->∀H o,Pv t i H o->FnE K H f/\∀Q1:VK,(∀H2,Pv t (i+1) H2 o->Mv ox H ox H2->Q1 (.int (hs t i)) H2)->spc f [.int ((i:Nat):Int),.int ((R.bo.length+t:Nat):Int),.int (iH (jN R hs t))] H Q1
 bit:∀t i,hs t i=0\/hs t i=1
 nxt:∀t H1 H2 H o o',Pv t R.ps.length H1 o->Same H1 H2->Mv o H2 o' H->PS (t+1) H o'
def a4Z (K:W.Frag)(C:Addr)(A:Cs)(spc:Addr->List V->Hp->VK->Prop)(aw:Addr):Sp:=fun vs H Q _=>∃(r:Addr)(R:RS)(o:Own)(w:Rw)(n:Nat)(fv:V)(f:Addr)(hs:Nat->Nat->Int)(ox:Own)(PS:Nat->Hp->Own->Prop)(Pv:Nat->Nat->Hp->Own->Prop),vs= [.ref r,.int ((n:Nat):Int),fv]/\((fv= .non/\f=aw)\/fv= .ref f)/\bY C A H r R o w/\R.ps≠ []/\n<=500/\(∀k,k<=n->SzR (jN R hs k))/\a8U K spc f R n hs ox PS Pv/\(∀H1,Same H H1->PS 0 H1 o)/\
 ∀l H1 o',bK C A H1 r (jN R hs n) o'->PS n H1 o'->Mv (Or2 o ox) H (Or2 o' ox) H1->H1 l=none->Q (.ref l) (upd H1 l (.lst (((List.range n).map fun k=>iH (jN R hs k)).map V.int)))
abbrev sH:Stmt:=(cZ Zi6).getD 2 (.Pass ⟨0,0,0,0⟩)
def b7O (s:Stmt):Pos:=match s with
 |.FunctionDef _ _ _ _ _ _ _ _ _ p=>p
 |_=>⟨0,0,0,0⟩
abbrev c0F:Pos:=b7O sH
abbrev iqH:Str:=("ear":Str)++".<locals>."++"heard"
def clH {L c:Addr}(h:(PyProof.Rows.envOfC "ear" (aR Zi6) L f cd).cells.lookup (Str.ofString "kept")=some c):closureFor (aR sH) (PyProof.Rows.envOfC "ear" (aR Zi6) L f cd)=pure [(Str.ofString "kept",c)]:=by
 have e:(PyProof.Rows.envOfC "ear" (aR Zi6) L f cd).cells.lookup (Str.ofString "kept")=some (L+1):=rfl
 rw[e]at h
 cases h
 rfl
def scH:lW ["post","turn","bit","kept"] ["post","turn","bit"] ["kept"] (aR sH):=⟨rfl,rfl,rfl,by decide +kernel,rfl,by decide +kernel,by decide +kernel,by decide +kernel⟩
inductive PrT (H:Hp):List Addr->List (Int×Int)->Prop
 |nil:PrT H [] []
 |cons {q:Addr} {p:Int×Int} {qs:List Addr} {ps:List (Int×Int)}:H q=some (.tup [.int p.1,.int p.2])->PrT H qs ps->PrT H (q::qs) (p::ps)
theorem PrT.prs:∀{qs:List Addr}{ps:List (Int×Int)},PrT H qs ps->xR K H qs ps
 |_,_,.nil=> .nil
 |_,_,.cons h t=> .cons (Vc h) (PrT.prs t)
theorem PrT.mono (g:∀b xs,H b=some (.tup xs)->H' b=some (.tup xs)):∀{qs:List Addr}{ps:List (Int×Int)},PrT H qs ps->PrT H' qs ps
 |_,_,.nil=> .nil
 |_,_,.cons h t=> .cons (g _ _ h) (PrT.mono g t)
def PrT.same {qs:List Addr}(h:PrT H qs ps)(g:Same H H'):PrT H' qs ps:=h.mono fun b _ e=>g b _ e
def PrT.put {qs:List Addr}{l:Addr}{xs:List V}(h:PrT H qs ps)(e:H l=some (.lst xs)):PrT (upd H l (.lst ys)) qs ps:=h.mono fun b zs q=>by
 rw[aH (fun z=>by rw[z,e]at q;cases q)];exact q
theorem PrT.len:∀{qs:List Addr}{ps:List (Int×Int)},PrT H qs ps->qs.length=ps.length
 |_,_,.nil=>rfl
 |_,_,.cons _ t=>by rw[YU,YU,PrT.len t]
theorem PrT.get:∀{qs:List Addr}{ps:List (Int×Int)},PrT H qs ps->∀{i:Nat}{q:Addr},qs[i]? =some q->∃p,ps[i]? =some p/\H q=some (.tup [.int p.1,.int p.2])
 |_,_,.nil,i,q,h=>by simp at h
 | _,_,.cons (p:=p) h t,0,q,e=>by
  cases (Yo e)
  exact⟨p,rfl,h⟩
 |_,_,.cons h t,i+1,q,e=>PrT.get t e
theorem PrT.append:∀{qs:List Addr}{ps:List (Int×Int)}{qs':List Addr}{ps':List (Int×Int)},PrT H qs ps->PrT H qs' ps'->PrT H (qs++qs') (ps++ps')
 |_,_,_,_,.nil,g=>g
 |_,_,_,_,.cons h t,g=> .cons h (PrT.append t g)
def kyP (p:Int×Int):List Key:=[.inl p.1,.inl p.2]
def kvP (ps:List (Int×Int)):List (List Key×V):=ps.foldl (fun kvs p=>putK kvs (kyP p) (.bl true)) []
def a7L (ps:List (Int×Int))(p:Int×Int):kvP (ps++[p])=putK (kvP ps) (kyP p) (.bl true):=by unfold kvP;rw[Xh];rfl
def a7M (ps:List (Int×Int)):∀kvs:List (List Key×V),(ps.foldl (fun kvs p=>putK kvs (kyP p) (.bl true)) kvs).length<=kvs.length+ps.length/\∀p:Int×Int,(gZ (ps.foldl (fun kvs p=>putK kvs (kyP p) (.bl true)) kvs) (kyP p)).isSome=(decide (p∈ps) || (gZ kvs (kyP p)).isSome):=by
 induction ps with
 |nil=>intro kvs;exact⟨Yf _,fun p=>by simp⟩
 | cons q r ih=>
  intro kvs
  obtain⟨h1,h2⟩:=ih (putK kvs (kyP q) (.bl true))
  rw[Xp]
  refine⟨?_,fun p=>?_⟩
  ·have:=lB kvs (kyP q) (.bl true)
   rw[YU]
   omega
  ·rw [h2 p,vO]
   by_cases e:p=q
   ·subst e
    rw[if_pos rfl]
    simp
   ·rw [if_neg fun z=>e (by
     unfold kyP at z
     obtain⟨p1,p2⟩:=p
     obtain⟨q1,q2⟩:=q
     simp only[List.cons.injEq,Sum.inl.injEq,and_true]at z
     rw[z.1,z.2])]
    have:decide (p∈q::r)=decide (p∈r):=by
     rw[XB,XH,XH,Yt]
     exact⟨fun z=>z.resolve_left e,.inr⟩
    rw[this]
def b1A (ps:List (Int×Int)):(kvP ps).length<=ps.length:=by have:=(a7M ps []).1;rw[List.length_nil]at this;unfold kvP;omega
def b0Z (ps:List (Int×Int))(p:Int×Int):(gZ (kvP ps) (kyP p)).isSome=decide (p∈ps):=by
 have:=(a7M ps []).2 p
 unfold kvP
 rw[this,a4G]
 simp
def b2Z (H:Hp)(g:Addr)(ps:List (Int×Int)):Prop:=∃c c' d,H g=some (FnO g sH iqH [("kept",c)] c')/\H c'=some (dW c' iqH)/\H c=some (cI c (.ref d))/\H d=some (.dT (kvP ps))
def b7F:Addr->List V->Hp->VK->Prop:=fun g vs H Q=>∃(a b x:Int)(ps:List (Int×Int)),vs= [.int a,.int b,.int x]/\b2Z H g ps/\∀H',Same H H'->Q (.int (if (a,b)∈ps then 1-x else x)) H'
def yR {P:Program}{w:World}{base:Heap}:tQ P w K mg base 2 b7F:=by
 rintro f A outer s H us vs Q hr e0 r ⟨a,b,x,ps,rfl,⟨c,c',d,h1,h2,h3,h4⟩,q⟩
 refine a8K (k:=1) (N:=["post","turn","bit","kept"]) (ws:=[.ref d]) scH hr e0 h1 h2 ⟨rfl,by simp,.cons h3 .nil⟩ rfl r (fun doc pm ctv=> .of_eq ?_) fun hr'=>⟨_,(aF (aN (cD (dC (b4G (b4L (a0Y hr') (bN (aA (dv 0) (aA (dv 1) aC))) (dv 3)) rfl) (aZ lZ aG (dv 2)) (dv 2))))),?_⟩
 ·rcases r with _ | ⟨r1,r⟩
  rcases r with _ | ⟨r2,r⟩
  rcases r with _ | ⟨r3,r⟩
  cases r
  rfl
 have dc:d≠c:=fun z=>by rw[z,h3]at h4;cases h4
 have hd:fU H [c] d=some (.dT (kvP ps)):=by rw[bJ (by simpa using dc)];exact h4
 refine⟨fun v H'=>v= .int (if (a,b)∈ps then 1-x else x)/\Same (fU H [c]) H',?_,?_⟩
 ·refine⟨aL rfl,fun t ht=>?_⟩
  have g:=aK ht (.tup [.int a,.int b])
  have et:=aB (H:=fU H [c]) (a:=t) (o:= .tup [.int a,.int b])
  have hd':=g _ _ hd
  refine⟨d,_,rfl,.inr ⟨kvP ps,kyP (a,b),t,.inl hd',rfl,et,rfl⟩,_,rfl,?_⟩
  rw[b0Z]
  by_cases hm:(a,b)∈ps
  ·rw[Yp hm,if_pos hm]
   exact c0P ⟨rfl,g⟩
  ·rw[Yr hm,if_neg hm]
   exact zG ⟨rfl,g⟩
 ·rintro v H' ⟨rfl,g⟩
  refine q _ fun z o e=>?_
  show mH H H' [c] z=some o
  by_cases hz:z∈ [c]
  ·rw[nO hz];exact e
  ·rw[cW hz];exact g z o (by rw[bJ hz];exact e)
abbrev sN:Stmt:=(cZ ZfU).getD 2 (.Pass ⟨0,0,0,0⟩)
abbrev iqN:Str:=("_law_ran":Str)++".<locals>."++"_law_hearing"
def scN:lW ["_law_post","_law_turn","_law_bit","_law_pairs","_law_asked"] ["_law_post","_law_turn","_law_bit"] ["_law_pairs","_law_asked"] (aR sN):=⟨rfl,rfl,rfl,by decide +kernel,rfl,by decide +kernel,by decide +kernel,by decide +kernel⟩
def c0S:∀y∈ [("_law_pairs":Str),"_law_asked"],(aR ZfU).names.lookup y=some .cell:=by decide +kernel
inductive gY (H:Hp):List V->List (Int×Int×Int)->Prop
 |nil:gY H [] []
 |cons {t:Addr} {p:Int×Int×Int} {vs:List V} {ps:List (Int×Int×Int)}:H t=some (.tup [.int p.1,.int p.2.1,.int p.2.2])->gY H vs ps->gY H (.ref t::vs) (p::ps)
theorem gY.imp (g:∀x xs,H x=some (.tup xs)->H' x=some (.tup xs)):∀{vs:List V}{ps:List (Int×Int×Int)},gY H vs ps->gY H' vs ps
 |_,_,.nil=> .nil
 |_,_,.cons a r=> .cons (g _ _ a) (r.imp g)
theorem gY.snoc {p:Int×Int×Int}(a:H t=some (.tup [.int p.1,.int p.2.1,.int p.2.2])):∀{vs:List V}{ps:List (Int×Int×Int)},gY H vs ps->gY H (vs++[.ref t]) (ps++[p])
 |_,_,.nil=> .cons a .nil
 |_,_,.cons b r=> .cons b (r.snoc a)
theorem gY.len:∀{vs:List V}{ps:List (Int×Int×Int)},gY H vs ps->vs.length=ps.length
 |_,_,.nil=>rfl
 |_,_,.cons _ r=>YJ (·+1) r.len
def b2Y (H:Hp)(g al:Addr)(ps:List (Int×Int)):Prop:=∃c1 c2 c' pl qs,c1≠c2/\H g=some (FnO g sN iqN [("_law_pairs",c2),("_law_asked",c1)] c')/\H c'=some (dW c' iqN)/\H c1=some (cI c1 (.ref al))/\H c2=some (cI c2 (.ref pl))/\H pl=some (.lst (qs.map V.ref))/\PrT H qs ps/\pl≠al
def a9K:Sp:=fun vs H Q _=>∃(a:Addr)(qs:List Addr)(ps:List (Int×Int)),vs= [.ref a]/\H a=some (.lst (qs.map V.ref))/\PrT H qs ps/\ps.length<=200/\H 1073=some (.tbl #[])/\∀g c c' d H',(∀b o,b≠1073->H b=some o->H' b=some o)->H g=none->H c=none->H c'=none->H d=none->H' g=some (FnO g sH iqH [("kept",c)] c')->H' c'=some (dW c' iqH)->H' c=some (cI c (.ref d))->H' d=some (.dT (kvP ps))->Q (.ref g) H'
def b6S (cs:List Addr)(t:TA):TE:=fun σ H Q=>t σ H fun ws H2=>ws.length<=sizeLine/\∀p,H2 p=none->p∉cs->Q (.ref p) (upd H2 p (.tup ws))
def b0K {X:Cx}{es:List Expr}{t:TA}{x1:Nat}{pos:Pos}{cs:List Addr}(hs:PA X es t)(hc:∀c∈cs,∃y,X.env.cells.lookup y=some c):PE X (.Tuple es x1 pos) (b6S cs t):=by
 intro pins s0 σ H Q J hq
 refine wpAny_Tuple_spliced (thn (hs pos pins s0 σ H _ J hq) fun vs s2 hz=>?_)
 obtain⟨ws,H2,J2,rv,lt,k⟩:=hz
 have hl:vs.length<=sizeLine:=rv.length▸lt
 refine⟨hl,.ref s2.heap.objs.size,upd H2 s2.heap.objs.size (.tup ws),J2.laid (t':=s2.toks) (fun a o ha=>Yg _ ha) (Yf _) ?_,rfl,k _ (J2.hok.fresh (Yf _)) fun hm=>?_⟩
 ·exact⟨lt,vs,rv,⟨_,Yu _ rfl,rfl,_,rfl⟩⟩
 ·obtain⟨y,hy⟩:=hc _ hm
  obtain⟨v,o,ho,_⟩:=J2.cell y _ hy
  exact YW _ (Ym ho)
def b7E:Addr->List V->Hp->VK->Prop:=fun g vs H Q=>∃(a b x:Int)(al:Addr)(as:List V)(ps:List (Int×Int)),vs= [.int a,.int b,.int x]/\(x=0\/x=1)/\b2Y H g al ps/\H al=some (.lst as)/\as.length<=900/\
 ∀t H',H t=none->(∀y u,y≠al->H y=some u->H' y=some u)->H' t=some (.tup [.int a,.int b,.int x])->H' al=some (.lst (as++[.ref t]))->Q (.int (if (a,b)∈ps then 1-x else x)) H'
def b2F {x:Int}(h:x=0\/x=1)(b:Bool):Builtin.bitXor x (if b then 1 else 0)=if b=true then 1-x else x:=by
 rcases h with rfl | rfl <;> cases b <;> rfl
def a5S {P:Program}{w:World}{base:Heap}(Zdb:mg "int"=none):tQ P w K mg base 2 b7E:=by
 rintro f A outer s H us vs Q hr e0 r ⟨a,b,x,al,as,ps,rfl,hx,⟨c1,c2,c',pl,qs,n12,h1,h2,h3,h4,h5,h6,hne⟩,h7,hl,q⟩
 refine a8K (k:=1) (N:=["_law_post","_law_turn","_law_bit","_law_pairs","_law_asked"]) (ws:=[.ref pl,.ref al]) scN hr e0 h1 h2 ⟨rfl,by simpa using Va n12,.cons h4 (.cons h3 .nil)⟩ rfl r (fun doc pm ctv=> .of_eq ?_) fun hr'=>⟨_,(aD (aW (bR (dv 4) (aA (b0K (cs:=[c2,c1]) (aA (dv 0) (aA (dv 1) (aA (dv 2) aC))) (fun c hc=>?_)) aC))) (aF (aN (aZ b1Z (dv 2) (cH b2D rfl Zdb uX (aA (dG (b6N hr'.units1) (bN (aA (dv 0) (aA (dv 1) aC))) (dv 3) rfl) aC)))))),?_⟩
 ·rcases r with _ | ⟨r1,r⟩
  rcases r with _ | ⟨r2,r⟩
  rcases r with _ | ⟨r3,r⟩
  cases r
  rfl
 ·rcases Yt.mp hc with rfl | hc
  ·exact⟨"_law_pairs",rfl⟩
  ·cases Yj.mp hc
   exact⟨"_law_asked",rfl⟩
 have o1:∀{y u},H y=some u->(∀φ,u≠ .ext φ)->fU H [c2,c1] y=some u:=fun {y u} e n=>by
  rw[bJ]
  ·exact e
  ·intro z
   rcases Yt.mp z with z | z
   ·rw[z,h4]at e;exact n _ (Yo e).symm
   ·rw[Yj.mp z,h3]at e;exact n _ (Yo e).symm
 have hin:∀{y},y∈ [c2,c1]->fU H [c2,c1] y=none:=fun {y} z=>jL z
 have hout:∀{y},y∉ [c2,c1]->fU H [c2,c1] y=H y:=fun {y} z=>bJ z
 show b6T _ _ _ _ (fU H [c2,c1])
 generalize fU H [c2,c1]=G0 at o1 hin hout
 have e7:=o1 h7 (fun φ z=>by cases z)
 have e5:=o1 h5 (fun φ z=>by cases z)
 have e6:PrT G0 qs ps:=h6.mono fun y xs e=>o1 e (fun φ z=>by cases z)
 refine⟨⟨_,Vb e7⟩,aL rfl,fun t ht tn=>?_⟩
 have g0:=aK ht (.tup [.int a,.int b,.int x])
 have et:=aB (H:=G0) (a:=t) (o:= .tup [.int a,.int b,.int x])
 have ta:t≠al:=fun z=>by rw[z]at ht;cases ht.symm.trans e7
 have f7:=g0 _ _ e7
 have f5:=g0 _ _ e5
 have f6:=e6.same g0
 refine⟨_,f7,bI (by omega),?_⟩
 have f6':=f6.put (ys:=as++[.ref t]) f7
 have f5':upd (upd G0 t (.tup [.int a,.int b,.int x])) al (.lst (as++[.ref t])) pl=some (.lst (qs.map V.ref)):=by rw[aH hne];exact f5
 have ft:upd (upd G0 t (.tup [.int a,.int b,.int x])) al (.lst (as++[.ref t])) t=some (.tup [.int a,.int b,.int x]):=by rw[aH ta];exact et
 have fa:upd (upd G0 t (.tup [.int a,.int b,.int x])) al (.lst (as++[.ref t])) al=some (.lst (as++[.ref t])):=aB
 have fk:∀y u,y≠al->G0 y=some u->upd (upd G0 t (.tup [.int a,.int b,.int x])) al (.lst (as++[.ref t])) y=some u:=fun y u n e=>by rw[aH n];exact g0 _ _ e
 generalize upd (upd G0 t (.tup [.int a,.int b,.int x])) al (.lst (as++[.ref t]))=H1 at f6' f5' ft fa fk
 refine⟨aL rfl,fun t2 ht2=>?_⟩
 have g2:=aK ht2 (.tup [.int a,.int b])
 have et2:=aB (H:=H1) (a:=t2) (o:= .tup [.int a,.int b])
 refine⟨(a,b),ps,qs,Vc et2,Vb (g2 _ _ f5'),(f6'.same g2).prs,?_⟩
 show Q (.int (Builtin.bitXor x (if id (decide ((a,b)∈ps))=true then 1 else 0))) _
 rw[b2F hx (id (decide ((a,b)∈ps)))]
 have ei:(if id (decide ((a,b)∈ps))=true then 1-x else x)=if (a,b)∈ps then 1-x else x:=by by_cases c:(a,b)∈ps <;> simp[c]
 rw[ei]
 have Hk:∀y u,upd H1 t2 (.tup [.int a,.int b]) y=some u->y∉ [c2,c1]->mH H (upd H1 t2 (.tup [.int a,.int b])) [c2,c1] y=some u:=fun y u e n=>by rw[cW n];exact e
 have an:al∉ [c2,c1]:=fun z=>by rw[hin z]at e7;cases e7
 refine q t _ ?_ (fun y u n e=>?_) (Hk _ _ (g2 _ _ ft) tn) (Hk _ _ (g2 _ _ fa) an)
 ·rw[hout tn]at ht
  exact ht
 ·by_cases hz:y∈ [c2,c1]
  ·show mH H (upd H1 t2 (.tup [.int a,.int b])) [c2,c1] y=some u
   rw[nO hz];exact e
  ·exact Hk _ _ (g2 _ _ (fk _ _ n (by rw[hout hz];exact e))) hz
def qF (a:Addr):Addr->List V->Hp->VK->Prop:=fun f vs H Q=>b7D f vs H Q\/b7F f vs H Q\/b7C a f vs H Q\/b7E f vs H Q
def b4A {P:Program}{w:World}{base:Heap}{ps:List Str}(Zdb:mg "int"=none)(G:fV P w K mg base CX0 2 a d ps tW)(B:Binds K d ps []):tQ P w K mg base 2 (qF a):=by
 rintro f A outer s H us vs Q hr e0 r (h | h | h | h)
 ·exact a5T f A outer s H us vs Q hr e0 r h
 ·exact yR f A outer s H us vs Q hr e0 r h
 ·exact a2L G B f A outer s H us vs Q hr e0 r h
 ·exact a5S Zdb f A outer s H us vs Q hr e0 r h
theorem Fun.okC {P:Program}{w:World}{K:W.Frag}{mg:Str->Option Value}{base:Heap}{x qual:Str}{st:Stmt}{f c0:Addr}{fd:FuncData}{N ps:List Str}{k:Nat}{sp:Sp}(F:Fun K x qual st f fd)(hcode:fd.code= .ref c0)(S:fY N ps (aR st))(len:∀vs H Q E,sp vs H Q E->vs.length=ps.length)
  (hbody:∀(A:Around)(outer:List Env)(s:Shared)(H:Hp)(vs:List V)(Q:VK)(E:XK),cX k (A.deeper (PyProof.Rows.envOfC qual (aR st) s.heap.objs.size f (.ref c0)))->sp vs H Q E->
   ∃t,PSs (mG CX0 P w K mg base N qual (aR st) f (.ref c0) A outer s H E).nox (cZ st) t/\t { nx:=fun _ H'=>Q .non H',rt:=Q } (start N vs) H):fV P w K mg base CX0 (k+1) f fd ps sp:=by
 obtain⟨oc,od,kV,doc,pm,an,cdv,ct,osl,rfl,lk,hcd⟩:=F.ex
 have hcv:cdv= .ref c0:=hcode
 subst hcv
 refine b2W lk hcd S len fun A outer s H vs Q E hr hsp=>?_
 obtain⟨t,h,q⟩:=hbody A outer s H vs Q E hr hsp
 exact⟨t,h.nox,q⟩
def oE (C:Addr)(A:Cs)(NP:Addr)(g:PS->Hp->VK->Prop):Sp:=fun vs H Q E=>∃r R o w k,vs= [.ref r,.int k]/\bY C A H r R o w/\(∀(i:Nat) S,k=((i:Nat):Int)->R.ps[i]? =some S->g S H Q)/\(¬ (0<=k/\k<((R.ps.length:Nat):Int))->∀H',Same H H'->False)
def a5Q (C:Addr)(A:Cs)(NP:Addr)(g:RS->List (List Int)):Sp:=fun vs H Q E=>∃r R o w k,vs= [.ref r,.int k]/\bY C A H r R o w/\(∀(i:Nat) xs,k=((i:Nat):Int)->(g R)[i]? =some xs->∀l,H l=none->Q (.ref l) (upd H l (.lst (xs.map V.int))))/\(¬ (0<=k/\k<((R.ps.length:Nat):Int))->∀H',Same H H'->False)
def b1H:PS->Hp->VK->Prop:=fun S H Q=>∀t H',H t=none->Same H H'->H' t=some (.tup [.str S.now.shown.1,.int ((S.now.shown.2:Nat):Int)])->Q (.ref t) H'
def gN:PS->Hp->VK->Prop:=fun S H Q=>Q (.int S.tot) H
def gB (lim:Int):PS->Hp->VK->Prop:=fun S H Q=>Q (.bl (decide (lim<=S.tot))) H
def b5N:PS->Hp->VK->Prop:=fun S H Q=>S.wt.length<=900/\∀l xs H',H l=none->Same H H'->H' l=some (.lst xs)->eQ H H' xs S.wt->Q (.ref l) H'
def c0U:PS->Hp->VK->Prop:=fun S H Q=>S.up.length<=900/\∀l xs H',H l=none->Same H H'->H' l=some (.lst xs)->eQ H H' xs S.up->Q (.ref l) H'
abbrev FB (P:Program)(w:World)(K:W.Frag)(mg:Str->Option Value)(base:Heap)(CX:CXT)(k:Nat)(nm:Str)(a:Addr)(d:FuncData)(ps:List Str)(sp:Sp):Prop:=fV P w K mg base CX k a d ps sp/\Binds K d ps []/\W.keepIn K (.ref a)=true/\mg nm=some (.ref a)
abbrev MB (P:Program)(w:World)(K:W.Frag)(mg:Str->Option Value)(base:Heap)(CX:CXT)(k:Nat)(a:Addr)(d:FuncData)(ps:List Str)(sp:Sp):Prop:=fV P w K mg base CX k a d ps sp/\Binds K d ps []
abbrev FL (K:W.Frag)(f:Addr)(n q:Str)(st:Stmt)(oc:Value)(od:Option Addr)(kV dc pm:Value)(an:Option Addr)(cd ct:Value)(sl:Array (Option Value)):Prop:=K.lookup f=some ⟨oc,od,.func (W.fnOf n q (iD st) (cZ st) (aR st) .none kV dc pm an cd ct),sl⟩
structure GFm (K:W.Frag)(mg:Str->Option Value)(nm:Str)(st:Stmt)(f:Addr)(d:FuncData):Prop where
 F:Fun K nm nm st f d
 m:mg nm=some (.ref f)
def GF (K:W.Frag)(mg:Str->Option Value)(nm:Str)(st:Stmt)(f:Addr):Prop:=∃d,GFm K mg nm st f d
def MF (K:W.Frag)(C:Addr)(x q:Str)(st:Stmt)(f:Addr):Prop:=W.findIn K (.ref C) x=some (some (.ref f))/\∃d,Fun K x q st f d
def gf_mk {nm:Str}{st:Stmt}(X:K.In h)(G:h.Ns mainGlobals mg)(a:W.nsIn K mainGlobals nm=some (some (.ref f)))(l:FL K f nm nm st oc od kV dc pm an cd ct sl)(c:W.codeIn K cd nm=true)(k:W.keepIn K (.ref f)=true):GF K mg nm st f:=⟨_,uO l c k,W.mg_of X G a⟩
def GFc (K:W.Frag)(mg:Str->Option Value)(nm:Str)(st:Stmt)(f c0:Addr):Prop:=∃d,GFm K mg nm st f d/\d.code= .ref c0
def gfc_mk {nm:Str}{st:Stmt}{c0:Addr}(X:K.In h)(G:h.Ns mainGlobals mg)(a:W.nsIn K mainGlobals nm=some (some (.ref f)))(l:FL K f nm nm st oc od kV dc pm an (.ref c0) ct sl)(c:W.codeIn K (.ref c0) nm=true)(k:W.keepIn K (.ref f)=true):GFc K mg nm st f c0:=⟨_,⟨uO l c k,W.mg_of X G a⟩,rfl⟩
def mf_mk {x:Str}{st:Stmt}(a:W.findIn K (.ref C) x=some (some (.ref f)))(l:FL K f x q st oc od kV dc pm an cd ct sl)(c:W.codeIn K cd q=true)(k:W.keepIn K (.ref f)=true):MF K C x q st f:=⟨a,_,uO l c k⟩
def MFc (K:W.Frag)(C:Addr)(x q:Str)(st:Stmt)(f c0:Addr):Prop:=W.findIn K (.ref C) x=some (some (.ref f))/\∃d,Fun K x q st f d/\d.code= .ref c0
def mfc_mk {c0:Addr}{x:Str}{st:Stmt}(a:W.findIn K (.ref C) x=some (some (.ref f)))(l:FL K f x q st oc od kV dc pm an (.ref c0) ct sl)(c:W.codeIn K (.ref c0) q=true)(k:W.keepIn K (.ref f)=true):MFc K C x q st f c0:=⟨a,_,uO l c k,rfl⟩
abbrev HB (x q:Str)(st:Stmt)(ps:List Str):Prop:=∀(kV doc pm:Value)(an:Option Addr)(cdv ct:Value)(us:List Value),us.length=ps.length->bindArgs (W.fnOf x q (iD st) (cZ st) (aR st) .none kV doc pm an cdv ct) ⟨us, []⟩=pure (ps.zip us)
theorem bi0 (h:bindArgs d ⟨[], []⟩=pure []):∀us:List Value,us.length=([]:List Str).length->bindArgs d ⟨us, []⟩=pure (([]:List Str).zip us) | [],_=>h
def bi1 {a:Str}(h:∀u,bindArgs d ⟨[u], []⟩=pure [(a,u)]):∀us:List Value,us.length= [a].length->bindArgs d ⟨us, []⟩=pure ([a].zip us):=by
 intro us hl
 rcases us with _ | ⟨u,_ | ⟨w_,l_⟩⟩
 ·simp at hl
 ·exact h u
 ·simp at hl
def bi2 {a b:Str}(h:∀u v,bindArgs d ⟨[u,v], []⟩=pure [(a,u),(b,v)]):∀us:List Value,us.length= [a,b].length->bindArgs d ⟨us, []⟩=pure ([a,b].zip us):=by
 intro us hl
 rcases us with _ | ⟨u,_ | ⟨v,_ | ⟨w_,l_⟩⟩⟩
 ·simp at hl
 ·simp at hl
 ·exact h u v
 ·simp at hl
def bi3 {a b c:Str}(h:∀u v x,bindArgs d ⟨[u,v,x], []⟩=pure [(a,u),(b,v),(c,x)]):∀us:List Value,us.length= [a,b,c].length->bindArgs d ⟨us, []⟩=pure ([a,b,c].zip us):=by
 intro us hl
 rcases us with _ | ⟨u,_ | ⟨v,_ | ⟨x,_ | ⟨w_,l_⟩⟩⟩⟩
 ·simp at hl
 ·simp at hl
 ·simp at hl
 ·exact h u v x
 ·simp at hl
def bi4 {a b c e:Str}(h:∀u v x y,bindArgs d ⟨[u,v,x,y], []⟩=pure [(a,u),(b,v),(c,x),(e,y)]):∀us:List Value,us.length= [a,b,c,e].length->bindArgs d ⟨us, []⟩=pure ([a,b,c,e].zip us):=by
 intro us hl
 rcases us with _ | ⟨u,_ | ⟨v,_ | ⟨x,_ | ⟨y,_ | ⟨w_,l_⟩⟩⟩⟩⟩
 ·simp at hl
 ·simp at hl
 ·simp at hl
 ·simp at hl
 ·exact h u v x y
 ·simp at hl
def bi5 {a b c e f:Str}(h:∀u v x y z,bindArgs d ⟨[u,v,x,y,z], []⟩=pure [(a,u),(b,v),(c,x),(e,y),(f,z)]):∀us:List Value,us.length= [a,b,c,e,f].length->bindArgs d ⟨us, []⟩=pure ([a,b,c,e,f].zip us):=by
 intro us hl
 rcases us with _ | ⟨u,_ | ⟨v,_ | ⟨x,_ | ⟨y,_ | ⟨z,_ | ⟨w_,l_⟩⟩⟩⟩⟩⟩
 ·simp at hl
 ·simp at hl
 ·simp at hl
 ·simp at hl
 ·simp at hl
 ·exact h u v x y z
 ·simp at hl
def sco {N ps:List Str}{sc:Scope}(h1:sc.kind= .function/\sc.isCoroutine=false/\sc.isGenerator=false)(h2:N.Nodup/\N.take ps.length=ps/\(∀x∈ps,sc.names.lookup x=some .local\/sc.names.lookup x=some .cell)/\∀y∈sc.names,y.2≠ .free):fY N ps sc:=⟨h1.1,h1.2.1,h1.2.2,h2.1,h2.2.1,h2.2.2.1,h2.2.2.2⟩
section
variable {P:Program}{w:World}{base:Heap}{CX:CXT}{x:Str}{st:Stmt}{fd:FuncData}{ps:List Str}{sp:Sp}
theorem mbM (N:List Str)(F:Fun K x q st f fd)(g:fY N ps (aR st)->fV P w K mg base CX k f fd ps sp)(S:fY N ps (aR st):=by exact sco ⟨rfl,rfl,rfl⟩ (by decide +kernel))
  (hb:HB x q st ps:=by first | exact fun _ _ _ _ _ _=>bi1 fun _=>rfl | exact fun _ _ _ _ _ _=>bi2 fun _ _=>rfl | exact fun _ _ _ _ _ _=>bi3 fun _ _ _=>rfl | exact fun _ _ _ _ _ _=>bi4 fun _ _ _ _=>rfl | exact fun _ _ _ _ _ _=>bi5 fun _ _ _ _ _=>rfl | exact fun _ _ _ _ _ _=>bi6 fun _ _ _ _ _ _=>rfl | exact fun _ _ _ _ _ _=>bi7 fun _ _ _ _ _ _ _=>rfl | exact fun _ _ _ _ _ _=>bi0 rfl):MB P w K mg base CX k f fd ps sp:=⟨g S,F.binds hb⟩
theorem fbM (N:List Str)(F:GFm K mg x st f fd)(g:fY N ps (aR st)->fV P w K mg base CX k f fd ps sp)(S:fY N ps (aR st):=by exact sco ⟨rfl,rfl,rfl⟩ (by decide +kernel))
  (hb:HB x x st ps:=by first | exact fun _ _ _ _ _ _=>bi1 fun _=>rfl | exact fun _ _ _ _ _ _=>bi2 fun _ _=>rfl | exact fun _ _ _ _ _ _=>bi3 fun _ _ _=>rfl | exact fun _ _ _ _ _ _=>bi4 fun _ _ _ _=>rfl | exact fun _ _ _ _ _ _=>bi5 fun _ _ _ _ _=>rfl | exact fun _ _ _ _ _ _=>bi6 fun _ _ _ _ _ _=>rfl | exact fun _ _ _ _ _ _=>bi7 fun _ _ _ _ _ _ _=>rfl | exact fun _ _ _ _ _ _=>bi0 rfl):FB P w K mg base CX k x f fd ps sp:=⟨g S,F.F.binds hb,F.F.kp,F.m⟩
theorem mbK (N:List Str)(F:Fun K x q st f fd)(hbody:∀{cdv:Value}{A:Around}{outer:List Env}{s:Shared}{vs:List V}{E:XK}(H:Hp)(Q:VK),N.Nodup->cX k (A.deeper (PyProof.Rows.envOfC q (aR st) s.heap.objs.size f cdv))->sp vs H Q E->∃t,PSs (mG CX0 P w K mg base N q (aR st) f cdv A outer s H E).nox (cZ st) t/\t { nx:=fun _ H'=>Q .non H',rt:=Q } (start N vs) H)(len:∀(vs:List V)(H:Hp)(Q:VK)(E:XK),sp vs H Q E->vs.length=ps.length:=by intro _ _ _ _ h;repeat (first | (obtain⟨rfl,_⟩:=h;exact rfl) | obtain⟨_,h⟩:=h))(S:fY N ps (aR st):=by exact sco ⟨rfl,rfl,rfl⟩ (by decide +kernel))
  (hb:HB x q st ps:=by first | exact fun _ _ _ _ _ _=>bi1 fun _=>rfl | exact fun _ _ _ _ _ _=>bi2 fun _ _=>rfl | exact fun _ _ _ _ _ _=>bi3 fun _ _ _=>rfl | exact fun _ _ _ _ _ _=>bi4 fun _ _ _ _=>rfl | exact fun _ _ _ _ _ _=>bi5 fun _ _ _ _ _=>rfl | exact fun _ _ _ _ _ _=>bi6 fun _ _ _ _ _ _=>rfl | exact fun _ _ _ _ _ _=>bi7 fun _ _ _ _ _ _ _=>rfl | exact fun _ _ _ _ _ _=>bi0 rfl):MB P w K mg base CX0 (k+1) f fd ps sp:=⟨F.ok S len fun _ _ _ _ _ _ _ _ hr=>hbody _ _ S.nd hr,F.binds hb⟩
theorem fbK (N:List Str)(F:GFm K mg x st f fd)(hbody:∀{cdv:Value}{A:Around}{outer:List Env}{s:Shared}{vs:List V}{E:XK}(H:Hp)(Q:VK),N.Nodup->cX k (A.deeper (PyProof.Rows.envOfC x (aR st) s.heap.objs.size f cdv))->sp vs H Q E->∃t,PSs (mG CX0 P w K mg base N x (aR st) f cdv A outer s H E).nox (cZ st) t/\t { nx:=fun _ H'=>Q .non H',rt:=Q } (start N vs) H)(len:∀(vs:List V)(H:Hp)(Q:VK)(E:XK),sp vs H Q E->vs.length=ps.length:=by intro _ _ _ _ h;repeat (first | (obtain⟨rfl,_⟩:=h;exact rfl) | obtain⟨_,h⟩:=h))(S:fY N ps (aR st):=by exact sco ⟨rfl,rfl,rfl⟩ (by decide +kernel))
  (hb:HB x x st ps:=by first | exact fun _ _ _ _ _ _=>bi1 fun _=>rfl | exact fun _ _ _ _ _ _=>bi2 fun _ _=>rfl | exact fun _ _ _ _ _ _=>bi3 fun _ _ _=>rfl | exact fun _ _ _ _ _ _=>bi4 fun _ _ _ _=>rfl | exact fun _ _ _ _ _ _=>bi5 fun _ _ _ _ _=>rfl | exact fun _ _ _ _ _ _=>bi6 fun _ _ _ _ _ _=>rfl | exact fun _ _ _ _ _ _=>bi7 fun _ _ _ _ _ _ _=>rfl | exact fun _ _ _ _ _ _=>bi0 rfl):FB P w K mg base CX0 (k+1) x f fd ps sp:=⟨F.F.ok S len fun _ _ _ _ _ _ _ _ hr=>hbody _ _ S.nd hr,F.F.binds hb,F.F.kp,F.m⟩
end
section
variable (P:Program)(w:World)(mg:Str->Option Value)(base:Heap)(CA:Cs)
variable {Za6 ZeJ Zdd Zdy Zcm Zif ZgE ZgC Zig Zii Zhh Zih Zj3 ZfI ZfX Zij ZgF ZfK ZfY ZeD ZdV ZeC Zed Zec Zfw Zeo ZdZ Zc6 ZbW Zen ZdU Zdx ZeR Zdt Zd7 Zd8 ZeS Zer Zeq ZeQ Zfh Zfj ZeG ZeY Zes ZdP Zee Ze1 ZdS Zew Zev Zdv Zcl Zck ZgD Zea Zfn Zj2 ZeU ZfP Zf0 Zhi ZfZ Zhg ZfJ Zfi Zfp ZeT Zeh ZeE Zd9 Zdu ZdW ZeF Zfm Zfk ZeH ZeZ Zet ZdQ Zef Ze2 ZfN ZfO ZdR Zeg Ze3 Zfl Ze0 ZeI Zeu Zex Zfq Zfo Zeb Zft Zfs Zdw Zfv ZfR Zey ZeB ZeX ZfQ Zez ZdT ZeA Zfu ZeV ZeW Zfr Zoi ZgA Zfg ZfG ZfW Zgz ZgB ZfF ZfV Zhf ZfH Zoj ZoJ ZoD ZmY ZoG ZdY Za4 Zem Zk5 Zg:Addr}
variable {ZiC ZhG ZfL Zf6 Ze6 Zly Zjy Zjw Zlz ZlB Zks ZlA Zm0 ZhK ZiB ZlC Zjz ZhM ZiD ZhA Zgn Zhz ZgN ZgM Zjr Zjs Ziy Zgp ZfD Zjq Zgm Zf5 Zil Zf1 ZgH ZgI Zim Zho Zhn Zik ZgT Zje ZhD Zis Zhp Zgh ZgO Ziv Zgk Zht Zhs Zf3 Ze5 Ze4 Zjx ZgK Zji ZmZ Zio Zko ZiF Zkt ZiE Zkr ZhL ZgU Zjk Zin ZgR ZhB ZgJ Zf2 Zgo ZhC Zjh Zjf ZhE Zit Zhq Zgi ZgP Ziw Zkm Zkn Zgj ZgQ Zix Zjg Ziu ZhF Zhr Zhu Zjl Zjj ZgL Zjo Zjn Zf4 ZgG Zkq Zhv Zhy Zir Zkp Zhw Zgl Zhx Zjp Zip Ziq Zjm Zok Zju ZgS ZhI ZiA Zjt Zjv ZhH Ziz Zhj ZhJ ZoE:FuncData}
variable {Zlw ZoM Znq Zn6 Zlx Znr ZoA Zn7 Zoz Zn3 Zns Zmu Zmw Znu Zoq Zn2 Zor Zn5 Znv Zmv Zn4 Znt:Tok}
variable (ZcH:mg "MOST_ALIKE"=some (.int 5 Znr))
variable (ZaP:mg "NoBits"=some (.ref ZoD))
variable (Zek:mg "HIGHEST_BYTE"=some (.int 255 Zlw))
variable (ZV:mg "NoKey"=some (.ref ZoG))
variable (Zmx:mg "KEY"=some (.int 64647 ZoM))
variable (ZbX:mg "CHECK_BITS"=some (.int 15 Znq))
variable (Zel:mg "HIGHEST_NAME"=some (.int 255 Zlx))
variable (ZeP:mg "Streak"=some (.ref CA.streak))
variable (Zfa:mg "MOST_BYTES"=some (.int 7 Zns))
variable (ZC:mg "NoFrame"=some (.ref ZdY))
variable (Zfz:mg "NAME_BITS"=some (.int 8 Zn6))
variable (ZfA:mg "SIZE_BITS"=some (.int 3 Zn7))
variable (Zbc:mg "BYTE_BITS"=some (.int 8 Zn3))
variable (Zd1:mg "SIZE_AT"=some (.int 9 ZoA))
variable (ZbY:mg "DATA_AT"=some (.int 12 Zoz))
variable (Zdc:mg "ANSWER_AT"=some (.int 1 Zn2))
variable (ZdB:mg "VOTES_AT"=some (.int 9 Zor))
variable (Zd2:mg "Tail"=some (.ref Zem))
variable (Zfc:mg "QUIET_FROM"=some (.int 12 Znu))
variable (ZfS:mg "OFF_FROM"=some (.int 18 Zoq))
variable (Zcj:mg "GREAT_FAULT"=some (.int 8 Zmu))
variable (ZeM:mg "SMALL_FAULT"=some (.int 1 Zmw))
variable (Zhl:mg "Reader"=some (.ref CA.reader))
variable (Zmy:mg "Off"=some (.ref CA.off))
variable (ZdA:mg "Flagging"=some (.ref CA.flag))
variable (Zfy:mg "FLAG_BITS"=some (.int 6 Zn5))
variable (Zcy:mg "Settles"=some (.ref CA.settles))
variable (Zc2:mg "VOTES"=some (.ref Zk5))
variable (Zw:mg "NoPost"=some (.ref Za4))
variable (Zi4:mg "Count"=some (.ref CA.count))
variable (Zep:mg "Free"=some (.ref CA.free))
variable (ZeL:mg "QUIET_TURNS"=some (.int 8 Zmv))
variable (Zdp:mg "Rests"=some (.ref CA.rests))
variable (ZbZ:mg "REST_TURNS"=some (.int 3 Znv))
variable (ZeO:mg "Speaks"=some (.ref CA.speaks))
variable (ZdN:mg "Reads"=some (.ref CA.reads))
variable (ZeN:mg "InTail"=some (.ref CA.intail))
variable (ZfT:mg "ReadTail"=some (.ref CA.rtail))
variable (Zfx:mg "DUEL_BITS"=some (.int 9 Zn4))
variable (ZfB:mg "SpeakTail"=some (.ref CA.stail))
variable (Zz:mg "Rail"=some (.ref Zg))
variable (Zfb:mg "MOST_POSTS"=some (.int 5 Znt))
variable (Zku:mg "Post"=some (.ref CA.post))
variable (Zf8:mg "NoName"=some (.ref ZmY))
variable (ZD:mg "range"=none)
variable (Zmz:mg "all"=none)
variable (ZK:mg "list"=none)
variable (ZL:mg "len"=none)
variable (ZmA:mg "max"=none)
variable (Zhm:mg "min"=none)
variable (ZfC:mg "enumerate"=none)
variable (Zdb:mg "int"=none)
variable (ZaK:mg "isinstance"=none)
variable (Zf9:mg "bool"=none)
variable (ZmB:mg "str"=none)
variable (Zi5:mg "tuple"=none)
variable (Zej:zT K Zk5 [1,3,5])
variable (Ze7:∃oc od fd sl,K.lookup Za6=some ⟨oc,od,.func fd,sl⟩)
variable (Zj:TCl K CA.rtail)
variable (Zi:TCl K CA.stail)
variable (Zm:Cls K CA.streak)
variable (ZbI:Mk K CA.streak ZeJ)
variable (Zh:Cls K CA.reader)
variable (Zaw:b3A K Zem "__init__" Zfw)
variable (Ze:Cls K CA.count)
variable (Zei:Mk K CA.reader ZeD)
variable (Zx:Cls K CA.free)
variable (Zk:Cls K CA.speaks)
variable (Zu:Cls K CA.reads)
variable (Zn:Cls K CA.intail)
variable (Zp:Cls K CA.flag)
variable (ZH:Cls K CA.settles)
variable (ZA:Cls K CA.rests)
variable (Zb:Cls K CA.post)
variable (Zbe:Mk K CA.flag ZdP)
variable (ZaF:Mk K CA.settles Zee)
variable (ZeK:Mk K CA.count ZeR)
variable (Za8:Mk K CA.free Zfj)
variable (ZaJ:Mk K CA.rests Ze1)
variable (ZbH:Mk K CA.speaks ZeG)
variable (ZaV:Mk K CA.reads ZeY)
variable (ZbG:Mk K CA.intail Zes)
variable (Zdz:Mk K CA.rtail ZdU)
variable (Zde:Mk K CA.stail Zdx)
variable (Za7:Cls K CA.off)
variable (Za:Cls K Zg)
variable (Ze8:Mk K CA.post Zfp)
variable (Zd0:Mk K Zg Zft)
variable (Z2:Meth K CA.streak "lengthen" Zdd)
variable (ZJ:Meth K CA.streak "is_full" Zdy)
variable (Za1:Meth K CA.streak "is_too_long" Zcm)
variable (ZbA:Meth K CA.reader "judged" ZdV)
variable (Zbl:Meth K CA.rtail "is_fault" Zc6)
variable (Zbd:Meth K CA.stail "is_fault" Zc6)
variable (Za2:Meth K CA.rtail "judged_vote" ZbW)
variable (ZaO:Meth K CA.stail "judged_vote" ZbW)
variable (Zat:Meth K CA.count "is_off" Zd7)
variable (Z4:Meth K CA.count "move" ZeS)
variable (ZY:Meth K CA.reader "hear" ZeC)
variable (Zbq:Meth K CA.count "is_quiet" Zdt)
variable (ZbK:Meth K CA.count "number" Zd8)
variable (Zay:Meth K CA.post "is_off" Zew)
variable (Ze9:MkB K CA.off)
variable (Zax:Meth K CA.count "fault" Zer)
variable (Zb7:Meth K CA.count "blame" Zeq)
variable (Za9:Meth K CA.rtail "place" ZdZ)
variable (Za3:Meth K CA.stail "place" ZdZ)
variable (Zbs:Meth K CA.post "has_frame" Zdv)
variable (Zan:Meth K CA.post "is_quiet" ZdS)
variable (Zbk:Meth K CA.rtail "says" Zeo)
variable (Zbb:Meth K CA.stail "says" Zeo)
variable (ZaM:Meth K CA.free "says" Zfk)
variable (Za0:Meth K CA.post "foremost_wire" Zcl)
variable (ZbN:Meth K CA.reader "frame" Zec)
variable (ZbO:Meth K CA.reader "plain" Zed)
variable (Zcn:Meth K CA.count "good" ZeQ)
variable (ZaZ:Meth K CA.post "drop_foremost" Zck)
variable (ZbM:Meth K CA.post "hand_up" Zea)
variable (Zbj:Meth K CA.rtail "hear" Zen)
variable (Zba:Meth K CA.stail "hear" Zen)
variable (Zco:Meth K CA.free "shown" ZeT)
variable (ZbR:Meth K CA.speaks "shown" Zeh)
variable (Zcf:Meth K CA.reads "shown" ZeE)
variable (ZbL:Meth K CA.intail "shown" Zd9)
variable (Zbr:Meth K CA.flag "shown" Zdu)
variable (ZbB:Meth K CA.settles "shown" ZdW)
variable (Zcg:Meth K CA.rests "shown" ZeF)
variable (ZcJ:Meth K CA.off "shown" Zfm)
variable (Zch:Meth K CA.speaks "says" ZeH)
variable (Zcr:Meth K CA.reads "says" ZeZ)
variable (Zb8:Meth K CA.intail "says" Zet)
variable (Zbx:Meth K CA.flag "says" ZdQ)
variable (ZbP:Meth K CA.settles "says" Zef)
variable (Zct:Meth K CA.rests "says" Ze2)
variable (Zc7:Meth K CA.off "says" ZfN)
variable (ZcI:Meth K CA.free "step" Zfl)
variable (Zci:Meth K CA.speaks "step" ZeI)
variable (Zcs:Meth K CA.reads "step" Ze0)
variable (Zb9:Meth K CA.intail "step" Zeu)
variable (Zby:Meth K CA.flag "step" ZdR)
variable (ZbQ:Meth K CA.settles "step" Zeg)
variable (Zcu:Meth K CA.rests "step" Ze3)
variable (Zc8:Meth K CA.off "step" ZfO)
variable (Zc:Meth K Zg "post_at" Zeb)
variable (ZcK:Meth K CA.post "hand" Zfn)
variable (ZcM:Meth K CA.post "says" Zfq)
variable (ZcL:Meth K CA.post "hear" Zfo)
variable (Zal:Meth K Zg "make_turn" Zdw)
variable (Zcb:Meth K CA.post "stance" Zex)
variable (Zcp:Meth K CA.post "waits" ZeU)
variable (Zc9:Meth K CA.post "got" ZfP)
variable (Zca:Meth K CA.post "faults" Zev)
variable (ZI:Meth K Zg "bits" Zfr)
variable (Zab:Meth K Zg "said" Zfu)
variable (Z5:Meth K Zg "heard" ZeV)
variable (ZaG:Meth K Zg "turns" ZeW)
variable (ZX:Meth K Zg "events" Zey)
variable (Zda:Meth K Zg "got" ZfQ)
variable (Zcq:Meth K Zg "waits" ZeX)
variable (Zce:Meth K Zg "stance" ZeB)
variable (Zcd:Meth K Zg "is_off" ZeA)
variable (Zbz:Meth K Zg "is_quiet" ZdT)
variable (Zcc:Meth K Zg "faults" Zez)
variable (Zbi:Meth K Zg "run" ZfR)
variable (ZcO:Meth K Zg "turn" Zfv)
variable (ZcN:Meth K Zg "hand" Zfs)
variable (ZdM:Bm K mg 4)
variable (Zav:bL K CA.streak "last")
variable (Zy:bL K CA.streak "alike")
variable (ZG:bL K CA.reader "streak")
variable (Zt:bL K CA.reader "kept")
variable (ZQ:bL K CA.reader "answer")
variable (Zr:bL K CA.count "total")
variable (ZO:bL K CA.free "since")
variable (ZR:bL K CA.speaks "wire")
variable (Z1:bL K CA.speaks "reader")
variable (Zv:bL K CA.speaks "many")
variable (Zae:bL K CA.reads "reader")
variable (Zah:bL K CA.reads "many")
variable (Zs:bL K CA.intail "tail")
variable (ZaH:bL K CA.intail "found")
variable (ZN:bL K CA.flag "left")
variable (ZW:bL K CA.flag "may_blame")
variable (Zaf:bL K CA.settles "may_blame")
variable (Z7:bL K CA.rests "left")
variable (Zl:bL K CA.post "tally")
variable (Zo:bL K CA.post "waiting")
variable (ZaN:bL K CA.post "choice")
variable (ZS:bL K CA.post "handed_up")
variable (Zag:bL K CA.post "votes")
variable (ZU:bL K CA.post "now")
variable (ZP:bL K Zg "posts")
variable (Zau:bL K Zg "owners")
variable (ZB:bL K Zg "borne")
variable (Z6:bL K Zg "sayings")
variable (Z0:bL K Zg "hearings")
variable (ZZ:bL K Zg "happened")
variable (Zi3:W.codeHdIn K 962 958=true)
variable (Zf7:W.codeHdIn K 1077 1073=true)
variable (Zhk:W.codeHdIn K 1138 1134=true)
variable (hc_Rail_turn:ZgG.code= .ref 962)
variable (hc_ear:Zok.code= .ref 1077)
variable (hc__law_ran:Zhj.code= .ref 1138)
set_option maxHeartbeats 4000000
variable (Zbp:FB P w K mg base (CX0) 2 "heard_well" Za6 ZiC ["post","turn","bit"] (tW))
def Zmq (F0:GFm K mg "heard_well" ZiZ Za6 ZiC):type_of% Zbp:=by
 refine fbK ["post","turn","bit"] F0 fun H Q nd hr h=>?_
 obtain⟨a,b,c,rfl,q⟩:=h
 refine⟨_,(aF (aN (dv 2))),?_⟩
 exact q
variable (ZaU:MB P w K mg base (CX0) 1 ZeJ ZhG ["self"] (a4W CA.streak))
include Zm Zav Zy in
theorem Zlp (F0:Fun K "__init__" "Streak.__init__" Zh6 ZeJ ZhG):type_of% ZaU:=by
 refine mbK ["self"] F0 fun H Q nd hr h=>?_
 obtain⟨a,dx,rfl,ha,q⟩:=h
 refine⟨_,(aD (bW Zm Zav (dv 0) oF) (aF (bW Zm Zy (dv 0) aG))),?_⟩
 refine⟨dx, [],ha,by decide,?_⟩
 refine⟨dx,_,aB,by decide,?_⟩
 exact q _ (by rw[jP];rfl)
variable (Z3:MB P w K mg base (CX0) 1 Zdd ZfL ["self","bit"] (a9E CA.streak))
include Zm Zav Zy in
theorem ZiG (F0:Fun K "lengthen" "Streak.lengthen" ZfM Zdd ZfL):type_of% Z3:=by
 refine mbK ["self","bit"] F0 fun H Q nd hr h=>?_
 obtain⟨a,s,b,rfl,⟨dx,ha⟩,q⟩:=h
 refine⟨_,(aD (bW Zm Zy (dv 0) (cD (dC (bA fW (dv 1) (aP Zm Zav (dv 0)) (aV _)) (aZ dN (aP Zm Zy (dv 0)) aG) aG))) (aF (bW Zm Zav (dv 0) (dv 1)))),?_⟩
 refine⟨fun x H'=>x= .int (((skp s b).2:Nat):Int)/\H'=H,?_,?_⟩
 ·obtain⟨l,n⟩:=s
  cases l with
  |none=>exact⟨dx,_,.non,ha,rfl,rfl,rfl⟩
  | some c=>
   refine⟨dx,_,.int c,ha,rfl,?_⟩
   conv=>whnf
   refine cC (fun z=>?_) (fun z=>?_)
   ·have e:b=c:=dec_true z
    subst e
    refine⟨dx,_,.int n,ha,rfl,?_,rfl⟩
    have e2:(skp (some b,n) b).2=n+1:=if_pos rfl
    rw[e2];rfl
   ·have e:¬ b=c:=dec_false z
    refine⟨?_,rfl⟩
    have e2:(skp (some c,n) b).2=1:=if_neg fun y=>e (Yo y).symm
    rw[e2];rfl
 rintro x H' ⟨rfl,rfl⟩
 refine⟨dx,_,ha,(show 2<1000 by decide),?_⟩
 refine⟨dx,_,aB,(show 2<1000 by decide),?_⟩
 refine q _ ⟨dx,?_⟩ fun x hx=>by rw[aH hx,aH hx]
 rw[aB]
 rfl
variable (ZT:MB P w K mg base (CX0) 1 Zdy Zf6 ["self"] (a4X CA.streak))
include ZcH Zm Zy in
theorem Zjd (F0:Fun K "is_full" "Streak.is_full" Zgf Zdy Zf6):type_of% ZT:=by
 refine mbK ["self"] F0 fun H Q nd hr h=>?_
 obtain⟨a,s,rfl,⟨dx,ha⟩,q⟩:=h
 refine⟨_,(aF (aN (dG fW (aP Zm Zy (dv 0)) (bC (v:= .int 5) rfl ZcH ⟨_,rfl⟩) (aV _)))),?_⟩
 refine⟨dx,_,.int s.2,ha,rfl,?_⟩
 conv=>whnf
 rw[a3P]
 exact q
variable (ZaY:MB P w K mg base (CX0) 1 Zcm Ze6 ["self"] (a4V CA.streak))
include ZcH Zm Zy in
theorem ZgX (F0:Fun K "is_too_long" "Streak.is_too_long" Zff Zcm Ze6):type_of% ZaY:=by
 refine mbK ["self"] F0 fun H Q nd hr h=>?_
 obtain⟨a,s,rfl,⟨dx,ha⟩,q⟩:=h
 refine⟨_,(aF (aN (dG a4A (aP Zm Zy (dv 0)) (bC (v:= .int 5) rfl ZcH ⟨_,rfl⟩) (aV _)))),?_⟩
 refine⟨dx,_,.int s.2,ha,rfl,?_⟩
 show Q (.bl (decide ((5:Int)<((s.2:Nat):Int)))) H
 rw[b1L]
 exact q
variable (Zac:FB P w K mg base (CX0) 1 "bits_of" Zif Zly ["number","many"] (a5O))
include ZaP ZD in
theorem Zol (F0:GFm K mg "bits_of" ZlD Zif Zly):type_of% Zac:=by
 refine fbK ["number","many"] F0 fun H Q nd hr h=>?_
 obtain⟨n,m,rfl,hn,hm,q⟩:=h
 refine⟨_,(aD (bM (PW.pt (iK (bA a1S (dv 0) aG (aV _)) (jT (bA rH (aZ b2A (dv 0) (dv 1)) aG (aV _))))) (aF fX) aU) (aF (aN (iM rfl (ix:=[0,1]) (cO rfl ZD (aA (dv 1) aC)) (fun C fp s0 H0 at0=>eV) (fun C fp s0 H0 at0=>(aZ a4C (aZ b2A (dv 1) (aZ lZ (aZ lZ (dv 2) aG) (dv 0))) aG)) rfl rfl (by rfl) (show ([".0","place","number","many"]:List Str).Nodup by decide +kernel))))),?_⟩
 refine⟨by omega,?_⟩
 conv=>whnf
 refine qT (a3O hn) ?_
 have em:((m:Nat):Int).toNat=m:=YR m
 refine⟨⟨by omega,by omega⟩,gO (fun i ys H'=>ys=((cM n m).take i).map V.int/\H'=H) ?_ ⟨rfl,rfl⟩ ?_ ?_⟩
 ·rintro i ys H' hi ⟨rfl,_⟩
  refine bI ?_
  rw[Ya,Yx,cP]
  omega
 ·rintro i ys H' hi ⟨rfl,rfl⟩
  rw[em]at hi
  refine⟨(by show (0:Int)<=(m:Int)-1-(0+(i:Int));omega),?_,rfl⟩
  have e:(m:Int)-1-(0+(i:Int))=((m-1-i:Nat):Int):=by omega
  show _++[V.int (Builtin.bitAnd ((n:Int) / 2 ^ ((m:Int)-1-(0+(i:Int))).toNat) 1)]=_
  rw[e,b8Z,a1W hi,Yk]
  rfl
 ·rintro ys H' ⟨rfl,rfl⟩ p hp
  rw[em,Ys (by rw[cP];exact Yf _)]
  exact q p hp
variable (ZE:FB P w K mg base (CX0) 1 "number_of" ZgE Zjy ["bits"] (yL K))
def Znm (F0:GFm K mg "number_of" ZjU ZgE Zjy):type_of% ZE:=by
 refine fbK ["bits","number","bit"] F0 fun H Q nd hr h=>?_
 obtain⟨a,bs,rfl,hS,hb,hl,q⟩:=h
 refine⟨_,(aD (aX (i:=1) nd rfl (Or.inl rfl) aG) (aD (dH YF rfl (cY (dv 0)) (cL (i:=2) nd rfl (Or.inl rfl)) (aF (aX (i:=1) nd rfl (Or.inl rfl) (aZ dN (aZ oU (dv 1) aG) (dv 2))))) (aF (aN (dv 1))))),?_⟩
 refine⟨⟨_,hS⟩,eO (xs:=bs.map V.int) (fun i σ H'=>(∃x,σ= [some (.ref a),some (.int (jV (bs.take i))),x])/\H'=H) ⟨⟨_,rfl⟩,rfl⟩ (fun i σ H' _ z=>by rw[z.2];exact hS) ?_ ?_⟩
 ·rintro i x σ H' hx ⟨⟨y,rfl⟩,rfl⟩
  obtain⟨hi,rfl⟩:=lV hx
  have hb':bU (bs.take i):=fun b h=>hb b (XR h)
  have b1:=uD hb'
  have b2:(2:Int) ^ (bs.take i).length<=2 ^ 450:=yC (by rw[Yx];omega)
  refine⟨⟨a8S (n:=450) (a2T b1.1 (by omega)),kW (by decide) (by decide)⟩,⟨some (.int bs[i]),?_⟩,rfl⟩
  rw[Yh hi,oG]
  rfl
 ·rintro σ H' ⟨⟨y,rfl⟩,rfl⟩
  rw[Ya,Ys (Yf _),b0R hb]
  exact q
variable (ZaD:FB P w K mg base (CX0) 1 "are_bytes" ZgC Zjw ["numbers"] (a9N K))
include Zek Zmz in
theorem Znk (F0:GFm K mg "are_bytes" ZjS ZgC Zjw):type_of% ZaD:=by
 refine fbK ["numbers"] F0 fun H Q nd hr h=>?_
 obtain⟨a,ns,rfl,hS,hl,q⟩:=h
 refine⟨_,(aF (aN (bG (b6Q rfl) rfl Zmz b6B (aA (iM rfl (ix:=[]) (b4Z (dv 0)) (fun C fp s0 H0 at0=>eV) (fun C fp s0 H0 at0=>(wQ xV xV aG (dv 0) (bC (v:= .int 255) rfl Zek ⟨_,rfl⟩))) rfl rfl (by rfl) (show ([".0","number"]:List Str).Nodup by decide +kernel)) aC)))),?_⟩
 refine a8I hS (fun i ys=>ys=((ns.take i).map byt).map V.bl) ?_ rfl ?_ ?_
 ·rintro i ys hi rfl
  refine bI ?_
  rw[Ya,Ya,Yx]
  omega
 ·rintro i x ys hx rfl
  obtain⟨hi,rfl⟩:=lV hx
  conv=>whnf
  refine cC (fun c=>⟨?_,rfl⟩) (fun c=>⟨?_,rfl⟩)
  ·have c1:(0:Int)<=ns[i]:=dec_true c
   rw[Yh hi,Yk,Yk]
   show _++[V.bl (decide (ns[i]<=255))]=_++[V.bl (byt ns[i])]
   unfold byt
   rw[Yp c1,Bool.true_and]
  ·have c1:¬ (0:Int)<=ns[i]:=dec_false c
   rw[Yh hi,Yk,Yk]
   show _++[V.bl false]=_++[V.bl (byt ns[i])]
   unfold byt
   rw[Yr c1,Bool.false_and]
 rintro ys rfl p hp
 rw[Ya,Ys (Yf _)]
 refine⟨ns.map byt,Vb aB,?_⟩
 have e:(ns.map byt).all id=ns.all byt:=by rw[List.all_map];rfl
 rw[e]
 exact q _ (aK hp _)
variable (Zdq:FB P w K mg base (CX0) 1 "divided" Zig Zlz ["number","key"] (a2H))
include ZV in
theorem Zom (F0:GFm K mg "divided" ZlE Zig Zlz):type_of% Zdq:=by
 refine fbK ["number","key","whole","rest","power"] F0 fun H Q nd hr h=>?_
 obtain⟨a,rfl,ha,q⟩:=h
 refine⟨_,(aD (bM (bA fW (dv 1) aG (aV _)) (aF fX) aU) (aD (aX (i:=2) nd rfl (Or.inl rfl) aG) (aD (aX (i:=3) nd rfl (Or.inl rfl) (dv 0)) (aD (a6G YF (bA xX (a0R (dv 3)) (a0R (dv 1)) (aV _)) (aD (aX (i:=4) nd rfl (Or.inl rfl) (aZ lZ (a0R (dv 3)) (a0R (dv 1)))) (aD (aX (i:=2) nd rfl (Or.inl rfl) (aZ a0M (dv 2) (aZ a0N aG (dv 4)))) (aF (aX (i:=3) nd rfl (Or.inl rfl) (aZ a0M (dv 3) (aZ a0N (dv 1) (dv 4)))))))) (aF (aN (bN (aA (dv 2) (aA (dv 3) aC))))))))),?_⟩
 refine⟨fun mm σ H'=>∃(w r:Nat)(p:Option V),mm=bl r/\σ= [some (.int a),some (.int 64647),some (.int w),some (.int r),p]/\H'=H/\r<2 ^ 450/\R r=R a,⟨_,0,a,_,rfl,rfl,rfl,ha,rfl⟩,?_⟩
 rintro mm σ H' ⟨w,r,p,rfl,rfl,rfl,hr,e⟩
 conv=>whnf
 refine cC (fun c=>?_) (fun c=>?_)
 ·have c1:16<=bl r:=by
   have:((Builtin.Int.intBits (64647:Int):Nat):Int)<=((Builtin.Int.intBits (r:Int):Nat):Int):=dec_true c
   have k:=zP
   show 16<=Builtin.Int.intBits (r:Int)
   have k':Builtin.Int.intBits (64647:Int)=16:=k
   omega
  obtain⟨t1,t2,t3⟩:=a7O hr c1
  have r3:=a8R hr
  refine⟨fun σ' H2=>∃(w:Nat)(p:Option V),σ'= [some (.int a),some (.int 64647),some (.int w),some (.int ((r ^^^ 64647 <<< (bl r-16):Nat):Int)),p]/\H2=H',?_,?_⟩
  ·rintro σ' H2 ⟨w',p',rfl,rfl⟩
   exact⟨bl (r ^^^ 64647 <<< (bl r-16)),t3,w',_,p',rfl,rfl,rfl,t1,t2.trans e⟩
  have ep:((Builtin.Int.intBits (r:Int):Nat):Int)-((Builtin.Int.intBits (64647:Int):Nat):Int)=((bl r-16:Nat):Int):=by
   have k':Builtin.Int.intBits (64647:Int)=16:=zP
   rw[k']
   show ((bl r:Nat):Int)-_=_
   omega
  refine⟨1,(bl r-16),rfl,YJ V.int ep,⟨a7H (n:=1) (by decide),by omega⟩,w,_,rfl,rfl,trivial,?_⟩
  refine⟨64647,(bl r-16),rfl,YJ V.int ep,⟨a7H (n:=16) (by decide),by omega⟩,r,_,rfl,rfl,trivial,?_⟩
  exact⟨_,_,rfl,rfl⟩
 ·have c1:bl r<16:=by
   have:¬ ((Builtin.Int.intBits (64647:Int):Nat):Int)<=((Builtin.Int.intBits (r:Int):Nat):Int):=dec_false c
   have k':Builtin.Int.intBits (64647:Int)=16:=zP
   show Builtin.Int.intBits (r:Int)<16
   omega
  have hs:r<32768:=Ye (b2V r) (Yw (n:=2) (j:=15) (by decide) (by omega))
  rw[vJ hs]at e
  rw[e]
  exact⟨aL rfl,fun p hp=>q w p hp⟩
variable (Zam:FB P w K mg base (CX0) 2 "rest_of" Zii ZlB ["bits"] (b3R K))
include ZV Zmx ZE Zdq in
theorem Zoo (F0:GFm K mg "rest_of" ZlG Zii ZlB):type_of% Zam:=by
 refine fbK ["bits"] F0 fun H Q nd hr h=>?_
 obtain⟨a,bs,rfl,hS,hb,hl,q⟩:=h
 refine⟨_,(aF (aN (bH fK (aQ Zdq.1 hr.mo rfl Zdq.2.2.2 Zdq.2.2.1 Zdq.2.1 .nil aM (aA (aQ ZE.1 hr.mo rfl ZE.2.2.2 ZE.2.2.1 ZE.2.1 .nil aM (aA (dv 0) aC)) (aA (bC (v:= .int 64647) rfl Zmx ⟨_,rfl⟩) aC))) aG (fun _ _=>rfl)))),?_⟩
 refine⟨a,bs,rfl,hS,hb,hl,?_⟩
 refine⟨nm bs,rfl,Ye (wH hb) (Yw (by decide) hl),fun w p hp=>?_⟩
 exact⟨_,_,Vc aB,rfl,q _ (aK hp _)⟩
variable (Zc5:FB P w K mg base (CX0) 3 "check_of" Zhh Zks ["bits"] (a9M K))
include ZaP ZV ZbX ZK Zac Zam in
theorem Zn0 (F0:GFm K mg "check_of" ZkP Zhh Zks):type_of% Zc5:=by
 refine fbK ["bits"] F0 fun H Q nd hr h=>?_
 obtain⟨a,bs,rfl,hS,hb,hl,q⟩:=h
 refine⟨_,(aF (aN (aQ Zac.1 hr.mo rfl Zac.2.2.2 Zac.2.2.1 Zac.2.1 .nil aM (aA (aQ Zam.1 hr.mo rfl Zam.2.2.2 Zam.2.2.1 Zam.2.1 .nil aM (aA (aZ mD (cH dF rfl ZK eN (aA (dv 0) aC)) (aZ b6J (cB (aA aG aC)) (bC (v:= .int 15) rfl ZbX ⟨_,rfl⟩))) aC)) (aA (bC (v:= .int 15) rfl ZbX ⟨_,rfl⟩) aC))))),?_⟩
 refine⟨_,.inl hS,fun l hl1=>?_⟩
 have g1:=aK hl1 (.lst (bs.map V.int))
 have e1:=aB (H:=H) (a:=l) (o:= .lst (bs.map V.int))
 generalize upd H l (.lst (bs.map V.int))=H1 at g1 e1
 refine⟨aL rfl,fun o ho=>?_⟩
 have g2:=aK ho (.lst [.int 0])
 have e2:=aB (H:=H1) (a:=o) (o:= .lst [.int 0])
 generalize upd H1 o (.lst [.int 0])=H2 at g2 e2
 refine⟨_,e2,⟨by decide,by decide⟩,(by show 1*15<=sizeLine;exact small (by decide)),fun z hz=>?_⟩
 have g3:=aK hz (.lst (List.replicate (15:Int).toNat [V.int 0]).flatten)
 have e3:upd H2 z (.lst (List.replicate (15:Int).toNat [V.int 0]).flatten) z=some (.lst ((zs 15).map V.int)):=by rw[aB];rfl
 generalize upd H2 z (.lst (List.replicate (15:Int).toNat [V.int 0]).flatten)=H3 at g3 e3
 refine⟨_,_,g3 _ _ (g2 _ _ e1),e3,(by rw[Ya];exact small (by show bs.length+15<=1000;omega)),fun c hc=>?_⟩
 have g4:=aK hc (.lst (bs.map V.int++(zs 15).map V.int))
 have e4:upd H3 c (.lst (bs.map V.int++(zs 15).map V.int)) c=some (.lst ((bs++zs 15).map V.int)):=by rw[aB,Yk]
 generalize upd H3 c (.lst (bs.map V.int++(zs 15).map V.int))=H4 at g4 e4
 refine⟨c,bs++zs 15,rfl,Vb e4,jG hb (a0C 15),(by rw[Yc];show bs.length+15<=450;omega),fun H5 g5=>?_⟩
 refine⟨ckn bs,15,rfl,a8L bs,by decide,fun p hp=>?_⟩
 have gs:=g1.trans (g2.trans (g3.trans (g4.trans g5)))
 exact q p _ (gs.none hp) (gs.trans (aK hp _)) aB
variable (Zdr:FB P w K mg base (CX0) 1 "is_name" Zih ZlA ["number"] (b7K))
include Zel in
theorem Zon (F0:GFm K mg "is_name" ZlF Zih ZlA):type_of% Zdr:=by
 refine fbK ["number"] F0 fun H Q nd hr h=>?_
 obtain⟨n,rfl,q⟩:=h
 refine⟨_,(aF (aN (wQ xV xV aG (dv 0) (bC (v:= .int 255) rfl Zel ⟨_,rfl⟩)))),?_⟩
 conv=>whnf
 refine cC (fun c=>?_) (fun c=>?_)
 ·have c1:(0:Int)<=n:=dec_true c
  show Q (.bl (decide (n<=255))) H
  have e:decide (n<=255)=byt n:=by unfold byt;rw[Yp c1,Bool.true_and]
  rw[e];exact q
 ·have c1:¬ (0:Int)<=n:=dec_false c
  show Q (.bl false) H
  have e:false=byt n:=by unfold byt;rw[Yr c1,Bool.false_and]
  rw[e];exact q
variable (ZdX:FB P w K mg base (CX0) 3 "put_in" Zj3 Zm0 ["bits"] (a9G K))
include ZeP Zm ZbI Z2 ZJ ZaU Z3 ZT in
theorem Zoy (F0:GFm K mg "put_in" Znp Zj3 Zm0):type_of% ZdX:=by
 refine fbK ["bits","wire","streak","bit"] F0 fun H Q nd hr h=>?_
 obtain⟨a,bs,rfl,hS,hl,q⟩:=h
 refine⟨_,(aD (aX (i:=1) nd rfl (Or.inl rfl) (cB aC)) (aD (aX (i:=2) nd rfl (Or.inl rfl) (mW ZbI ZaU.1 hr.mo rfl ZeP ZaU.2 .nil aM)) (aD (dH YF rfl (cY (dv 0)) (cL (i:=3) nd rfl (Or.inl rfl)) (aD (aW (bR (dv 1) (aA (dv 3) aC))) (aD (aW (bB Zm Z2 Z3.1 hr.mo Z3.2 .nil aM (dv 2) (aA (dv 3) aC))) (aF (bM (bV (bD Zm ZJ ZT.1 hr.mo ZT.2 .nil aM (dv 2))) (aD (aW (bR (dv 1) (aA (aZ lZ aG (dv 3)) aC))) (aF (aW (bB Zm Z2 Z3.1 hr.mo Z3.2 .nil aM (dv 2) (aA (aZ lZ aG (dv 3)) aC))))) aU))))) (aF (aN (dv 1)))))),?_⟩
 refine⟨aL rfl,fun p hp=>?_⟩
 have g0:=aK hp (.lst [])
 have e0:=aB (H:=H) (a:=p) (o:= .lst [])
 generalize upd H p (.lst [])=H1 at g0 e0
 refine fun st dx hst hdx hne=>⟨st,dx,rfl,aB,fun H2 eH=>⟨rfl,?_⟩⟩
 have g1:Same H1 H2:=by rw[eH];exact bO hst hdx
 have s2:jO CA.streak H2 st (sk []):=⟨dx,by rw[eH];exact aB⟩
 clear eH
 have nst:=g0.none hst
 refine⟨⟨_,(g0.trans g1).seq hS⟩,eO (xs:=bs.map V.int) (fun i σ H'=>(∃x,σ= [some (.ref a),some (.ref p),some (.ref st),x])/\H' p=some (.lst ((put (bs.take i)).map V.int))/\jO CA.streak H' st (sk (put (bs.take i)))/\Same H H')
  ⟨⟨_,rfl⟩,g1 _ _ e0,s2,g0.trans g1⟩ (fun i σ H' _ z=>z.2.2.2.seq hS) ?_ ?_⟩
 ·rintro i x σ H' hx ⟨⟨y,rfl⟩,h1,h2,h3⟩
  obtain⟨hi,rfl⟩:=lV hx
  have pl:=tZ (bs.take i)
  rw[Yx]at pl
  have h4:=tY (bs.take i)
  generalize a6A hi=ept
  generalize bs[i]=b at ept
  generalize put (bs.take i)=w at h1 h2 pl h4 ept
  refine⟨⟨_,Vb h1⟩,_,h1,bI (by rw[Ya];omega),?_⟩
  have h1':upd H' p (.lst (w.map V.int++[.int b])) p=some (.lst ((w++[b]).map V.int)):=by rw[aB,Yk];rfl
  have h2':jO CA.streak (upd H' p (.lst (w.map V.int++[.int b]))) st (sk w):=h2.set h1
  have h3':Same H (upd H' p (.lst (w.map V.int++[.int b]))):=h3.put hp
  generalize upd H' p (.lst (w.map V.int++[.int b]))=H3 at h1' h2' h3'
  obtain⟨d3,k3⟩:=id h2'
  refine⟨⟨d3,_,k3,rfl⟩,st,sk w,b,rfl,h2',fun H4 s4 k4=>?_⟩
  rw[<-lM]at s4
  have h1'':=(k4 p (h2'.ne h1')).trans h1'
  have h3'':Same H H4:=fun c o e=>(k4 c (aJ e nst)).trans (h3' c o e)
  obtain⟨d4,k5⟩:=id s4
  refine⟨⟨d4,_,k5,rfl⟩,st,sk (w++[b]),rfl,s4,?_⟩
  conv=>whnf
  refine cC (fun c=>?_) (fun c=>?_)
  ·have c1:run (w++[b])=5:=dec_true c
   have ep:put (bs.take (i+1))=w++[b]++[1-b]:=by rw[ept];unfold pst;rw[if_pos c1]
   refine⟨⟨_,Vb h1''⟩,_,h1'',bI (by rw[Ya,Yc,YG];omega),?_⟩
   have q1:upd H4 p (.lst ((w++[b]).map V.int++[.int (1-b)])) p=some (.lst ((w++[b]++[1-b]).map V.int)):=by rw[aB,Yk (l₁:=w++[b])];rfl
   have q2:=s4.set (ys:=(w++[b]).map V.int++[.int (1-b)]) h1''
   have q3:Same H (upd H4 p (.lst ((w++[b]).map V.int++[.int (1-b)]))):=h3''.put hp
   generalize upd H4 p (.lst ((w++[b]).map V.int++[.int (1-b)]))=H5 at q1 q2 q3
   obtain⟨d6,k6⟩:=id q2
   refine⟨⟨d6,_,k6,rfl⟩,st,sk (w++[b]),1-b,rfl,q2,fun H6 s6 k7=>?_⟩
   rw[<-lM]at s6
   refine⟨⟨_,rfl⟩,?_,?_,fun c o e=>(k7 c (aJ e nst)).trans (q3 c o e)⟩
   ·rw[ep];exact(k7 p (q2.ne q1)).trans q1
   ·rw[ep];exact s6
  ·have c1:¬ run (w++[b])=5:=dec_false c
   have ep:put (bs.take (i+1))=w++[b]:=by rw[ept];unfold pst;rw[if_neg c1]
   exact⟨⟨_,rfl⟩,by rw[ep];exact h1'',by rw[ep];exact s4,h3''⟩
 rintro σ H' ⟨⟨y,rfl⟩,h1,h2,h3⟩
 rw[Ya,Ys (Yf _)]at h1
 exact q p H' hp h3 h1
variable (ZF:FB P w K mg base (CX0) 2 "check_frame" ZfI ZhK ["name","data"] (b3Y K ZdY))
include Zfa ZC ZL ZaD Zdr in
theorem Zlt (F0:GFm K mg "check_frame" Zia ZfI ZhK):type_of% ZF:=by
 refine fbK ["name","data"] F0 fun H Q nd hr h=>?_
 obtain⟨n,a,ds,rfl,hS,hl,q1,q2⟩:=h
 refine⟨_,(aD (bM (dY (bV (aQ Zdr.1 hr.mo rfl Zdr.2.2.2 Zdr.2.2.1 Zdr.2.1 .nil aM (aA (dv 0) aC)))) (aF fX) aU) (aD (bM (bA a4A (bG fZ rfl ZL dM (aA (dv 1) aC)) (bC (v:= .int 7) rfl Zfa ⟨_,rfl⟩) (aV _)) (aF fX) aU) (aF (bM (dY (bV (aQ ZaD.1 hr.mo rfl ZaD.2.2.2 ZaD.2.2.1 ZaD.2.1 .nil aM (aA (dv 1) aC)))) (aF fX) aU)))),?_⟩
 refine⟨n,rfl,?_⟩
 conv=>whnf
 refine cC (fun c=>?_) (fun c=>?_)
 ·have c1:¬ byt n=true:=fun z=>by
   have:(!byt n)=true:=c
   rw[z]at this;cases this
  exact(q2 (a6Y (.inl c1)) _ (Vd _))
 have c1:byt n=true:=by
  cases e:byt n with
  |true=>rfl
  |false=>exact absurd (show (!byt n)=true by rw[e];rfl) c
 refine⟨_,.inl hS,?_⟩
 rw[Ya]
 conv=>whnf
 refine cC (fun z=>?_) (fun z=>?_)
 ·have z1:(7:Int)<((ds.length:Nat):Int):=dec_true z
  exact(q2 (a6Y (.inr (.inl (by omega)))) _ (Vd _))
 have z1:¬ (7:Int)<((ds.length:Nat):Int):=dec_false z
 refine⟨a,ds,rfl,.inl hS,hl,fun H1 g1=>?_⟩
 conv=>whnf
 refine cC (fun y=>?_) (fun y=>?_)
 ·have y1:¬ ds.all byt=true:=fun z=>by
   have:(!ds.all byt)=true:=y
   rw[z]at this;cases this
  exact(q2 (fun h=>y1 h.2.2) _ g1)
 ·have y1:ds.all byt=true:=by
   cases e:ds.all byt with
   |true=>rfl
   |false=>exact absurd (show (!ds.all byt)=true by rw[e];rfl) y
  exact q1 ⟨c1,by omega,y1⟩ _ g1
variable (ZbT:FB P w K mg base (CX0) 5 "frame_bits" ZfX ZiB ["name","data"] (a9H K ZdY))
include ZaP ZV ZC Zfz ZfA Zbc ZL Zac Zc5 ZF in
theorem Zmp (F0:GFm K mg "frame_bits" ZiY ZfX ZiB):type_of% ZbT:=by
 refine fbK ["name","data","bits","byte"] F0 fun H Q nd hr h=>?_
 obtain⟨n,a,ds,rfl,hS,hl,q1,q2⟩:=h
 refine⟨_,(aD (aW (aQ ZF.1 hr.mo rfl ZF.2.2.2 ZF.2.2.1 ZF.2.1 .nil aM (aA (dv 0) (aA (dv 1) aC)))) (aD (aX (i:=2) nd rfl (Or.inl rfl) (aZ mD (aZ mD (cB (aA aG aC)) (aQ Zac.1 hr.mo rfl Zac.2.2.2 Zac.2.2.1 Zac.2.1 .nil aM (aA (dv 0) (aA (bC (v:= .int 8) rfl Zfz ⟨_,rfl⟩) aC)))) (aQ Zac.1 hr.mo rfl Zac.2.2.2 Zac.2.2.1 Zac.2.1 .nil aM (aA (bG fZ rfl ZL dM (aA (dv 1) aC)) (aA (bC (v:= .int 3) rfl ZfA ⟨_,rfl⟩) aC))))) (aD (dH YF rfl (cY (dv 1)) (cL (i:=3) nd rfl (Or.inl rfl)) (aF (aW (a2X (dv 2) (aA (aQ Zac.1 hr.mo rfl Zac.2.2.2 Zac.2.2.1 Zac.2.1 .nil aM (aA (dv 3) (aA (bC (v:= .int 8) rfl Zbc ⟨_,rfl⟩) aC))) aC))))) (aF (aN (aZ mD (dv 2) (aQ Zc5.1 hr.mo rfl Zc5.2.2.2 Zc5.2.2.1 Zc5.2.1 .nil aM (aA (dv 2) aC)))))))),?_⟩
 refine⟨n,a,ds,rfl,hS,hl,fun hf H1 g1=>?_,q2⟩
 obtain⟨m,rfl,hm⟩:=a1L hf.1
 refine⟨aL rfl,fun p2 hp2=>?_⟩
 have g2:=aK hp2 (.lst [.int 0])
 have e2:=aB (H:=H1) (a:=p2) (o:= .lst [.int 0])
 generalize upd H1 p2 (.lst [.int 0])=H2 at g2 e2
 refine⟨m,8,rfl,by show m<2 ^ 8;omega,by decide,fun p3 hp3=>?_⟩
 have g3:=aK hp3 (.lst ((cM m 8).map V.int))
 have e3:=aB (H:=H2) (a:=p3) (o:= .lst ((cM m 8).map V.int))
 generalize upd H2 p3 (.lst ((cM m 8).map V.int))=H3 at g3 e3
 refine⟨_,_,g3 _ _ e2,e3,(by rw[Ya,cP];exact aL rfl),fun p4 hp4=>?_⟩
 have g4:=aK hp4 (.lst ([.int 0]++(cM m 8).map V.int))
 have e4:=aB (H:=H3) (a:=p4) (o:= .lst ([.int 0]++(cM m 8).map V.int))
 generalize upd H3 p4 (.lst ([.int 0]++(cM m 8).map V.int))=H4 at g4 e4
 have gs4:=g1.trans (g2.trans (g3.trans g4))
 refine⟨_,.inl (gs4.seq hS),?_⟩
 rw[Ya]
 have h7:=hf.2.1
 refine⟨ds.length,3,rfl,by show ds.length<2 ^ 3;omega,by decide,fun p5 hp5=>?_⟩
 have g5:=aK hp5 (.lst ((cM ds.length 3).map V.int))
 have e5:=aB (H:=H4) (a:=p5) (o:= .lst ((cM ds.length 3).map V.int))
 generalize upd H4 p5 (.lst ((cM ds.length 3).map V.int))=H5 at g5 e5
 refine⟨_,_,g5 _ _ e4,e5,(by rw[Yc,Ya,Ya,cP,cP];exact aL rfl),fun p6 hp6=>?_⟩
 have g6:=aK hp6 (.lst ([.int 0]++(cM m 8).map V.int++(cM ds.length 3).map V.int))
 have e6:upd H5 p6 (.lst ([.int 0]++(cM m 8).map V.int++(cM ds.length 3).map V.int)) p6=some (.lst ((hdD (m:Int) ds.length []).map V.int)):=by
  rw[aB];unfold hdD b8;simp
 generalize upd H5 p6 (.lst ([.int 0]++(cM m 8).map V.int++(cM ds.length 3).map V.int))=H6 at g6 e6
 have gs6:=gs4.trans (g5.trans g6)
 have np6:H p6=none:=(gs4.trans g5).none hp6
 refine⟨⟨_,gs6.seq hS⟩,eO (xs:=ds.map V.int) (fun i σ H'=>(∃x,σ= [some (.int m),some (.ref a),some (.ref p6),x])/\Same H H'/\H' p6=some (.lst ((hdD (m:Int) ds.length (ds.take i)).map V.int))) ⟨⟨_,rfl⟩,gs6,e6⟩ (fun i σ H' _ z=>z.2.1.seq hS) ?_ ?_⟩
 ·rintro i x σ H' hx ⟨⟨y,rfl⟩,g,e⟩
  obtain⟨hi,rfl⟩:=lV hx
  obtain⟨d,ed,hd256⟩:=a1L (a8T hf.2.2 hi)
  have hlen:=a0Z (m:Int) ds.length (ds.take i)
  rw[Yx]at hlen
  refine⟨⟨_,e⟩,d,8,by rw[ed];rfl,by show d<2 ^ 8;omega,by decide,fun p7 hp7=>?_⟩
  have g7:=aK hp7 (.lst ((cM d 8).map V.int))
  refine⟨_,_,g7 _ _ e,aB,(by rw[Ya,Ya,cP,hlen];exact small (by omega)),⟨_,rfl⟩,(g.trans g7).put np6,?_⟩
  have eb:b8 ds[i]=cM d 8:=by rw[ed];rfl
  rw[aB,Yh hi,a7S,eb,Yk]
 rintro σ H7 ⟨⟨y,rfl⟩,g7,e7⟩
 rw[Ya,Ys (Yf _)]at e7
 have hlen:=zJ (m:Int) ds
 refine⟨p6,hd (m:Int) ds,rfl,Vb e7,uN _ _,by omega,fun p8 H8 hp8 g8 e8=>?_⟩
 refine⟨_,_,g8 _ _ e7,e8,(by rw[Ya,Ya,a8M];show (hd (m:Int) ds).length+15<=sizeLine;exact small (by omega)),fun p9 hp9=>?_⟩
 have g9:=aK hp9 (.lst ((hd (m:Int) ds).map V.int++(ck (hd (m:Int) ds)).map V.int))
 refine q1 hf p9 _ ((g7.trans g8).none hp9) (g7.trans (g8.trans g9)) ?_
 rw[aB]
 unfold fb
 rw[Yk]
 rfl
variable (Zds:FB P w K mg base (CX0) 6 "wire_of" Zij ZlC ["name","data"] (a4O K ZdY))
include ZaP ZV ZC ZdX ZbT in
theorem Zop (F0:GFm K mg "wire_of" ZlH Zij ZlC):type_of% Zds:=by
 refine fbK ["name","data"] F0 fun H Q nd hr h=>?_
 obtain⟨n,a,ds,rfl,hS,hl,q1,q2⟩:=h
 refine⟨_,(aF (aN (aQ ZdX.1 hr.mo rfl ZdX.2.2.2 ZdX.2.2.1 ZdX.2.1 .nil aM (aA (aQ ZbT.1 hr.mo rfl ZbT.2.2.2 ZbT.2.2.1 ZbT.2.1 .nil aM (aA (dv 0) (aA (dv 1) aC))) aC)))),?_⟩
 refine⟨n,a,ds,rfl,hS,hl,fun hf p H1 hp g1 e1=>?_,q2⟩
 have:=uQ n ds
 have:=hf.2.1
 exact⟨p,fb n ds,rfl,Vb e1,by omega,fun p2 H2 hp2 g2 e2=>q1 hf p2 H2 (g1.none hp2) (g1.trans g2) e2⟩
variable (ZaE:FB P w K mg base (CX0) 2 "told_size" ZgF Zjz ["bits"] (b3Q K))
include Zd1 ZbY ZE in
theorem Znn (F0:GFm K mg "told_size" ZjV ZgF Zjz):type_of% ZaE:=by
 refine fbK ["bits"] F0 fun H Q nd hr h=>?_
 obtain⟨a,bs,rfl,hS,hb,h12,hl,q⟩:=h
 refine⟨_,(aF (aN (aQ ZE.1 hr.mo rfl ZE.2.2.2 ZE.2.2.1 ZE.2.1 .nil aM (aA (mV a0D (dv 0) (jX (bC (v:= .int 9) rfl Zd1 ⟨_,rfl⟩)) (jX (bC (v:= .int 12) rfl ZbY ⟨_,rfl⟩))) aC)))),?_⟩
 refine⟨_,hS,fun p hp=>?_⟩
 have ec:pH (bs.map V.int) (some (9:Int)) (some (12:Int))=((bs.drop 9).take 3).map V.int:=zN rfl rfl (by omega)
 rw[ec]
 refine⟨p,_,rfl,Vb aB,lF hb 9 3,?_,q _ (aK hp _)⟩
 rw[Yx];omega
variable (Zak:FB P w K mg base (CX0) 3 "is_complete" ZfK ZhM ["bits"] (b7J K))
include ZbX Zbc ZbY ZL ZaE in
theorem Zlv (F0:GFm K mg "is_complete" Zic ZfK ZhM):type_of% Zak:=by
 refine fbK ["bits"] F0 fun H Q nd hr h=>?_
 obtain⟨a,bs,rfl,hS,hb,hl,q1,q2⟩:=h
 refine⟨_,(aF (aN (uE (dG xX (bG fZ rfl ZL dM (aA (dv 0) aC)) (bC (v:= .int 12) rfl ZbY ⟨_,rfl⟩) (aV _)) (yV (dG fW (bG fZ rfl ZL dM (aA (dv 0) aC)) (aZ dN (aZ dN (bC (v:= .int 12) rfl ZbY ⟨_,rfl⟩) (aZ oU (bC (v:= .int 8) rfl Zbc ⟨_,rfl⟩) (aQ ZaE.1 hr.mo rfl ZaE.2.2.2 ZaE.2.2.1 ZaE.2.1 .nil aM (aA (dv 0) aC)))) (bC (v:= .int 15) rfl ZbX ⟨_,rfl⟩)) (aV _)))))),?_⟩
 refine⟨_,.inl hS,?_⟩
 rw[Ya]
 conv=>whnf
 refine cC (fun c=>?_) (fun c=>?_)
 ·have c1:(12:Int)<=((bs.length:Nat):Int):=dec_true c
  refine⟨_,.inl hS,?_⟩
  rw[Ya]
  refine⟨a,bs,rfl,hS,hb,by omega,hl,fun H1 g1=>?_⟩
  have:=a4L hb
  refine⟨⟨by decide,kW (by omega) (by omega)⟩,?_⟩
  by_cases z:lK bs
  ·have e:decide (((bs.length:Nat):Int)=12+8*((szB bs:Nat):Int)+15)=true:=Yp (by have:=z.2;omega)
   show Q (.bl (decide (((bs.length:Nat):Int)=12+8*((szB bs:Nat):Int)+15))) H1
   rw[e];exact q1 z _ g1
  ·have e:decide (((bs.length:Nat):Int)=12+8*((szB bs:Nat):Int)+15)=false:=Yr (fun y=>z ⟨by omega,by omega⟩)
   show Q (.bl (decide (((bs.length:Nat):Int)=12+8*((szB bs:Nat):Int)+15))) H1
   rw[e];exact q2 z _ g1
 ·have c1:¬ (12:Int)<=((bs.length:Nat):Int):=dec_false c
  exact q2 (fun z=>by have:=z.1;omega) _ (Vd _)
variable (ZbU:FB P w K mg base (CX0) 4 "read_frame" ZfY ZiD ["bits"] (b3S K ZdY))
include ZV ZC Zbc Zd1 ZbY ZD ZE Zam ZaE Zak in
theorem Zmr (F0:GFm K mg "read_frame" Zi0 ZfY ZiD):type_of% ZbU:=by
 refine fbK ["bits","starts"] F0 fun H Q nd hr h=>?_
 obtain⟨a,bs,rfl,hS,hb,hl,q1,q2⟩:=h
 refine⟨_,(aD (bM (dY (bV (aQ Zak.1 hr.mo rfl Zak.2.2.2 Zak.2.2.1 Zak.2.1 .nil aM (aA (dv 0) aC)))) (aF fX) aU) (aD (bM (bA rH (bH cT (dv 0) aG (fun _ _=>rfl)) aG (aV _)) (aF fX) aU) (aD (bM (bA rH (aQ Zam.1 hr.mo rfl Zam.2.2.2 Zam.2.2.1 Zam.2.1 .nil aM (aA (dv 0) aC)) aG (aV _)) (aF fX) aU) (aD (iB (j:=1) nd rfl rfl rfl (ix:=[]) (cO rfl ZD (aA (aQ ZaE.1 hr.mo rfl ZaE.2.2.2 ZaE.2.2.1 ZaE.2.1 .nil aM (aA (dv 0) aC)) aC)) (fun C fp s0 H0 at0=>eV) (fun C fp s0 H0 at0=>(aZ dN (bC (v:= .int 12) rfl ZbY ⟨_,rfl⟩) (aZ oU (bC (v:= .int 8) rfl Zbc ⟨_,rfl⟩) (dv 0)))) rfl rfl (by rfl) (show ([".0","number"]:List Str).Nodup by decide +kernel)) (aF (aN (bN (aA (aQ ZE.1 hr.mo rfl ZE.2.2.2 ZE.2.2.1 ZE.2.1 .nil aM (aA (mV a0D (dv 0) (jX aG) (jX (bC (v:= .int 9) rfl Zd1 ⟨_,rfl⟩))) aC)) (aA (iM rfl (ix:=[0]) (cY (dv 1)) (fun C fp s0 H0 at0=>eV) (fun C fp s0 H0 at0=>(aQ ZE.1 hr.mo rfl ZE.2.2.2 ZE.2.2.1 ZE.2.1 .nil aM (aA (mV (b3B (K:=K)) (dv 1) (jX (dv 0)) (jX (aZ dN (dv 0) (bC (v:= .int 8) rfl Zbc ⟨_,rfl⟩)))) aC))) rfl rfl (by rfl) (show ([".0","start","bits"]:List Str).Nodup by decide +kernel)) aC))))))))),?_⟩
 refine⟨a,bs,rfl,hS,hb,hl,fun hc H1 g1=>?_,fun hc H1 g1=>(q2 (fun z=>hc z.1) _ g1)⟩
 have h12:=hc.1
 have e0:atI (bs.map V.int) (0:Int)=some (.int (bs.getD 0 0)):=by rw[<-c0T (by omega)];exact vA (i:=0) (by omega)
 refine⟨_,_,g1.seq hS,e0,?_⟩
 conv=>whnf
 refine cC (fun c=>?_) (fun c=>?_)
 ·refine(q2 (fun z=>?_) _ g1)
  have:(!decide (bs.getD 0 0=0))=true:=c
  rw[Yp z.2.1]at this;cases this
 have c1:bs.getD 0 0=0:=YE fun y=>c (by
  show (!decide (bs.getD 0 0=0))=true
  rw[Yr y];rfl)
 refine⟨a,bs,rfl,g1.seq hS,hb,hl,fun H2 g2=>?_⟩
 conv=>whnf
 refine cC (fun z=>?_) (fun z=>?_)
 ·refine(q2 (fun y=>?_) _ (g1.trans g2))
  have:(!decide (((rst bs:Nat):Int)=0))=true:=z
  rw[Yp (by have:=y.2.2;omega)]at this;cases this
 have z1:rst bs=0:=YE fun y=>z (by
  show (!decide (((rst bs:Nat):Int)=0))=true
  rw[Yr (by omega)];rfl)
 have ok:zV bs:=⟨hc,c1,z1⟩
 have gs2:=g1.trans g2
 have s8:=a4L hb
 refine⟨a,bs,rfl,gs2.seq hS,hb,h12,hl,fun H3 g3=>?_⟩
 have gs3:=gs2.trans g3
 have em:((szB bs:Nat):Int).toNat=szB bs:=YR _
 refine⟨⟨by omega,by omega⟩,gO (fun i ys H'=>ys=((List.range i).map fun k=>V.int (12+8*((k:Nat):Int)))/\H'=H3) ?_ ⟨rfl,rfl⟩ ?_ ?_⟩
 ·rintro i ys H' hi ⟨rfl,_⟩
  refine bI ?_
  rw[Ya,YK];omega
 ·rintro i ys H' hi ⟨rfl,rfl⟩
  rw[em]at hi
  refine⟨⟨by decide,kW (by omega) (by omega)⟩,?_,rfl⟩
  rw[Xr,Yk]
  show _++[V.int (12+8*(0+(i:Int)))]=_++[V.int (12+8*((i:Nat):Int))]
  rw[Y8]
 rintro ys H4 ⟨rfl,rfl⟩ ps hps
 rw[em]
 generalize eU:upd H4 ps _=H5
 have g4:=nS hps eU
 have e4:=nE eU
 clear eU
 have gs5:=gs3.trans g4
 refine⟨_,gs5.seq hS,fun p6 hp6=>?_⟩
 have ec:pH (bs.map V.int) (some (1:Int)) (some (9:Int))=((bs.drop 1).take 8).map V.int:=zN rfl rfl (by omega)
 rw[ec]
 generalize eU:upd H5 p6 _=H6
 have g6:=nS hp6 eU
 have e6:=nE eU
 clear eU
 refine⟨p6,_,rfl,Vb e6,lF hb 1 8,(by rw[Yx];omega),?_⟩
 have gs6:=gs5.trans g6
 have e46:=g6 _ _ e4
 refine⟨⟨_,Vb e46⟩,gQ (xs:=(List.range (szB bs)).map fun k=>V.int (12+8*((k:Nat):Int))) (fun i ys H'=>ys=((daB bs).take i).map V.int/\Same H6 H') ?_ ⟨rfl,Vd _⟩ (fun i ys H' _ z=>Vb (z.2 _ _ e46)) ?_ ?_⟩
 ·rintro i ys H' hi ⟨rfl,_⟩
  refine bI ?_
  rw[Ya,Yx]
  rw[Ya,YK]at hi
  omega
 ·rintro i x ys H' hx ⟨rfl,g⟩
  have hi:i<szB bs:=by
   have:=(Yd.mp hx).1
   rwa [Ya,YK]at this
  have ex:x=V.int (12+8*((i:Nat):Int)):=by
   rw[Yl,XW hi]at hx
   exact(Yo hx).symm
  subst ex
  have hc2:=hc.2
  refine⟨_,(gs6.trans g).seq hS,fun p7 hp7=>?_⟩
  have ec2:pH (bs.map V.int) (some ((12:Int)+8*((i:Nat):Int))) (some ((12:Int)+8*((i:Nat):Int)+8))=((bs.drop (12+8*i)).take 8).map V.int:=zN (by omega) (by omega) (by omega)
  rw[ec2]
  refine⟨p7,_,rfl,Vb aB,lF hb _ 8,(by rw[Yx];omega),?_,g.trans (aK hp7 _)⟩
  rw[a8E hi,Yk]
  rfl
 rintro ys H7 ⟨rfl,g7⟩ p8 hp8
 have e8:upd H7 p8 (.lst (((daB bs).take ((List.range (szB bs)).map fun k=>V.int (12+8*((k:Nat):Int))).length).map V.int)) p8=some (.lst ((daB bs).map V.int)):=by
  rw[aB,Ya,YK,Ys (by rw[a1J];exact Yf _)]
 have g8:=aK hp8 (.lst (((daB bs).take ((List.range (szB bs)).map fun k=>V.int (12+8*((k:Nat):Int))).length).map V.int))
 generalize upd H7 p8 _=H8 at e8 g8
 refine⟨aL rfl,fun t ht=>?_⟩
 have g9:=aK ht (.tup [.int ((nm ((bs.drop 1).take 8):Nat):Int),.ref p8])
 exact q1 ok t p8 _ ((gs6.trans g7).none hp8) (gs6.trans (g7.trans (g8.trans g9))) (g9 _ _ e8) aB
variable (ZcX:MB P w K mg base (CX0) 3 ZeD ZhA ["self"] (a5F CA.reader CA.streak))
include ZeP ZbI Zh ZG Zt ZQ ZaU in
theorem Zlj (F0:Fun K "__init__" "Reader.__init__" Zh0 ZeD ZhA):type_of% ZcX:=by
 refine mbK ["self"] F0 fun H Q nd hr h=>?_
 obtain⟨a,dx,rfl,ha,q⟩:=h
 refine⟨_,(aD (bW Zh ZG (dv 0) (mW ZbI ZaU.1 hr.mo rfl ZeP ZaU.2 .nil aM)) (aD (bW Zh Zt (dv 0) (cB aC)) (aF (bW Zh ZQ (dv 0) bF)))),?_⟩
 refine fun st ds hst hds hne=>⟨st,ds,rfl,aB,fun H2 eH=>⟨rfl,?_⟩⟩
 have g1:Same H H2:=by rw[eH];exact bO hst hds
 have s2:jO CA.streak H2 st (sk []):=⟨ds,by rw[eH];exact aB⟩
 clear eH
 refine⟨dx, [],g1 _ _ ha,by decide,?_⟩
 have nas:a≠st:=fun z=>by rw[z,hst]at ha;cases ha
 refine⟨aL rfl,fun ks hks=>?_⟩
 have nak:a≠ks:=fun z=>by rw[z]at hks;rw[aB]at hks;cases hks
 have hks2:H2 ks=none:=by rw[aH (Va nak)]at hks;exact hks
 have nsk:st≠ks:=fun z=>by
  obtain⟨d,e⟩:=s2
  rw[z,hks2]at e;cases e
 refine⟨dx, [("streak",.ref st)],(by rw[aH nak,aB];rfl),(show 1<1000 by decide),?_⟩
 refine⟨dx,_,aB,(show 2<1000 by decide),?_⟩
 refine q _ st ks ⟨⟨dx,aB⟩,?_,?_⟩ hst (g1.none hks2) ?_
 ·refine s2.at_ ?_
  rw[aH (Va nas),aH (Va nas),aH nsk,aH (Va nas)]
 ·rw[aH (Va nak),aH (Va nak),aB]
  rfl
 ·intro x o hx e
  have hxk:x≠ks:=fun z=>by rw[z,g1.none hks2]at e;cases e
  rw[aH hx,aH hx,aH hxk,aH hx]
  exact g1 _ _ e
variable (Zb4:MB P w K mg base (CX0) 4 ZdV Zgn ["self"] (yJ CA.reader CA.streak))
include ZV Zm Zh ZJ Za1 ZG Zt ZT ZaY Zam Zak in
theorem Zka (F0:Fun K "judged" "Reader.judged" Zgw ZdV Zgn):type_of% Zb4:=by
 refine mbK ["self"] F0 fun H Q nd hr h=>?_
 obtain⟨r,st,ks,w,t,rfl,hR,hb,hl,q⟩:=h
 refine⟨_,(aD (bM (bV (bD Zm Za1 ZaY.1 hr.mo ZaY.2 .nil aM (aP Zh ZG (dv 0)))) (aF (aN bF)) aU) (aD (bM (PW.pt (iK (bV (bD Zm ZJ ZT.1 hr.mo ZT.2 .nil aM (aP Zh ZG (dv 0)))) (jT (dY (bV (aQ Zak.1 hr.mo rfl Zak.2.2.2 Zak.2.2.1 Zak.2.1 .nil aM (aA (aP Zh Zt (dv 0)) aC))))))) (aF (aN bF)) aU) (aF (aN (cD (dC (bA fW (aQ Zam.1 hr.mo rfl Zam.2.2.2 Zam.2.2.1 Zam.2.1 .nil aM (aA (aP Zh Zt (dv 0)) aC)) aG (aV _)) bF bF)))))),?_⟩
 obtain⟨dx,er⟩:=hR.rd
 have hs:=hR.sk
 obtain⟨ds,es⟩:=id hs
 refine⟨dx,_,.ref st,er,rfl,⟨ds,_,es,rfl⟩,st,sk w,rfl,hs,?_⟩
 conv=>whnf
 refine cC (fun c=>?_) (fun c=>?_)
 ·have c1:5<run w:=dec_true c
  have:=q H (Vd _)
  rw[pR c1]at this
  exact this
 have c1:¬ 5<run w:=dec_false c
 refine⟨dx,_,.ref st,er,rfl,⟨ds,_,es,rfl⟩,st,sk w,rfl,hs,?_⟩
 conv=>whnf
 refine cC (fun z=>?_) (fun z=>?_)
 ·have z1:run w=5:=dec_true z
  have:=q H (Vd _)
  rw[lG c1 (.inl z1)]at this
  exact this
 have z1:¬ run w=5:=dec_false z
 have kb:=uG hb
 have kl:=zF w
 refine⟨dx,_,.ref ks,er,rfl,ks,kp w,rfl,Vb hR.kp,kb,by omega,fun hc H1 g1=>?_,fun hc H1 g1=>?_⟩
 ·have hc2:¬ (run w=5\/¬ lK (kp w)):=fun y=>y.elim z1 fun x=>x hc
  refine⟨fun x H'=>x= .str (ans w)/\Same H H',?_,?_⟩
  ·refine⟨dx,_,.ref ks,g1 _ _ er,rfl,ks,kp w,rfl,Vb (g1 _ _ hR.kp),kb,by omega,fun H2 g2=>?_⟩
   conv=>whnf
   refine cC (fun y=>?_) (fun y=>?_)
   ·have y1:((rst (kp w):Nat):Int)=0:=dec_true y
    rw[tO c1 hc2 (by omega)]
    exact⟨rfl,g1.trans g2⟩
   ·have y1:¬ ((rst (kp w):Nat):Int)=0:=dec_false y
    rw[vG c1 hc2 (by omega)]
    exact⟨rfl,g1.trans g2⟩
  ·rintro x H2 ⟨rfl,g2⟩
   exact q _ g2
 ·have:=q H1 g1
  rw[lG c1 (.inr hc)]at this
  exact this
variable (Zaj:MB P w K mg base (CX0) 5 ZeC Zhz ["self","bit"] (a5G CA.reader CA.streak))
include ZV Zm Zh Z2 ZJ ZbA ZG Zt ZQ Z3 ZT Zb4 in
theorem Zli (F0:Fun K "hear" "Reader.hear" ZhZ ZeC Zhz):type_of% Zaj:=by
 refine mbK ["self","bit","is_put_in"] F0 fun H Q nd hr h=>?_
 obtain⟨r,st,ks,w,t,b,rfl,hR,hb,hl,q⟩:=h
 refine⟨_,(aD (aX (i:=2) nd rfl (Or.inl rfl) (bD Zm ZJ ZT.1 hr.mo ZT.2 .nil aM (aP Zh ZG (dv 0)))) (aD (aW (bB Zm Z2 Z3.1 hr.mo Z3.2 .nil aM (aP Zh ZG (dv 0)) (aA (dv 1) aC))) (aD (qJ (bM (dY (bV (dv 2))) (aF (aW (bR (aP Zh Zt (dv 0)) (aA (dv 1) aC)))) aU)) (aD (bW Zh ZQ (dv 0) (bD Zh ZbA Zb4.1 hr.mo Zb4.2 .nil aM (dv 0))) (aF (aN (aP Zh ZQ (dv 0)))))))),?_⟩
 obtain⟨dx,er⟩:=hR.rd
 have hs:=hR.sk
 obtain⟨ds,es⟩:=id hs
 refine⟨dx,_,.ref st,er,rfl,⟨ds,_,es,rfl⟩,st,sk w,rfl,hs,?_⟩
 refine⟨dx,_,.ref st,er,rfl,⟨ds,_,es,rfl⟩,st,sk w,b,rfl,hs,fun H2 s2 k2=>?_⟩
 rw[<-lM]at s2
 have er2:=(k2 r hR.ne1).trans er
 have ek2:=(k2 ks hR.ne3).trans hR.kp
 have kl:=zF w
 refine⟨fun σ' H'=>σ'= [some (.ref r),some (.int b),some (.bl (decide (run w=5)))]/\iU CA.reader CA.streak H' r st ks (w++[b]) t/\b1Y H H' r st ks,?_,?_⟩
 ·conv =>whnf
  refine cC (fun c=>?_) (fun c=>?_)
  ·have c1:¬ run w=5:=fun y=>by
    have:(!decide (run w=5))=true:=c
    rw[Yp y]at this;cases this
   refine⟨dx,_,.ref ks,er2,rfl,⟨_,Vb ek2⟩,_,ek2,bI (by rw[Ya];omega),rfl,⟨⟨dx,(by rw[aH hR.ne2];exact er2)⟩,s2.set ek2,?_⟩,?_⟩
   ·rw[aB,gR,if_neg c1,Yk];rfl
   ·intro x o h1 h2 h3 e
    rw[aH h3,k2 x h2]
    exact e
  ·have c1:run w=5:=YE fun y=>c (by
    show (!decide (run w=5))=true
    rw[Yr y];rfl)
   refine⟨rfl,⟨⟨dx,er2⟩,s2,?_⟩,?_⟩
   ·rw[gR,if_pos c1];exact ek2
   ·intro x o h1 h2 h3 e
    rw[k2 x h2]
    exact e
 rintro σ' H3 ⟨rfl,hR3,b3⟩
 have h450:(w++[b]).length<=450:=by rw[Yc,YG];omega
 obtain⟨dy,er3⟩:=hR3.rd
 refine⟨⟨dy,_,er3,rfl⟩,r,st,ks,w++[b],t,rfl,hR3,hb,h450,fun H4 g4=>?_⟩
 have hR4:=hR3.same g4
 obtain⟨dz,er4⟩:=hR4.rd
 refine⟨dz,_,er4,(show 3<1000 by decide),?_⟩
 have hR5:iU CA.reader CA.streak (upd H4 r (.ins CA.reader dz (rdF st ks (ans (w++[b]))))) r st ks (w++[b]) (ans (w++[b])):=⟨⟨dz,aB⟩,hR4.sk.at_ (aH (Va hR4.ne1)),by rw[aH (Va hR4.ne2)];exact hR4.kp⟩
 have b5:b1Y H (upd H4 r (.ins CA.reader dz (rdF st ks (ans (w++[b]))))) r st ks:=fun x o h1 h2 h3 e=>by
  rw[aH h1]
  exact g4 _ _ (b3 x o h1 h2 h3 e)
 exact⟨dz,_,.str (ans (w++[b])),aB,rfl,q _ hR5 b5⟩
variable (ZcD:MB P w K mg base (CX0) 1 Zed ZgN ["self"] (a2E CA.reader CA.streak))
include ZK Zh Zt in
theorem ZkB (F0:Fun K "plain" "Reader.plain" Zg4 Zed ZgN):type_of% ZcD:=by
 refine mbK ["self"] F0 fun H Q nd hr h=>?_
 obtain⟨r,st,ks,w,t,rfl,hR,q⟩:=h
 refine⟨_,(aF (aN (cH dF rfl ZK eN (aA (aP Zh Zt (dv 0)) aC)))),?_⟩
 obtain⟨dx,er⟩:=hR.rd
 exact⟨dx,_,.ref ks,er,rfl,_,.inl (Vb hR.kp),fun p hp=>q p _ hp (aK hp _) aB⟩
variable (ZcC:MB P w K mg base (CX0) 5 Zec ZgM ["self"] (a2F CA.reader CA.streak))
include ZV ZC Zh Zt ZQ ZbU in
theorem ZkA (F0:Fun K "frame" "Reader.frame" Zg3 Zec ZgM):type_of% ZcC:=by
 refine mbK ["self"] F0 fun H Q nd hr h=>?_
 obtain⟨r,st,ks,w,rfl,hR,hb,hl,h0,q1,q2⟩:=h
 refine⟨_,(aF (aN (cD (dC (bA fW (aP Zh ZQ (dv 0)) bF (aV _)) (aQ ZbU.1 hr.mo rfl ZbU.2.2.2 ZbU.2.2.1 ZbU.2.1 .nil aM (aA (aP Zh Zt (dv 0)) aC)) oF)))),?_⟩
 obtain⟨dx,er⟩:=hR.rd
 have kb:=uG hb
 have kl:=zF w
 refine⟨fun x H'=>Q x H',?_,fun x H' z=>z⟩
 refine⟨dx,_,.str (ans w),er,rfl,?_⟩
 conv=>whnf
 refine cC (fun c=>?_) (fun c=>?_)
 ·have c1:ans w="whole":=YL c
  have c2:=vD c1
  have ok:zV (kp w):=⟨c2.1,h0 c1,c2.2⟩
  refine⟨dx,_,.ref ks,er,rfl,ks,kp w,rfl,Vb hR.kp,kb,by omega,fun _ t p H' hp g e1 e2=>q1 c1 ok t p H' hp g e1 e2,fun no=>absurd ok no⟩
 ·exact q2 fun z=>c (Yp z)
variable (Zbn:MB P w K mg base (CX0) 1 Zfw Zjr ["self","votes","spoke"] (a4S K CA.rtail CA.stail))
include Zj Zi in
theorem Znf (F0:Fun K "__init__" "Tail.__init__" ZjN Zfw Zjr):type_of% Zbn:=by
 refine mbK ["self","votes","spoke"] F0 fun H Q nd hr h=>?_
 obtain⟨t,C,dx,v,s,rfl,hC,e,q⟩:=h
 refine⟨_,(aD (lN (dv 0) (dv 1)) (aD (lN (dv 0) (dv 2)) (aD (lN (dv 0) aG) (aF (lN (dv 0) aG))))),?_⟩
 have hc:=jK Zj Zi hC
 refine⟨C,dx,_,e,hc.cls,hc.n1,by decide,?_⟩
 refine⟨C,dx,_,aB,hc.cls,hc.n2,(show 1<1000 by decide),?_⟩
 refine⟨C,dx,_,aB,hc.cls,hc.n3,(show 2<1000 by decide),?_⟩
 refine⟨C,dx,_,aB,hc.cls,hc.n4,(show 3<1000 by decide),?_⟩
 have eu:∀(H:Hp)(a:Addr)(x y:HO),upd (upd H a x) a y=upd H a y:=fun H a x y=>by
  funext z
  by_cases h:z=a
  ·rw[h,aB,aB]
  ·rw[aH h,aH h,aH h]
 rw[eu,eu,eu]
 exact q
variable (ZdL:MB P w K mg base (CX0) 1 Zeo Zjs ["self"] (a4R CA.rtail CA.stail))
include Zdc Zj Zi in
theorem Zng (F0:Fun K "says" "Tail.says" ZjO Zeo Zjs):type_of% ZdL:=by
 refine mbK ["self"] F0 fun H Q nd hr h=>?_
 obtain⟨t,v,s,o,n,rfl,⟨C,dx,hC,e⟩,q⟩:=h
 refine⟨_,(aF (aN (cD (dC (PW.pt (qI (bA fW (fH (dv 0)) (bC (v:= .int 1) rfl Zdc ⟨_,rfl⟩) (aV _)) (pL (dY (bV (fH (dv 0))))))) aG aG)))),?_⟩
 have hc:=jK Zj Zi hC
 refine⟨fun x H'=>x= .int (iV s o)/\H'=H,?_,?_⟩
 ·refine⟨C,dx,_,_,e,hc.cls,hc.n3,rfl,?_⟩
  conv=>whnf
  refine cC (fun c=>?_) (fun c=>zG ?_)
  ·have c1:((o:Nat):Int)=1:=dec_true c
   refine⟨C,dx,_,_,e,hc.cls,hc.n2,rfl,?_⟩
   cases s
   ·refine⟨?_,rfl⟩
    unfold iV
    rw[if_pos ⟨by omega,rfl⟩]
   ·refine⟨?_,rfl⟩
    unfold iV
    rw[if_neg fun z=>nomatch z.2]
  ·have c1:¬ ((o:Nat):Int)=1:=dec_false c
   refine⟨?_,rfl⟩
   unfold iV
   rw[if_neg fun z=>c1 (by omega)]
 rintro x H' ⟨rfl,rfl⟩
 exact q
variable (Zdo:MB P w K mg base (CX0) 1 ZdZ Ziy ["self"] (a1Z CA.rtail CA.stail))
include Zj Zi in
theorem Zmm (F0:Fun K "place" "Tail.place" ZiV ZdZ Ziy):type_of% Zdo:=by
 refine mbK ["self"] F0 fun H Q nd hr h=>?_
 obtain⟨t,v,s,o,n,rfl,⟨C,dx,hC,e⟩,q⟩:=h
 refine⟨_,(aF (aN (fH (dv 0)))),?_⟩
 have hc:=jK Zj Zi hC
 exact⟨C,dx,_,_,e,hc.cls,hc.n3,rfl,q⟩
variable (Zb6:MB P w K mg base (CX0) 1 Zc6 Zgp ["self","at","bit"] (a2B CA.rtail CA.stail))
include Zdc Zj Zi in
theorem Zkc (F0:Fun K "is_fault" "Tail.is_fault" Zgy Zc6 Zgp):type_of% Zb6:=by
 refine mbK ["self","at","bit"] F0 fun H Q nd hr h=>?_
 obtain⟨t,v,s,o,n,a,b,rfl,⟨C,dx,hC,e⟩,q⟩:=h
 refine⟨_,(aD (bM (bA fW (dv 1) (bC (v:= .int 1) rfl Zdc ⟨_,rfl⟩) (aV _)) (aF (aN (uE (fH (dv 0)) (yV (dG fW (dv 2) aG (aV _)))))) aU) (aF (aN (dG fW (dv 2) aG (aV _))))),?_⟩
 have hc:=jK Zj Zi hC
 conv=>whnf
 refine cC (fun c=>?_) (fun c=>?_)
 ·have c1:((a:Nat):Int)=1:=dec_true c
  have ef:jQ s a b=(s && decide (b=1)):=if_pos (by omega)
  rw[ef]at q
  refine⟨C,dx,_,_,e,hc.cls,hc.n2,rfl,?_⟩
  cases s
  ·exact q
  ·exact q
 ·have c1:¬ ((a:Nat):Int)=1:=dec_false c
  have ef:jQ s a b=decide (b=0):=if_neg (by omega)
  rw[ef]at q
  exact q
variable (Zbf:MB P w K mg base (CX0) 1 ZbW ZfD ["self","bit"] (a2A CA.rtail CA.stail))
include ZdB Zj Zi in
theorem Zid (F0:Fun K "judged_vote" "Tail.judged_vote" ZfE ZbW ZfD):type_of% Zbf:=by
 refine mbK ["self","bit"] F0 fun H Q nd hr h=>?_
 obtain⟨t,v,s,o,n,b,rfl,⟨C,dx,hC,e⟩,q⟩:=h
 refine⟨_,(aD (qJ (bM (bA fW (dv 1) aG (aV _)) (aF (lN (dv 0) (aZ dN (fH (dv 0)) aG))) aU)) (aD (bM (bA a1S (fH (dv 0)) (aZ dN (bC (v:= .int 9) rfl ZdB ⟨_,rfl⟩) (fH (dv 0))) (aV _)) (aF (aN bF)) aU) (aF (aN (cD (dC (bA a4A (fH (dv 0)) (aZ xY (fH (dv 0)) aG) (aV _)) bF bF)))))),?_⟩
 have hc:=jK Zj Zi hC
 refine⟨fun σ' H'=>σ'= [some (.ref t),some (.int b)]/\H' t=some (.ins C dx (tlF v s o (if b=0 then n+1 else n)))/\a8W H H' t,?_,?_⟩
 ·conv=>whnf
  refine cC (fun c=>?_) (fun c=>?_)
  ·have c1:b=0:=dec_true c
   refine⟨C,dx,_,_,e,hc.cls,hc.n4,rfl,C,dx,_,e,hc.cls,hc.n4,(show 4<1000 by decide),rfl,?_,fun x u hx ex=>by rw[aH hx];exact ex⟩
   rw[aB,if_pos c1]
   rfl
  ·have c1:¬ b=0:=dec_false c
   refine⟨rfl,?_,fun x u hx ex=>ex⟩
   rw[if_neg c1]
   exact e
 rintro σ' H' ⟨rfl,e',b'⟩
 have q':=q H' ⟨C,dx,hC,e'⟩ b'
 generalize (if b=0 then n+1 else n)=m at e' q'
 refine⟨C,dx,_,_,e',hc.cls,hc.n3,rfl,C,dx,_,_,e',hc.cls,hc.n1,rfl,?_⟩
 conv=>whnf
 refine cC (fun c=>?_) (fun c=>?_)
 ·have c1:((o:Nat):Int)<9+((v:Nat):Int):=dec_true c
  have ev:qD v o m="more":=if_pos (by omega)
  rw[ev]at q'
  exact q'
 have c1:¬ ((o:Nat):Int)<9+((v:Nat):Int):=dec_false c
 have ev:qD v o m=(if v / 2<m then ("refused":Str) else ("taken":Str)):=if_neg (by omega)
 rw[ev]at q'
 refine⟨fun x H2=>x= .str (if v / 2<m then ("refused":Str) else ("taken":Str))/\H2=H',?_,?_⟩
 ·refine⟨C,dx,_,_,e',hc.cls,hc.n4,rfl,C,dx,_,_,e',hc.cls,hc.n1,rfl,?_⟩
  refine⟨⟨by decide,by decide⟩,?_⟩
  conv=>whnf
  refine cC (fun z=>?_) (fun z=>?_)
  ·have z1:((v:Nat):Int) / 2<((m:Nat):Int):=dec_true z
   rw[if_pos (by omega)]
   exact⟨rfl,rfl⟩
  ·have z1:¬ ((v:Nat):Int) / 2<((m:Nat):Int):=dec_false z
   rw[if_neg (by omega)]
   exact⟨rfl,rfl⟩
 rintro x H2 ⟨rfl,rfl⟩
 exact q'
variable (ZdK:MB P w K mg base (CX0) 2 Zen Zjq ["self","bit"] (a4T CA.rtail CA.stail))
include ZdB Zj Zi Zbl Zbd Za2 ZaO Zb6 Zbf in
theorem Zne (F0:Fun K "hear" "Tail.hear" ZjM Zen Zjq):type_of% ZdK:=by
 refine mbK ["self","bit","at"] F0 fun H Q nd hr h=>?_
 obtain⟨t,v,s,o,n,b,rfl,⟨C,dx,hC,e⟩,q⟩:=h
 refine⟨_,(aD (aX (i:=2) nd rfl (Or.inl rfl) (fH (dv 0))) (aD (lN (dv 0) (aZ dN (dv 2) aG)) (aD (bM (bA xX (dv 2) (bC (v:= .int 9) rfl ZdB ⟨_,rfl⟩) (aV _)) (aF (aN (qQ Zbf.1 hr.mo Zbf.2 .nil aM (dv 0) (aA (dv 1) aC)))) aU) (aF (aN (cD (dC (bV (qQ Zb6.1 hr.mo Zb6.2 .nil aM (dv 0) (aA (dv 2) (aA (dv 1) aC)))) bF bF))))))),?_⟩
 have hc:=jK Zj Zi hC
 have hmj:=oZ Za2 ZaO hC
 have hmf:=oZ Zbl Zbd hC
 refine⟨C,dx,_,_,e,hc.cls,hc.n3,rfl,C,dx,_,e,hc.cls,hc.n3,(show 4<1000 by decide),?_⟩
 have e1:upd H t (.ins C dx (gH "over" (.int (((o:Nat):Int)+1)) (tlF v s o n))) t=some (.ins C dx (tlF v s (o+1) n)):=aB
 have b1:a8W H (upd H t (.ins C dx (gH "over" (.int (((o:Nat):Int)+1)) (tlF v s o n)))) t:=fun x u hx ex=>by rw[aH hx];exact ex
 generalize upd H t (.ins C dx (gH "over" (.int (((o:Nat):Int)+1)) (tlF v s o n)))=H1 at e1 b1
 conv=>whnf
 refine cC (fun c=>?_) (fun c=>?_)
 ·have c1:(9:Int)<=((o:Nat):Int):=dec_true c
  have c2:9<=o:=by omega
  refine⟨⟨C,dx,_,e1,hc.cls,hmj,rfl⟩,t,v,s,o+1,n,b,rfl,⟨C,dx,hC,e1⟩,fun H2 h2 b2=>?_⟩
  have en:tlN o b n=(if b=0 then n+1 else n):=by
   unfold tlN
   by_cases z:b=0
   ·rw[if_pos ⟨c2,z⟩,if_pos z]
   ·rw[if_neg fun y=>z y.2,if_neg z]
  have ew:fP v s o n b=qD v (o+1) (tlN o b n):=if_pos c2
  rw[<-en]at h2 ⊢
  have:=q H2 h2 fun x u hx ex=>b2 x u hx (b1 x u hx ex)
  rw[ew]at this
  exact this
 have c1:¬ (9:Int)<=((o:Nat):Int):=dec_false c
 have c2:¬ 9<=o:=by omega
 have en:tlN o b n=n:=if_neg fun z=>c2 z.1
 have ew:fP v s o n b=(if jQ s o b=true then ("fault":Str) else ("more":Str)):=if_neg c2
 rw[ew,en]at q
 have q':=q H1 ⟨C,dx,hC,e1⟩ b1
 refine⟨fun x H2=>x= .str (if jQ s o b=true then ("fault":Str) else ("more":Str))/\H2=H1,?_,?_⟩
 ·refine⟨⟨C,dx,_,e1,hc.cls,hmf,rfl⟩,t,v,s,o+1,n,o,b,rfl,⟨C,dx,hC,e1⟩,?_⟩
  generalize jQ s o b=f
  cases f
  ·exact⟨rfl,rfl⟩
  ·exact⟨rfl,rfl⟩
 rintro x H2 ⟨rfl,rfl⟩
 exact q'
variable (Zb3:MB P w K mg base (CX0) 2 ZdU Zgm ["self","votes"] (vQ CA.rtail false))
include Zd2 Zaw Zbn in
theorem Zj9 (F0:Fun K "__init__" "ReadTail.__init__" Zgv ZdU Zgm):type_of% Zb3:=by
 refine mbK ["self","votes"] F0 fun H Q nd hr h=>?_
 obtain⟨t,dx,v,rfl,e,q⟩:=h
 refine⟨_,(aF (aW (wN Zaw Zbn.1 hr.mo Zbn.2 .nil aM (bC (v:= .ref Zem) rfl Zd2 rfl) (aA (dv 0) (aA (dv 1) (aA fQ aC)))))),?_⟩
 exact⟨rfl,t,CA.rtail,dx,v,false,rfl,.inl rfl,e,q _ rfl⟩
variable (ZbF:MB P w K mg base (CX0) 2 Zdx Zf5 ["self","votes"] (vQ CA.stail true))
include Zd2 Zaw Zbn in
theorem Zjc (F0:Fun K "__init__" "SpeakTail.__init__" Zge Zdx Zf5):type_of% ZbF:=by
 refine mbK ["self","votes"] F0 fun H Q nd hr h=>?_
 obtain⟨t,dx,v,rfl,e,q⟩:=h
 refine⟨_,(aF (aW (wN Zaw Zbn.1 hr.mo Zbn.2 .nil aM (bC (v:= .ref Zem) rfl Zd2 rfl) (aA (dv 0) (aA (dv 1) (aA fQ aC)))))),?_⟩
 exact⟨rfl,t,CA.stail,dx,v,true,rfl,.inr rfl,e,q _ rfl⟩
variable (Zdg:MB P w K mg base (CX0) 1 ZeR Zil ["self"] (a5L CA.count))
include Ze Zr in
theorem Zl9 (F0:Fun K "__init__" "Count.__init__" ZiI ZeR Zil):type_of% Zdg:=by
 refine mbK ["self"] F0 fun H Q nd hr h=>?_
 obtain⟨a,dx,rfl,ha,q⟩:=h
 refine⟨_,(aF (bW Ze Zr (dv 0) aG)),?_⟩
 exact⟨dx, [],ha,by decide,q⟩
variable (ZbC:MB P w K mg base (CX0) 1 Zdt Zf1 ["self"] (b2N CA.count 12))
include Zfc Ze Zr in
theorem Zi8 (F0:Fun K "is_quiet" "Count.is_quiet" Zga Zdt Zf1):type_of% ZbC:=by
 refine mbK ["self"] F0 fun H Q nd hr h=>?_
 obtain⟨a,n,rfl,⟨dx,ha⟩,q⟩:=h
 refine⟨_,(aF (aN (dG xX (aP Ze Zr (dv 0)) (bC (v:= .int 12) rfl Zfc ⟨_,rfl⟩) (aV _)))),?_⟩
 exact⟨dx,_,.int n,ha,rfl,q⟩
variable (ZaL:MB P w K mg base (CX0) 1 Zd7 ZgH ["self"] (b2N CA.count 18))
include ZfS Ze Zr in
theorem Zkv (F0:Fun K "is_off" "Count.is_off" ZgY Zd7 ZgH):type_of% ZaL:=by
 refine mbK ["self"] F0 fun H Q nd hr h=>?_
 obtain⟨a,n,rfl,⟨dx,ha⟩,q⟩:=h
 refine⟨_,(aF (aN (dG xX (aP Ze Zr (dv 0)) (bC (v:= .int 18) rfl ZfS ⟨_,rfl⟩) (aV _)))),?_⟩
 exact⟨dx,_,.int n,ha,rfl,q⟩
variable (Zcz:MB P w K mg base (CX0) 1 Zd8 ZgI ["self"] (b7I CA.count))
include Ze Zr in
theorem Zkw (F0:Fun K "number" "Count.number" ZgZ Zd8 ZgI):type_of% Zcz:=by
 refine mbK ["self"] F0 fun H Q nd hr h=>?_
 obtain⟨a,n,rfl,⟨dx,ha⟩,q⟩:=h
 refine⟨_,(aF (aN (aP Ze Zr (dv 0)))),?_⟩
 exact⟨dx,_,.int n,ha,rfl,q⟩
variable (Zap:MB P w K mg base (CX0) 2 ZeS Zim ["self","step"] (a5K CA.count))
include ZmA Ze Zat Zr ZaL in
theorem Zma (F0:Fun K "move" "Count.move" ZiJ ZeS Zim):type_of% Zap:=by
 refine mbK ["self","step"] F0 fun H Q nd hr h=>?_
 obtain⟨a,n,st,rfl,⟨dx,ha⟩,q⟩:=h
 refine⟨_,(aF (bM (dY (bV (bD Ze Zat ZaL.1 hr.mo ZaL.2 .nil aM (dv 0)))) (aF (bW Ze Zr (dv 0) (bG (b3C rfl) rfl ZmA b6A (aA aG (aA (aZ dN (aP Ze Zr (dv 0)) (dv 1)) aC))))) aU)),?_⟩
 refine⟨⟨dx,_,ha,rfl⟩,a,n,rfl,⟨dx,ha⟩,?_⟩
 conv=>whnf
 refine cC (fun c=>?_) (fun c=>?_)
 ·have c1:¬ (18:Int)<=n:=fun z=>by
   have:(!decide ((18:Int)<=n))=true:=c
   rw[Yp z]at this
   cases this
  refine⟨dx,_,.int n,ha,rfl,dx,_,ha,(show 1<1000 by decide),q _ ?_ fun b hb=>aH hb⟩
  refine⟨dx,?_⟩
  unfold mvd
  rw[if_neg c1]
  exact aB
 ·have c1:(18:Int)<=n:=YE fun z=>c (by
   show (!decide ((18:Int)<=n))=true
   rw[Yr z];rfl)
  refine q _ ?_ fun b hb=>rfl
  unfold mvd
  rw[if_pos c1]
  exact⟨dx,ha⟩
variable (ZaQ:MB P w K mg base (CX0) 3 Zer Zho ["self","spoke"] (a2I CA.count))
include Zcj ZeM Ze Z4 Zap in
theorem Zk7 (F0:Fun K "fault" "Count.fault" ZhO Zer Zho):type_of% ZaQ:=by
 refine mbK ["self","spoke"] F0 fun H Q nd hr h=>?_
 obtain⟨a,n,b,rfl,⟨dx,ha⟩,q⟩:=h
 refine⟨_,(aF (aW (bB Ze Z4 Zap.1 hr.mo Zap.2 .nil aM (dv 0) (aA (cD (dC (bV (dv 1)) (bC (v:= .int 8) rfl Zcj ⟨_,rfl⟩) (bC (v:= .int 1) rfl ZeM ⟨_,rfl⟩))) aC)))),?_⟩
 refine⟨⟨dx,_,ha,rfl⟩,fun x H'=>x= .int (if b=true then 8 else 1)/\H'=H,?_,?_⟩
 ·cases b with
  |true=>exact⟨rfl,rfl⟩
  |false=>exact⟨rfl,rfl⟩
 rintro x H' ⟨rfl,rfl⟩
 exact⟨a,n,_,rfl,⟨dx,ha⟩,q⟩
variable (ZcP:MB P w K mg base (CX0) 3 Zeq Zhn ["self"] (vU CA.count 8))
include Zcj Ze Z4 Zap in
theorem Zk6 (F0:Fun K "blame" "Count.blame" ZhN Zeq Zhn):type_of% ZcP:=by
 refine mbK ["self"] F0 fun H Q nd hr h=>?_
 obtain⟨a,n,rfl,⟨dx,ha⟩,q⟩:=h
 refine⟨_,(aF (aW (bB Ze Z4 Zap.1 hr.mo Zap.2 .nil aM (dv 0) (aA (bC (v:= .int 8) rfl Zcj ⟨_,rfl⟩) aC)))),?_⟩
 exact⟨⟨dx,_,ha,rfl⟩,a,n,8,rfl,⟨dx,ha⟩,q⟩
variable (Zdf:MB P w K mg base (CX0) 3 ZeQ Zik ["self"] (vU CA.count (-1)))
include Ze Z4 Zap in
theorem Zl8 (F0:Fun K "good" "Count.good" ZiH ZeQ Zik):type_of% Zdf:=by
 refine mbK ["self"] F0 fun H Q nd hr h=>?_
 obtain⟨a,n,rfl,⟨dx,ha⟩,q⟩:=h
 refine⟨_,(aF (aW (bB Ze Z4 Zap.1 hr.mo Zap.2 .nil aM (dv 0) (aA (b2R b2B aG) aC)))),?_⟩
 exact⟨⟨dx,_,ha,rfl⟩,a,n, -1,rfl,⟨dx,ha⟩,q⟩
variable (Zao:FB P w K mg base (CX0) 7 "begun_reader" Zfh ZgT [] (a9P CA))
include ZV ZC Zhl Zh Zei ZY ZcX Zaj in
theorem ZkH (F0:GFm K mg "begun_reader" Zha Zfh ZgT):type_of% Zao:=by
 refine fbK ["reader"] F0 fun H Q nd hr h=>?_
 obtain⟨rfl,q⟩:=h
 refine⟨_,(aD (aX (i:=0) nd rfl (Or.inl rfl) (mW Zei ZcX.1 hr.mo rfl Zhl ZcX.2 .nil aM)) (aD (aW (bB Zh ZY Zaj.1 hr.mo Zaj.2 .nil aM (dv 0) (aA aG aC))) (aF (aN (dv 0))))),?_⟩
 refine fun r dr hr0 hdr hne=>⟨r,dr,rfl,aB,fun H2 st ks hR hst hks k2=>⟨rfl,?_⟩⟩
 have s12:Same H H2:=fun x o e=>k2 x o (aJ e hr0) (by rw[aH (aJ e hr0),aH (aJ e hdr)];exact e)
 have nst:H st=none:=Same.none (fun x o e=>(by rw[aH (aJ e hr0),aH (aJ e hdr)];exact e):Same H _) hst
 have nks:H ks=none:=Same.none (fun x o e=>(by rw[aH (aJ e hr0),aH (aJ e hdr)];exact e):Same H _) hks
 obtain⟨dx,exr⟩:=hR.rd
 refine⟨⟨dx,_,exr,rfl⟩,r,st,ks, [],_,0,rfl,hR,(fun z hz=> .inl (Yj.mp hz)),by decide,fun H3 hR3 b3=>?_⟩
 exact q r st ks H3 _ hR3 (fun x o e=>b3 x o (aJ e hr0) (aJ e nst) (aJ e nks) (s12 x o e)) hr0 nst nks
variable (ZaA:MB P w K mg base (CX0) 1 Zfj Zje ["self","since"] (yN CA.free "since"))
include Zx ZO in
theorem Zm1 (F0:Fun K "__init__" "Free.__init__" ZjA Zfj Zje):type_of% ZaA:=by
 refine mbK ["self","since"] F0 fun H Q nd hr h=>?_
 obtain⟨a,dx,v,rfl,e,q⟩:=h
 refine⟨_,(aF (bW Zx ZO (dv 0) (dv 1))),?_⟩
 exact⟨dx, [],e,by decide,q _ rfl⟩
variable (ZaT:MB P w K mg base (CX0) 1 ZeG ZhD ["self","wire","reader","many"] (b3T CA.speaks "wire" "reader" "many"))
include Zk ZR Z1 Zv in
theorem Zlm (F0:Fun K "__init__" "Speaks.__init__" Zh3 ZeG ZhD):type_of% ZaT:=by
 refine mbK ["self","wire","reader","many"] F0 fun H Q nd hr h=>?_
 obtain⟨a,dx,v,w,z,rfl,e,q⟩:=h
 refine⟨_,(aD (bW Zk ZR (dv 0) (dv 1)) (aD (bW Zk Z1 (dv 0) (dv 2)) (aF (bW Zk Zv (dv 0) (dv 3))))),?_⟩
 refine⟨dx, [],e,by decide,dx,_,aB,(show 1<1000 by decide),dx,_,aB,(show 2<1000 by decide),?_⟩
 refine q _ ?_
 rw[jP,jP]
 rfl
variable (Zar:MB P w K mg base (CX0) 1 ZeY Zis ["self","reader","many"] (yM CA.reads "reader" "many"))
include Zu Zae Zah in
theorem Zmg (F0:Fun K "__init__" "Reads.__init__" ZiP ZeY Zis):type_of% Zar:=by
 refine mbK ["self","reader","many"] F0 fun H Q nd hr h=>?_
 obtain⟨a,dx,v,w,rfl,e,q⟩:=h
 refine⟨_,(aD (bW Zu Zae (dv 0) (dv 1)) (aF (bW Zu Zah (dv 0) (dv 2)))),?_⟩
 refine⟨dx, [],e,by decide,dx,_,aB,(show 1<1000 by decide),?_⟩
 refine q _ ?_
 rw[jP]
 rfl
variable (ZaR:MB P w K mg base (CX0) 1 Zes Zhp ["self","tail","found"] (yM CA.intail "tail" "found"))
include Zn Zs ZaH in
theorem Zk8 (F0:Fun K "__init__" "InTail.__init__" ZhP Zes Zhp):type_of% ZaR:=by
 refine mbK ["self","tail","found"] F0 fun H Q nd hr h=>?_
 obtain⟨a,dx,v,w,rfl,e,q⟩:=h
 refine⟨_,(aD (bW Zn Zs (dv 0) (dv 1)) (aF (bW Zn ZaH (dv 0) (dv 2)))),?_⟩
 refine⟨dx, [],e,by decide,dx,_,aB,(show 1<1000 by decide),?_⟩
 refine q _ ?_
 rw[jP]
 rfl
variable (Zaz:MB P w K mg base (CX0) 1 ZdP Zgh ["self","left","may_blame"] (yM CA.flag "left" "may_blame"))
include Zp ZN ZW in
theorem Zj4 (F0:Fun K "__init__" "Flagging.__init__" Zgq ZdP Zgh):type_of% Zaz:=by
 refine mbK ["self","left","may_blame"] F0 fun H Q nd hr h=>?_
 obtain⟨a,dx,v,w,rfl,e,q⟩:=h
 refine⟨_,(aD (bW Zp ZN (dv 0) (dv 1)) (aF (bW Zp ZW (dv 0) (dv 2)))),?_⟩
 refine⟨dx, [],e,by decide,dx,_,aB,(show 1<1000 by decide),?_⟩
 refine q _ ?_
 rw[jP]
 rfl
variable (Z8:MB P w K mg base (CX0) 1 Zee ZgO ["self","may_blame"] (yN CA.settles "may_blame"))
include ZH Zaf in
theorem ZkC (F0:Fun K "__init__" "Settles.__init__" Zg5 Zee ZgO):type_of% Z8:=by
 refine mbK ["self","may_blame"] F0 fun H Q nd hr h=>?_
 obtain⟨a,dx,v,rfl,e,q⟩:=h
 refine⟨_,(aF (bW ZH Zaf (dv 0) (dv 1))),?_⟩
 exact⟨dx, [],e,by decide,q _ rfl⟩
variable (Zad:MB P w K mg base (CX0) 1 Ze1 Ziv ["self","left"] (yN CA.rests "left"))
include ZA Z7 in
theorem Zmj (F0:Fun K "__init__" "Rests.__init__" ZiS Ze1 Ziv):type_of% Zad:=by
 refine mbK ["self","left"] F0 fun H Q nd hr h=>?_
 obtain⟨a,dx,v,rfl,e,q⟩:=h
 refine⟨_,(aF (bW ZA Z7 (dv 0) (dv 1))),?_⟩
 exact⟨dx, [],e,by decide,q _ rfl⟩
variable (ZaB:MB P w K mg base (CX0) 2 ZdS Zgk ["self"] (b2O CA 12))
include Ze Zb Zbq Zl ZbC in
theorem Zj7 (F0:Fun K "is_quiet" "Post.is_quiet" Zgt ZdS Zgk):type_of% ZaB:=by
 refine mbK ["self"] F0 fun H Q nd hr h=>?_
 obtain⟨p,nwf,S,o,rfl,⟨dx,ch,wl,ul,ct,ws,us,b⟩,q⟩:=h
 refine⟨_,(aF (aN (bD Ze Zbq ZbC.1 hr.mo ZbC.2 .nil aM (aP Zb Zl (dv 0))))),?_⟩
 obtain⟨dc,ec⟩:=b.et
 exact⟨dx,_,.ref ct,b.e,rfl,⟨dc,_,ec,rfl⟩,ct,S.tot,rfl,⟨dc,ec⟩,q⟩
variable (ZaS:MB P w K mg base (CX0) 2 Zew Zht ["self"] (b2O CA 18))
include Ze Zb Zat Zl ZaL in
theorem Zlc (F0:Fun K "is_off" "Post.is_off" ZhT Zew Zht):type_of% ZaS:=by
 refine mbK ["self"] F0 fun H Q nd hr h=>?_
 obtain⟨p,nwf,S,o,rfl,⟨dx,ch,wl,ul,ct,ws,us,b⟩,q⟩:=h
 refine⟨_,(aF (aN (bD Ze Zat ZaL.1 hr.mo ZaL.2 .nil aM (aP Zb Zl (dv 0))))),?_⟩
 obtain⟨dc,ec⟩:=b.et
 exact⟨dx,_,.ref ct,b.e,rfl,⟨dc,_,ec,rfl⟩,ct,S.tot,rfl,⟨dc,ec⟩,q⟩
variable (ZcS:MB P w K mg base (CX0) 2 Zev Zhs ["self"] (b7L CA))
include Ze Zb ZbK Zl Zcz in
theorem Zlb (F0:Fun K "faults" "Post.faults" ZhS Zev Zhs):type_of% ZcS:=by
 refine mbK ["self"] F0 fun H Q nd hr h=>?_
 obtain⟨p,nwf,S,o,rfl,⟨dx,ch,wl,ul,ct,ws,us,b⟩,q⟩:=h
 refine⟨_,(aF (aN (bD Ze ZbK Zcz.1 hr.mo Zcz.2 .nil aM (aP Zb Zl (dv 0))))),?_⟩
 obtain⟨dc,ec⟩:=b.et
 exact⟨dx,_,.ref ct,b.e,rfl,⟨dc,_,ec,rfl⟩,ct,S.tot,rfl,⟨dc,ec⟩,q⟩
variable (ZbE:MB P w K mg base (CX0) 1 Zdv Zf3 ["self"] (b7G CA))
include ZL Zb Zo in
theorem Zja (F0:Fun K "has_frame" "Post.has_frame" Zgc Zdv Zf3):type_of% ZbE:=by
 refine mbK ["self"] F0 fun H Q nd hr h=>?_
 obtain⟨p,nwf,S,o,rfl,⟨dx,ch,wl,ul,ct,ws,us,b⟩,q⟩:=h
 refine⟨_,(aF (aN (dG a4A (bG fZ rfl ZL dM (aA (aP Zb Zo (dv 0)) aC)) aG (aV _)))),?_⟩
 refine⟨dx,_,.ref wl,b.e,rfl,_,.inl (Vb b.ew),?_⟩
 rw[b.fw.len]
 exact q
variable (ZaX:MB P w K mg base (CX0) 7 Zcl Ze5 ["self"] (yO CA))
include ZaP ZV ZC Zb Zo Zds in
theorem ZgW (F0:Fun K "foremost_wire" "Post.foremost_wire" Zfe Zcl Ze5):type_of% ZaX:=by
 refine mbK ["self"] F0 fun H Q nd hr h=>?_
 obtain⟨p,nwf,S,o,f,r,rfl,⟨dx,ch,wl,ul,ct,ws,us,b⟩,ewt,hf,q⟩:=h
 refine⟨_,(aF (aN (aQ Zds.1 hr.mo rfl Zds.2.2.2 Zds.2.2.1 Zds.2.1 .nil aM (aA (bH fK (bH cT (aP Zb Zo (dv 0)) aG (fun _ _=>rfl)) aG (fun _ _=>rfl)) (aA (bH fK (bH cT (aP Zb Zo (dv 0)) aG (fun _ _=>rfl)) aG (fun _ _=>rfl)) aC))))),?_⟩
 have fw:=b.fw
 rw[ewt]at fw
 generalize hws:ws=ws' at fw
 cases fw with
 | cons a rr=>
  rename_i t ts
  obtain⟨d,e1,e2,e3⟩:=a
  have ew:=b.ew
  rw[hws]at ew
  refine⟨dx,_,.ref wl,b.e,rfl,_,.ref t,Vb ew,at0,_,_,Vc e1,rfl,dx,_,.ref wl,b.e,rfl,_,.ref t,Vb ew,at0,_,_,Vc e1,rfl,?_⟩
  have h7:=hf.2.1
  refine⟨(f.1:Int),d,f.2,rfl,Vb e2,by omega,fun _ pw H' hpw g e=>q pw H' hpw g e,fun no=>absurd hf.ok no⟩
variable (ZaW:MB P w K mg base (CX0) 1 Zck Ze4 ["self"] (b3W CA))
include Zb Zo in
theorem ZgV (F0:Fun K "drop_foremost" "Post.drop_foremost" Zfd Zck Ze4):type_of% ZaW:=by
 refine mbK ["self"] F0 fun H Q nd hr h=>?_
 obtain⟨p,nwf,S,o,rfl,⟨dx,ch,wl,ul,ct,ws,us,b⟩,hn,q⟩:=h
 refine⟨_,(aF (aW (a7C (aP Zb Zo (dv 0)) (aA aG aC)))),?_⟩
 have fw:=b.fw
 generalize hws:ws=ws' at fw
 generalize hwt:S.wt=wt at fw
 cases fw with
 |nil=>exact absurd hwt hn
 | cons a rr=>
  rename_i t f ts fs
  have ew:=b.ew
  rw[hws]at ew
  refine⟨dx,_,.ref wl,b.e,rfl,⟨_,ew⟩,_,0,.ref t,ew,⟨by decide,by decide⟩,sq0,rfl,?_⟩
  have kk:cQ o H (upd H wl (.lst ts)):=fun x v e z=>by
   rw[aH]
   ·exact e
   ·rintro rfl
    rcases z with z | ⟨vs,rfl⟩
    ·exact z b.ow
    ·rw[ew]at e;cases e
  have nl:∀{x:Addr}{v:HO},H x=some v->(∀l,v≠ .lst l)->upd H wl (.lst ts) x=some v:=fun {x v} e h=>by
   rw[aH]
   ·exact e
   ·rintro rfl
    rw[ew]at e
    exact h _ (Yo e).symm
  have fk:∀{ts':List V}{fs':List Fr},dU H (Dl o wl ul) ts' fs'->dU (upd H wl (.lst ts)) (Dl o wl ul) ts' fs':=fun {ts' fs'} h=>by
   induction h with
   |nil=>exact .nil
   | cons a _ ih=>
    obtain⟨d,e1,e2,e3⟩:=a
    exact .cons ⟨d,kk.tup e1,by rw[aH e3.2.1];exact e2,e3⟩ ih
  refine q _ ⟨dx,ch,wl,ul,ct,ts,us,nl b.e (fun l z=>nomatch z),kk.tup b.ec,aB,?_,by rw[aH (Va b.ne)];exact b.eu,fk b.fu,(let ⟨d,e⟩:=b.et;⟨d,nl e fun l z=>nomatch z⟩),b.op,b.ow,b.ou,b.ot,b.ne,fun x hx=>?_⟩ kk
  ·show dU _ _ ts S.wt.tail
   rw[hwt]
   exact fk rr
  ·by_cases h:x=wl
   ·rw[h,aB];simp
   ·rw[aH h];exact b.al x hx
variable (Zcx:FB P w K mg base (CX0) 1 "is_wanted" ZgD Zjx ["choice","name"] (a4P K))
def Znl (F0:GFm K mg "is_wanted" ZjT ZgD Zjx):type_of% Zcx:=by
 refine fbK ["choice","name"] F0 fun H Q nd hr h=>?_
 obtain⟨c,m,t,n,rfl,e,q⟩:=h
 refine⟨_,(aF (aN (dG fW (aZ a4C (dv 1) (bH fK (dv 0) aG (fun _ _=>rfl))) (bH fK (dv 0) aG (fun _ _=>rfl)) (aV _)))),?_⟩
 exact⟨_,_,Vc e,rfl,_,_,Vc e,rfl,q⟩
variable (ZcB:MB P w K mg base (CX0) 2 Zea ZgK ["self","frame"] (a5J CA))
include Zb ZaN ZS Zcx in
theorem Zky (F0:Fun K "hand_up" "Post.hand_up" Zg1 Zea ZgK):type_of% ZcB:=by
 refine mbK ["self","frame"] F0 fun H Q nd hr h=>?_
 obtain⟨p,nwf,S,o,t,d,n,ds,rfl,⟨dx,ch,wl,ul,ct,ws,us,b⟩,et,ed,nd_,hl,q⟩:=h
 refine⟨_,(aF (bM (bV (aQ Zcx.1 hr.mo rfl Zcx.2.2.2 Zcx.2.2.1 Zcx.2.1 .nil aM (aA (aP Zb ZaN (dv 0)) (aA (bH fK (dv 1) aG (fun _ _=>rfl)) aC)))) (aF (aW (bR (aP Zb ZS (dv 0)) (aA (dv 1) aC)))) aU)),?_⟩
 refine⟨dx,_,.ref ch,b.e,rfl,_,_,Vc et,rfl,ch,_,_,_,rfl,b.ec,?_⟩
 conv=>whnf
 refine cC (fun c=>?_) (fun c=>?_)
 ·have c1:pX S n=true:=c
  have hul:=b.fu.len
  refine⟨dx,_,.ref ul,b.e,rfl,⟨_,Vb b.eu⟩,_,b.eu,bI (by omega),?_⟩
  obtain⟨k1,k2,k3,k4,k5,k6⟩:=wV (ys:=us++[.ref t]) b (.inr rfl)
  refine q _ ⟨dx,ch,wl,ul,ct,ws,us++[.ref t],k2.trans b.e,k3.trans b.ec,by rw[aH b.ne];exact b.ew,(k5 b.fw).imp (fun x v e _=>e) (fun x z=>⟨.inl z.1,z.2⟩),aB,?_,(let ⟨d,e⟩:=b.et;⟨d,k4.trans e⟩),.inl b.op,.inl b.ow,.inl b.ou,.inl b.ot,b.ne,fun x hx=>?_⟩ k1
  ·show dU _ _ _ (if pX S n=true then S.up++[(n,ds)] else S.up)
   rw[if_pos c1]
   have nwl:d≠wl:=fun z=>nd_ (z▸b.ow)
   have nul:d≠ul:=fun z=>nd_ (z▸b.ou)
   exact((k5 b.fu).imp (fun x v e _=>e) (fun x z=>⟨.inl z.1,z.2⟩)).snoc ⟨d,k1.tup et,by rw[aH nul];exact ed,.inr rfl,nwl,nul⟩
  ·rcases hx with hx | hx
   ·exact k6 x hx
   ·have hx':x=d:=hx
    have nul:d≠ul:=fun z=>nd_ (z▸b.ou)
    rw[hx',aH nul,ed];simp
 ·have c1:¬ pX S n=true:=c
  refine q _ ?_ cQ.refl
  rw[if_neg c1]
  exact Bd.grow ⟨dx,ch,wl,ul,ct,ws,us,b⟩ ed
variable (ZdE:MB P w K mg base (CX0) 3 Zfn Zji ["self","name","data"] (b3U K CA ZdY))
include ZC ZK Zb Zo ZF in
theorem Zm5 (F0:Fun K "hand" "Post.hand" ZjE Zfn Zji):type_of% ZdE:=by
 refine mbK ["self","name","data"] F0 fun H Q nd hr h=>?_
 obtain⟨p,nwf,S,o,n,a,ds,rfl,bd,hS,hl,hw,q1,q2⟩:=h
 refine⟨_,(aD (aW (aQ ZF.1 hr.mo rfl ZF.2.2.2 ZF.2.2.1 ZF.2.1 .nil aM (aA (dv 1) (aA (dv 2) aC)))) (aF (aW (bR (aP Zb Zo (dv 0)) (aA (bN (aA (dv 1) (aA (cH dF rfl ZK eN (aA (dv 2) aC)) aC))) aC))))),?_⟩
 refine⟨n,a,ds,rfl,hS,hl,fun ok H1 g1=>?_,fun no H1 g1=>q2 no H1 g1⟩
 obtain⟨dx,ch,wl,ul,ct,ws,us,b⟩:=bd.move (H':=H1) fun x v e _=>g1 x v e
 refine⟨dx,_,.ref wl,b.e,rfl,⟨_,Vb b.ew⟩,_,.inl (g1.seq hS),fun d hd=>?_⟩
 have g2:=aK hd (.lst (ds.map V.int))
 have e2:=aB (H:=H1) (a:=d) (o:= .lst (ds.map V.int))
 generalize upd H1 d (.lst (ds.map V.int))=H2 at g2 e2
 refine⟨aL rfl,fun t ht=>?_⟩
 have g3:=aK ht (.tup [.int n,.ref d])
 have e3:=aB (H:=H2) (a:=t) (o:= .tup [.int n,.ref d])
 generalize upd H2 t (.tup [.int n,.ref d])=H3 at g3 e3
 have g13:=g2.trans g3
 have nd_:¬ o d:=fun z=>b.al d z hd
 have b3:=b.move (H':=H3) fun x v e _=>g13 x v e
 have hwl:=b.fw.len
 refine⟨_,b3.ew,bI (by omega),?_⟩
 obtain⟨k1,k2,k3,k4,k5,k6⟩:=wV (ys:=ws++[.ref t]) b3 (.inl rfl)
 have nwl:d≠wl:=fun z=>nd_ (z▸b.ow)
 have nul:d≠ul:=fun z=>nd_ (z▸b.ou)
 have en:((n.toNat:Nat):Int)=n:=by
  have:=iR.mp ok.1
  omega
 refine q1 ok _ d (g1.none hd) ⟨dx,ch,wl,ul,ct,ws++[.ref t],us,k2.trans b3.e,k3.trans b3.ec,aB,?_,by rw[aH (Va b.ne)];exact b3.eu,(k5 b3.fu).imp (fun x v e _=>e) (fun x z=>⟨.inl z.1,z.2⟩),(let ⟨d,e⟩:=b3.et;⟨d,k4.trans e⟩),.inl b.op,.inl b.ow,.inl b.ou,.inl b.ot,b.ne,fun x hx=>?_⟩ (fun x v e z=>k1 x v (g13 x v (g1 x v e)) z)
 ·refine((k5 b3.fw).imp (fun x v e _=>e) (fun x z=>⟨.inl z.1,z.2⟩)).snoc ⟨d,?_,by rw[aH nwl];exact g3 _ _ e2,.inr rfl,nwl,nul⟩
  show _=some (HO.tup [.int ((n.toNat:Nat):Int),.ref d])
  rw[en]
  exact k1.tup e3
 ·rcases hx with hx | hx
  ·exact k6 x hx
  ·have hx':x=d:=hx
   rw[hx',aH nwl,g3 _ _ e2];simp
variable (Zbo:FB P w K mg base (CX0) 1 "copies" Zj2 ZmZ ["frames"] (a5M K))
include ZK in
theorem Zox (F0:GFm K mg "copies" Zno Zj2 ZmZ):type_of% Zbo:=by
 refine fbK ["frames"] F0 fun H Q nd hr h=>?_
 obtain⟨a,ts,fs,o,rfl,e,hF,hl,q⟩:=h
 refine⟨_,(aF (aN (iM rfl (ix:=[]) (cY (dv 0)) (fun C fp s0 H0 at0=>eV) (fun C fp s0 H0 at0=>(bN (aA (bH (a3Y (K:=K)) (dv 0) aG (fun _ _=>rfl)) (aA (cH (a1T (K:=K)) rfl ZK eN (aA (bH (a3Y (K:=K)) (dv 0) aG (fun _ _=>rfl)) aC)) aC)))) rfl rfl (by rfl) (show ([".0","frame"]:List Str).Nodup by decide +kernel)))),?_⟩
 have tl:=hF.len
 refine⟨⟨_,Vb e⟩,gQ (xs:=ts) (fun i ys H'=>Same H H'/\eQ H H' ys (fs.take i)) ?_ ⟨Vd _,.nil⟩ (fun i ys H' _ z=>Vb (z.1 _ _ e)) ?_ ?_⟩
 ·rintro i ys H' hi ⟨_,n⟩
  refine bI ?_
  rw[n.len,Yx]
  omega
 ·rintro i x ys H' hx ⟨g,n⟩
  obtain⟨t,f,rfl,hf,d,e1,e2,e3⟩:=hF.get hx
  refine⟨_,_,Vc (g _ _ e1),rfl,_,_,Vc (g _ _ e1),rfl,_,.inl (Vb (g _ _ e2)),fun d' hd'=>?_⟩
  have g2:=aK hd' (.lst (f.2.map V.int))
  have e5:=aB (H:=H') (a:=d') (o:= .lst (f.2.map V.int))
  generalize upd H' d' (.lst (f.2.map V.int))=H2 at g2 e5
  refine⟨aL rfl,fun t' ht'=>?_⟩
  have g3:=aK ht' (.tup [.int ((f.1:Nat):Int),.ref d'])
  refine⟨g.trans (g2.trans g3),?_⟩
  have hi:i<fs.length:=(Yd.mp hf).1
  have ef:fs[i]=f:=(Yd.mp hf).2
  rw[Yh hi,ef]
  exact eQ.snoc ((g.trans g2).none ht') (g.none hd') aB (g3 _ _ e5) (n.same (g2.trans g3))
 rintro ys H' ⟨g,n⟩ l hl'
 have g2:=aK hl' (.lst ys)
 rw[tl,Ys (Yf _)]at n
 exact q l ys _ (g.none hl') (g.trans g2) aB (n.same g2)
variable (Zdi:MB P w K mg base (CX0) 2 ZeU Zio ["self"] (a9C CA))
include Zb Zo Zbo in
theorem Zmc (F0:Fun K "waits" "Post.waits" ZiL ZeU Zio):type_of% Zdi:=by
 refine mbK ["self"] F0 fun H Q nd hr h=>?_
 obtain⟨p,nwf,S,o,rfl,⟨dx,ch,wl,ul,ct,ws,us,b⟩,hl,q⟩:=h
 refine⟨_,(aF (aN (aQ Zbo.1 hr.mo rfl Zbo.2.2.2 Zbo.2.2.1 Zbo.2.1 .nil aM (aA (aP Zb Zo (dv 0)) aC)))),?_⟩
 exact⟨dx,_,.ref wl,b.e,rfl,wl,ws,S.wt,_,rfl,b.ew,b.fw,hl,q⟩
variable (Zd5:MB P w K mg base (CX0) 2 ZfP Zko ["self"] (b7H CA))
include Zb ZS Zbo in
theorem ZnV (F0:Fun K "got" "Post.got" ZkL ZfP Zko):type_of% Zd5:=by
 refine mbK ["self"] F0 fun H Q nd hr h=>?_
 obtain⟨p,nwf,S,o,rfl,⟨dx,ch,wl,ul,ct,ws,us,b⟩,hl,q⟩:=h
 refine⟨_,(aF (aN (aQ Zbo.1 hr.mo rfl Zbo.2.2.2 Zbo.2.2.1 Zbo.2.1 .nil aM (aA (aP Zb ZS (dv 0)) aC)))),?_⟩
 exact⟨dx,_,.ref ul,b.e,rfl,ul,us,S.up,_,rfl,b.eu,b.fu,hl,q⟩
variable (ZM:FB P w K mg base (CX0) 3 "unless_off" Zf0 ZiF ["post","word","stance"] (a4Q CA))
include Zmy Zb Zay Ze9 ZaS in
theorem Zmt (F0:GFm K mg "unless_off" Zi2 Zf0 ZiF):type_of% ZM:=by
 refine fbK ["post","word","stance"] F0 fun H Q nd hr h=>?_
 obtain⟨p,nwf,S,o,w,nx,rfl,bd,q1,q2⟩:=h
 refine⟨_,(aF (aN (cD (dC (bV (bD Zb Zay ZaS.1 hr.mo ZaS.2 .nil aM (dv 0))) (bN (aA bF (aA (a6J Ze9 rfl Zmy) aC))) (bN (aA (dv 1) (aA (dv 2) aC))))))),?_⟩
 refine⟨fun x H'=>Q x H',?_,fun x H' z=>z⟩
 obtain⟨dx,ch,wl,ul,ct,ws,us,b⟩:=id bd
 refine⟨⟨dx,_,b.e,rfl⟩,p,nwf,S,o,rfl,bd,?_⟩
 conv=>whnf
 refine cC (fun c=>?_) (fun c=>?_)
 ·have c1:18<=S.tot:=dec_true c
  refine fun x dx' hx hdx hne=>⟨aL rfl,fun t ht=>?_⟩
  have g1:Same H (upd (upd H dx' (.own x)) x (.ins CA.off dx' [])):=fun b u q=>by rw[aH (aJ q hx),aH (aJ q hdx)];exact q
  have g2:=aK ht (.tup [.str "off",.ref x])
  exact q2 c1 t x dx' _ (g1.trans g2) hx (g2 _ _ aB) aB
 ·have c1:¬ 18<=S.tot:=dec_false c
  refine⟨aL rfl,fun t ht=>?_⟩
  exact q1 c1 t _ (aK ht _) aB
variable (Zq:FB P w K mg base (CX0) 4 "fault_of" Zhi Zkt ["post","spoke"] (a9I CA))
include ZdA Zfy Ze Zb Zbe Zax Zl ZaQ Zaz ZM in
theorem Zn1 (F0:GFm K mg "fault_of" ZkQ Zhi Zkt):type_of% Zq:=by
 refine fbK ["post","spoke"] F0 fun H Q nd hr h=>?_
 obtain⟨p,nwf,S,o,sp,rfl,bd,q⟩:=h
 refine⟨_,(aD (aW (bB Ze Zax ZaQ.1 hr.mo ZaQ.2 .nil aM (aP Zb Zl (dv 0)) (aA (dv 1) aC))) (aF (aN (aQ ZM.1 hr.mo rfl ZM.2.2.2 ZM.2.2.1 ZM.2.1 .nil aM (aA (dv 0) (aA bF (aA (cJ Zbe Zaz.1 hr.mo rfl ZdA Zaz.2 .nil aM (aA (bC (v:= .int 6) rfl Zfy ⟨_,rfl⟩) (aA (b5A (dv 1)) aC))) aC))))))),?_⟩
 obtain⟨dx,ch,wl,ul,ct,ws,us,b⟩:=id bd
 obtain⟨dc,ec⟩:=id b.et
 refine⟨dx,_,.ref ct,b.e,rfl,⟨dc,_,ec,rfl⟩,ct,S.tot,sp,rfl,b.et,fun H1 c1 k1=>?_⟩
 obtain⟨b1,kk1⟩:=Bd.count b c1 k1
 generalize ht:mvd S.tot (if sp=true then 8 else 1)=n at b1 c1
 refine fun x dx' hx hdx hne=>⟨x,dx',_,_,rfl,aB,fun H2 eH=>⟨rfl,?_⟩⟩
 have g12:Same H1 H2:=by rw[eH];exact bO hx hdx
 have e2:H2 x=some (.ins CA.flag dx' [("left",.int ((6:Nat):Int)),("may_blame",.bl (!sp))]):=by rw[eH];exact aB
 clear eH
 refine⟨p,nwf,{ S with tot:=n },o,"fault",x,rfl,b1.move fun y v e _=>g12 y v e,fun c t H3 g3 e3=>?_,fun c t nw dy H3 g3 hn e4 e3=>?_⟩
 ·have c1:¬ 18<=n:=c
  refine q t H3 ⟨x,fun y=>y=x,?_,?_,?_,?_,?_⟩
  ·unfold cG dD;rw[ht,if_neg c1];exact e3
  ·unfold cG dD;rw[ht,if_neg c1];exact(b1.move fun y v e _=>g3 y v (g12 y v e)).now rfl rfl rfl rfl rfl rfl
  ·unfold cG dD;rw[ht,if_neg c1];exact iC (g3 _ _ e2) ⟨dx',g3 _ _ e2⟩
  ·intro y hy
   have hy':y=x:=hy
   rw[hy']
   exact oH b1 kk1 hx
  ·exact fun y v e z=>g3 y v (g12 y v (kk1 y v e z))
 ·have c1:18<=n:=c
  refine q t H3 ⟨nw,fun y=>y=nw,?_,?_,?_,?_,?_⟩
  ·unfold cG dD;rw[ht,if_pos c1];exact e3
  ·unfold cG dD;rw[ht,if_pos c1];exact(b1.move fun y v e _=>g3 y v (g12 y v e)).now rfl rfl rfl rfl rfl rfl
  ·unfold cG dD;rw[ht,if_pos c1];exact iC e4 ⟨dy,e4⟩
  ·intro y hy
   have hy':y=nw:=hy
   rw[hy']
   exact oH b1 kk1 (g12.none hn)
  ·exact fun y v e z=>g3 y v (g12 y v (kk1 y v e z))
variable (ZbV:FB P w K mg base (CX0) 4 "refusal_of" ZfZ ZiE ["post","spoke"] (a2D CA))
include Zcy Ze Zb ZaF Zax Zl ZaQ Z8 ZM in
theorem Zms (F0:GFm K mg "refusal_of" Zi1 ZfZ ZiE):type_of% ZbV:=by
 refine fbK ["post","spoke"] F0 fun H Q nd hr h=>?_
 obtain⟨p,nwf,S,o,sp,rfl,bd,q⟩:=h
 refine⟨_,(aD (aW (bB Ze Zax ZaQ.1 hr.mo ZaQ.2 .nil aM (aP Zb Zl (dv 0)) (aA (dv 1) aC))) (aF (aN (aQ ZM.1 hr.mo rfl ZM.2.2.2 ZM.2.2.1 ZM.2.1 .nil aM (aA (dv 0) (aA bF (aA (cJ ZaF Z8.1 hr.mo rfl Zcy Z8.2 .nil aM (aA fQ aC)) aC))))))),?_⟩
 obtain⟨dx,ch,wl,ul,ct,ws,us,b⟩:=id bd
 obtain⟨dc,ec⟩:=id b.et
 refine⟨dx,_,.ref ct,b.e,rfl,⟨dc,_,ec,rfl⟩,ct,S.tot,sp,rfl,b.et,fun H1 c1 k1=>?_⟩
 obtain⟨b1,kk1⟩:=Bd.count b c1 k1
 generalize ht:mvd S.tot (if sp=true then 8 else 1)=n at b1 c1
 refine fun x dx' hx hdx hne=>⟨x,dx',_,rfl,aB,fun H2 eH=>⟨rfl,?_⟩⟩
 have g12:Same H1 H2:=by rw[eH];exact bO hx hdx
 have e2:H2 x=some (.ins CA.settles dx' [("may_blame",.bl false)]):=by rw[eH];exact aB
 clear eH
 refine⟨p,nwf,{ S with tot:=n },o,"refuses",x,rfl,b1.move fun y v e _=>g12 y v e,fun c t H3 g3 e3=>?_,fun c t nw dy H3 g3 hn e4 e3=>?_⟩
 ·have c1:¬ 18<=n:=c
  refine q t H3 ⟨x,fun y=>y=x,?_,?_,?_,?_,?_⟩
  ·unfold cR dD;rw[ht,if_neg c1];exact e3
  ·unfold cR dD;rw[ht,if_neg c1];exact(b1.move fun y v e _=>g3 y v (g12 y v e)).now rfl rfl rfl rfl rfl rfl
  ·unfold cR dD;rw[ht,if_neg c1];exact iC (g3 _ _ e2) ⟨dx',g3 _ _ e2⟩
  ·intro y hy
   have hy':y=x:=hy
   rw[hy']
   exact oH b1 kk1 hx
  ·exact fun y v e z=>g3 y v (g12 y v (kk1 y v e z))
 ·have c1:18<=n:=c
  refine q t H3 ⟨nw,fun y=>y=nw,?_,?_,?_,?_,?_⟩
  ·unfold cR dD;rw[ht,if_pos c1];exact e3
  ·unfold cR dD;rw[ht,if_pos c1];exact(b1.move fun y v e _=>g3 y v (g12 y v e)).now rfl rfl rfl rfl rfl rfl
  ·unfold cR dD;rw[ht,if_pos c1];exact iC e4 ⟨dy,e4⟩
  ·intro y hy
   have hy':y=nw:=hy
   rw[hy']
   exact oH b1 kk1 (g12.none hn)
  ·exact fun y v e z=>g3 y v (g12 y v (kk1 y v e z))
variable (Zc4:FB P w K mg base (CX0) 4 "blame_of" Zhg Zkr ["post"] (a9O CA))
include Zcy Ze Zb ZaF Zb7 Zl ZcP Z8 ZM in
theorem ZnZ (F0:GFm K mg "blame_of" ZkO Zhg Zkr):type_of% Zc4:=by
 refine fbK ["post"] F0 fun H Q nd hr h=>?_
 obtain⟨p,nwf,S,o,rfl,bd,q⟩:=h
 refine⟨_,(aD (aW (bD Ze Zb7 ZcP.1 hr.mo ZcP.2 .nil aM (aP Zb Zl (dv 0)))) (aF (aN (aQ ZM.1 hr.mo rfl ZM.2.2.2 ZM.2.2.1 ZM.2.1 .nil aM (aA (dv 0) (aA bF (aA (cJ ZaF Z8.1 hr.mo rfl Zcy Z8.2 .nil aM (aA fQ aC)) aC))))))),?_⟩
 obtain⟨dx,ch,wl,ul,ct,ws,us,b⟩:=id bd
 obtain⟨dc,ec⟩:=id b.et
 refine⟨dx,_,.ref ct,b.e,rfl,⟨dc,_,ec,rfl⟩,ct,S.tot,rfl,b.et,fun H1 c1 k1=>?_⟩
 obtain⟨b1,kk1⟩:=Bd.count b c1 k1
 generalize ht:mvd S.tot 8=n at b1 c1
 refine fun x dx' hx hdx hne=>⟨x,dx',_,rfl,aB,fun H2 eH=>⟨rfl,?_⟩⟩
 have g12:Same H1 H2:=by rw[eH];exact bO hx hdx
 have e2:H2 x=some (.ins CA.settles dx' [("may_blame",.bl false)]):=by rw[eH];exact aB
 clear eH
 refine⟨p,nwf,{ S with tot:=n },o,"",x,rfl,b1.move fun y v e _=>g12 y v e,fun c t H3 g3 e3=>?_,fun c t nw dy H3 g3 hn e4 e3=>?_⟩
 ·have c1:¬ 18<=n:=c
  refine q t H3 ⟨x,fun y=>y=x,?_,?_,?_,?_,?_⟩
  ·unfold fG dD;rw[ht,if_neg c1];exact e3
  ·unfold fG dD;rw[ht,if_neg c1];exact(b1.move fun y v e _=>g3 y v (g12 y v e)).now rfl rfl rfl rfl rfl rfl
  ·unfold fG dD;rw[ht,if_neg c1];exact iC (g3 _ _ e2) ⟨dx',g3 _ _ e2⟩
  ·intro y hy
   have hy':y=x:=hy
   rw[hy']
   exact oH b1 kk1 hx
  ·exact fun y v e z=>g3 y v (g12 y v (kk1 y v e z))
 ·have c1:18<=n:=c
  refine q t H3 ⟨nw,fun y=>y=nw,?_,?_,?_,?_,?_⟩
  ·unfold fG dD;rw[ht,if_pos c1];exact e3
  ·unfold fG dD;rw[ht,if_pos c1];exact(b1.move fun y v e _=>g3 y v (g12 y v e)).now rfl rfl rfl rfl rfl rfl
  ·unfold fG dD;rw[ht,if_pos c1];exact iC e4 ⟨dy,e4⟩
  ·intro y hy
   have hy':y=nw:=hy
   rw[hy']
   exact oH b1 kk1 (g12.none hn)
  ·exact fun y v e z=>g3 y v (g12 y v (kk1 y v e z))
variable (Zbw:FB P w K mg base (CX0) 1 "check_votes" ZfJ ZhL ["votes"] (a9D Za4))
include Zc2 Zw Zej in
theorem Zlu (F0:GFm K mg "check_votes" Zib ZfJ ZhL):type_of% Zbw:=by
 refine fbK ["votes"] F0 fun H Q nd hr h=>?_
 obtain⟨v,rfl,q1,q2⟩:=h
 refine⟨_,(aF (bM (bA vL (dv 0) (bC (v:= .ref Zk5) rfl Zc2 rfl) rfl) (aF fX) aU)),?_⟩
 refine⟨[1,3,5],.inr (Zej.sq H),?_⟩
 conv=>whnf
 refine cC (fun c=>?_) (fun c=>?_)
 ·refine(q2 fun z=>?_)
  have c1:(!decide (v∈ [(1:Int),3,5]))=true:=c
  rw[(sS v).mpr z]at c1
  cases c1
 ·refine q1 ((sS v).mp ?_)
  cases e:decide (v∈ [(1:Int),3,5]) with
  |true=>rfl
  |false=>exact absurd (show (!decide (v∈ [(1:Int),3,5]))=true by rw[e];rfl) c
variable (Zbh:FB P w K mg base (CX0) 2 "check_choice" Zfi ZgU ["choice"] (a5N K Za4))
include Zw ZaD in
theorem ZkI (F0:GFm K mg "check_choice" Zhb Zfi ZgU):type_of% Zbh:=by
 refine fbK ["choice"] F0 fun H Q nd hr h=>?_
 obtain⟨a,ns,rfl,hS,hl,q1,q2⟩:=h
 refine⟨_,(aF (bM (dY (bV (aQ ZaD.1 hr.mo rfl ZaD.2.2.2 ZaD.2.2.1 ZaD.2.1 .nil aM (aA (dv 0) aC)))) (aF fX) aU)),?_⟩
 refine⟨a,ns,rfl,.inr hS,hl,fun H1 g1=>?_⟩
 conv=>whnf
 refine cC (fun c=>?_) (fun c=>?_)
 ·have c1:¬ ns.all byt=true:=fun z=>by
   have:(!ns.all byt)=true:=c
   rw[z]at this;cases this
  exact(q2 c1 _ g1)
 ·have c1:ns.all byt=true:=by
   cases e:ns.all byt with
   |true=>rfl
   |false=>exact absurd (show (!ns.all byt)=true by rw[e];rfl) c
  exact q1 c1 _ g1
variable (ZdG:MB P w K mg base (CX0) 4 Zfp Zjk ["self","choice","votes"] (yK K CA Za4))
include Zc2 Zw Zi4 Zep Zb ZeK Za8 Zl Zo ZaN ZS Zag ZU Zdg ZaA Zbw Zbh in
theorem Zm7 (F0:Fun K "__init__" "Post.__init__" ZjG Zfp Zjk):type_of% ZdG:=by
 refine mbK ["self","choice","votes"] F0 fun H Q nd hr h=>?_
 obtain⟨a,dx,ch,m1,m2,v,rfl,e,ec,q1,q2⟩:=h
 refine⟨_,(aD (aW (aQ Zbh.1 hr.mo rfl Zbh.2.2.2 Zbh.2.2.1 Zbh.2.1 .nil aM (aA (dv 1) aC))) (aD (aW (aQ Zbw.1 hr.mo rfl Zbw.2.2.2 Zbw.2.2.1 Zbw.2.1 .nil aM (aA (dv 2) aC))) (aD (bW Zb ZaN (dv 0) (dv 1)) (aD (bW Zb Zag (dv 0) (dv 2)) (aD (bW Zb Zo (dv 0) (cB aC)) (aD (bW Zb ZS (dv 0) (cB aC)) (aD (bW Zb Zl (dv 0) (mW ZeK Zdg.1 hr.mo rfl Zi4 Zdg.2 .nil aM)) (aF (bW Zb ZU (dv 0) (cJ Za8 ZaA.1 hr.mo rfl Zep ZaA.2 .nil aM (aA aG aC))))))))))),?_⟩
 refine⟨ch, [m1,m2],rfl,Vc ec,(show 2<=500 by decide),fun hm H1 g1=>?_,fun no H1 g1=>?_⟩
 rotate_left
 ·refine q2 (fun ok=>no ?_) H1 fun x u _ h=>g1 x u h
  rw[Xz,Xz,List.all_nil,ok.1,ok.2.1];rfl
 rw[Xz,Xz,List.all_nil,Bool.and_true,Xx]at hm
 refine⟨v,rfl,fun hv=>?_,fun no=>q2 (fun ok=>no ok.2.2) H1 fun x u _ h=>g1 x u h⟩
 have ea:=g1 _ _ e
 refine⟨dx, [],ea,by decide,?_⟩
 refine⟨dx,_,aB,(show 1<1000 by decide),?_⟩
 rw[jP]
 have m1_:Mid H a (.ins CA.post dx [("choice",.ref ch),("votes",.int v)]) [] (upd H1 a (.ins CA.post dx (gH "votes" (.int v) (gH "choice" (.ref ch) [])))):=⟨aB,fun x u hx h=>by rw[aH hx];exact g1 x u h,(fun _ z=>nomatch z),List.nodup_nil⟩
 generalize upd H1 a _=Ha at m1_
 refine⟨aL rfl,fun wl hwl=>?_⟩
 have m2_:=m1_.add hwl (aK hwl (.lst [])) aB
 generalize upd Ha wl (.lst [])=Hb at m2_
 refine⟨dx,_,m2_.ea,(show 2<1000 by decide),?_⟩
 have m3_:Mid H a (.ins CA.post dx [("choice",.ref ch),("votes",.int v),("waiting",.ref wl)]) _ (upd Hb a (.ins CA.post dx (gH "waiting" (.ref wl) [("choice",.ref ch),("votes",.int v)]))):=m2_.set _
 generalize upd Hb a _=Hb2 at m3_
 refine⟨aL rfl,fun ul hul=>?_⟩
 have m4_:=m3_.add hul (aK hul (.lst [])) aB
 generalize upd Hb2 ul (.lst [])=Hc at m4_
 refine⟨dx,_,m4_.ea,(show 3<1000 by decide),?_⟩
 have m5_:Mid H a (.ins CA.post dx [("choice",.ref ch),("votes",.int v),("waiting",.ref wl),("handed_up",.ref ul)]) _ (upd Hc a (.ins CA.post dx (gH "handed_up" (.ref ul) [("choice",.ref ch),("votes",.int v),("waiting",.ref wl)]))):=m4_.set _
 generalize upd Hc a _=Hc2 at m5_
 refine fun ct dc hct hdc hne=>⟨ct,dc,rfl,aB,rfl,?_⟩
 have m6_:=m5_.add hct (bO (C:=CA.count) (fs:=ctF 0) hct hdc) aB
 generalize upd (upd (upd Hc2 dc (.own ct)) ct (.ins CA.count dc [])) ct (.ins CA.count dc (ctF 0))=Hd at m6_
 refine⟨dx,_,m6_.ea,(show 4<1000 by decide),?_⟩
 have m7_:Mid H a (.ins CA.post dx [("choice",.ref ch),("votes",.int v),("waiting",.ref wl),("handed_up",.ref ul),("tally",.ref ct)]) _ (upd Hd a (.ins CA.post dx (gH "tally" (.ref ct) [("choice",.ref ch),("votes",.int v),("waiting",.ref wl),("handed_up",.ref ul)]))):=m6_.set _
 generalize upd Hd a _=Hd2 at m7_
 refine fun nw dn hnw hdn hne2=>⟨nw,dn,_,rfl,aB,fun H2 eH=>⟨rfl,?_⟩⟩
 have m8_:=m7_.add (Hy:=H2) hnw (by rw[eH];exact bO hnw hdn) (by rw[eH];exact aB)
 clear eH
 refine⟨dx,_,m8_.ea,(show 5<1000 by decide),?_⟩
 have m9_:=m8_.set (.ins CA.post dx (pF ch v.toNat wl ul ct nw))
 have ev:v=((v.toNat:Nat):Int):=by omega
 have eF:(HO.ins CA.post dx (gH "now" (.ref nw) [("choice",.ref ch),("votes",.int v),("waiting",.ref wl),("handed_up",.ref ul),("tally",.ref ct)]))= .ins CA.post dx (pF ch v.toNat wl ul ct nw):=by
  show HO.ins CA.post dx [("choice",.ref ch),("votes",.int v),("waiting",.ref wl),("handed_up",.ref ul),("tally",.ref ct),("now",.ref nw)]=_
  rw[ev,YR]
 rw[eF]
 generalize upd H2 a _=Hz at m9_
 have hnw':=m9_.nw (nw,_) (.head _)
 have hct':=m9_.nw (ct,_) (.tail _ (.head _))
 have hul':=m9_.nw (ul,_) (.tail _ (.tail _ (.head _)))
 have hwl':=m9_.nw (wl,_) (.tail _ (.tail _ (.tail _ (.head _))))
 have nd9:=m9_.nd
 have nwu:wl≠ul:=fun z=>by
  rw[z]at nd9
  exact absurd nd9 (by simp)
 have nch:ch≠a:=fun z=>by rw[z,e]at ec;cases ec
 have hb1:=iR.mp hm.1
 have hb2:=iR.mp hm.2
 have ec1:((m1.toNat:Nat):Int)=m1:=by omega
 have ec2:((m2.toNat:Nat):Int)=m2:=by omega
 refine q1 ⟨hm.1,hm.2,hv⟩ Hz (fun x=>(x=a\/x=wl\/x=ul\/x=ct)\/x=nw) ⟨nw,fun x=>x=a\/x=wl\/x=ul\/x=ct,fun x=>x=nw,⟨dx,ch,wl,ul,ct, [], [],m9_.ea,?_,hwl'.2.2,.nil,hul'.2.2,.nil,⟨dc,hct'.2.2⟩,.inl rfl,.inr (.inl rfl),.inr (.inr (.inl rfl)),.inr (.inr (.inr rfl)),nwu,?_⟩,iC hnw'.2.2 ⟨dn,hnw'.2.2⟩,?_,⟨?_,(fun _ z=>nomatch z),trivial⟩,fun x hx=>hx,?_⟩ ?_ ?_
 ·show Hz ch=some (.tup [.int ((m1.toNat:Nat):Int),.int ((m2.toNat:Nat):Int)])
  rw[ec1,ec2]
  exact m9_.kp ch _ nch ec
 ·rintro x (rfl | rfl | rfl | rfl)
  ·rw[m9_.ea];simp
  ·rw[hwl'.2.2];simp
  ·rw[hul'.2.2];simp
  ·rw[hct'.2.2];simp
 ·rintro x hx hy
  have hy':x=nw:=hy
  rcases hx with rfl | rfl | rfl | rfl
  ·exact hnw'.2.1 hy'.symm
  ·rw[hy']at nd9;exact absurd nd9 (by simp)
  ·rw[hy']at nd9;exact absurd nd9 (by simp)
  ·rw[hy']at nd9;exact absurd nd9 (by simp)
 ·show v.toNat<=5
  omega
 ·rintro x ((rfl | rfl | rfl | rfl) | rfl)
  ·rw[m9_.ea];simp
  ·rw[hwl'.2.2];simp
  ·rw[hul'.2.2];simp
  ·rw[hct'.2.2];simp
  ·rw[hnw'.2.2];simp
 ·rintro x ((rfl | rfl | rfl | rfl) | rfl)
  ·exact .inl rfl
  ·exact .inr hwl'.1
  ·exact .inr hul'.1
  ·exact .inr hct'.1
  ·exact .inr hnw'.1
 ·exact m9_.kp
variable (Zdh:MB P w K mg base (CX0) 1 ZeT Zin ["self"] (dO CA 0))
include Zx ZO in
theorem Zmb (F0:Fun K "shown" "Free.shown" ZiK ZeT Zin):type_of% Zdh:=by
 refine mbK ["self"] F0 fun H Q nd hr h=>?_
 obtain⟨nw,S,o,rfl,tg,st,q⟩:=h
 refine⟨_,(aF (aN (bN (aA bF (aA (aP Zx ZO (dv 0)) aC))))),?_⟩
 obtain⟨sa,on,al⟩:=id st
 cases en:S.now with
 | free k=>
  rw[en]at sa
  obtain⟨dx,e⟩:=sa
  refine⟨dx,_,_,e,rfl,aL rfl,fun t ht=>q t _ ht (aK ht _) ?_⟩
  rw[aB,en]
  rfl
 |speaks n ds k=>rw[en]at tg;cases tg
 |reads h=>rw[en]at tg;cases tg
 |tlS v c=>rw[en]at tg;cases tg
 |tlR n ds v c=>rw[en]at tg;cases tg
 |flag l m=>rw[en]at tg;cases tg
 |settles m=>rw[en]at tg;cases tg
 |rests l=>rw[en]at tg;cases tg
 |off  =>rw[en]at tg;cases tg
variable (ZcG:MB P w K mg base (CX0) 1 Zeh ZgR ["self"] (dO CA 1))
include Zk Zv in
theorem ZkF (F0:Fun K "shown" "Speaks.shown" Zg8 Zeh ZgR):type_of% ZcG:=by
 refine mbK ["self"] F0 fun H Q nd hr h=>?_
 obtain⟨nw,S,o,rfl,tg,st,q⟩:=h
 refine⟨_,(aF (aN (bN (aA bF (aA (aP Zk Zv (dv 0)) aC))))),?_⟩
 obtain⟨sa,on,al⟩:=id st
 cases en:S.now with
 |free k=>rw[en]at tg;cases tg
 | speaks n ds k=>
  rw[en]at sa
  obtain⟨dx,wa,r,st,ks,t0,e,_⟩:=sa
  refine⟨dx,_,_,e,rfl,aL rfl,fun t ht=>q t _ ht (aK ht _) ?_⟩
  rw[aB,en]
  rfl
 |reads h=>rw[en]at tg;cases tg
 |tlS v c=>rw[en]at tg;cases tg
 |tlR n ds v c=>rw[en]at tg;cases tg
 |flag l m=>rw[en]at tg;cases tg
 |settles m=>rw[en]at tg;cases tg
 |rests l=>rw[en]at tg;cases tg
 |off  =>rw[en]at tg;cases tg
variable (ZcY:MB P w K mg base (CX0) 1 ZeE ZhB ["self"] (dO CA 2))
include Zu Zah in
theorem Zlk (F0:Fun K "shown" "Reads.shown" Zh1 ZeE ZhB):type_of% ZcY:=by
 refine mbK ["self"] F0 fun H Q nd hr h=>?_
 obtain⟨nw,S,o,rfl,tg,st,q⟩:=h
 refine⟨_,(aF (aN (bN (aA bF (aA (aP Zu Zah (dv 0)) aC))))),?_⟩
 obtain⟨sa,on,al⟩:=id st
 cases en:S.now with
 |free k=>rw[en]at tg;cases tg
 |speaks n ds k=>rw[en]at tg;cases tg
 | reads h=>
  rw[en]at sa
  obtain⟨dx,r,st,ks,t0,e,_⟩:=sa
  refine⟨dx,_,_,e,rfl,aL rfl,fun t ht=>q t _ ht (aK ht _) ?_⟩
  rw[aB,en]
  rfl
 |tlS v c=>rw[en]at tg;cases tg
 |tlR n ds v c=>rw[en]at tg;cases tg
 |flag l m=>rw[en]at tg;cases tg
 |settles m=>rw[en]at tg;cases tg
 |rests l=>rw[en]at tg;cases tg
 |off  =>rw[en]at tg;cases tg
variable (ZcA:MB P w K mg base (CX0) 2 Zd9 ZgJ ["self"] (dO CA 3))
include Zj Zi Zn Za9 Za3 Zs Zdo in
theorem Zkx (F0:Fun K "shown" "InTail.shown" Zg0 Zd9 ZgJ):type_of% ZcA:=by
 refine mbK ["self"] F0 fun H Q nd hr h=>?_
 obtain⟨nw,S,o,rfl,tg,st,q⟩:=h
 refine⟨_,(aF (aN (bN (aA (cD (dC (bV (fH (aP Zn Zs (dv 0)))) bF bF)) (aA (sU Zdo.1 hr.mo Zdo.2 .nil aM (aP Zn Zs (dv 0))) aC))))),?_⟩
 obtain⟨sa,on,al⟩:=id st
 cases en:S.now with
 |free k=>rw[en]at tg;cases tg
 |speaks n ds k=>rw[en]at tg;cases tg
 |reads h=>rw[en]at tg;cases tg
 | tlS v c=>
  rw[en]at sa
  obtain⟨dx,tl,e,ht,_⟩:=sa
  obtain⟨C,d,hC,e1⟩:=id ht
  have hc:=jK Zj Zi hC
  have hm:=oZ Za9 Za3 hC
  refine⟨fun x H'=>x= .str "tail speaks"/\H'=H,?_,?_⟩
  ·exact⟨dx,_,.ref tl,e,rfl,C,d,_,_,e1,hc.cls,hc.n2,rfl,rfl,rfl⟩
  rintro x H' ⟨rfl,rfl⟩
  refine⟨dx,_,.ref tl,e,rfl,⟨C,d,_,e1,hc.cls,hm,rfl⟩,tl,S.vt,true,v,c,rfl,ht,aL rfl,fun t h=>q t _ h (aK h _) ?_⟩
  rw[aB,en]
  rfl
 | tlR n ds v c=>
  rw[en]at sa
  obtain⟨dx,tl,t0,d0,e,ht,_⟩:=sa
  obtain⟨C,d,hC,e1⟩:=id ht
  have hc:=jK Zj Zi hC
  have hm:=oZ Za9 Za3 hC
  refine⟨fun x H'=>x= .str "tail reads"/\H'=H,?_,?_⟩
  ·exact⟨dx,_,.ref tl,e,rfl,C,d,_,_,e1,hc.cls,hc.n2,rfl,rfl,rfl⟩
  rintro x H' ⟨rfl,rfl⟩
  refine⟨dx,_,.ref tl,e,rfl,⟨C,d,_,e1,hc.cls,hm,rfl⟩,tl,S.vt,false,v,c,rfl,ht,aL rfl,fun t h=>q t _ h (aK h _) ?_⟩
  rw[aB,en]
  rfl
 |flag l m=>rw[en]at tg;cases tg
 |settles m=>rw[en]at tg;cases tg
 |rests l=>rw[en]at tg;cases tg
 |off  =>rw[en]at tg;cases tg
variable (ZbD:MB P w K mg base (CX0) 1 Zdu Zf2 ["self"] (dO CA 4))
include Zp ZN in
theorem Zi9 (F0:Fun K "shown" "Flagging.shown" Zgb Zdu Zf2):type_of% ZbD:=by
 refine mbK ["self"] F0 fun H Q nd hr h=>?_
 obtain⟨nw,S,o,rfl,tg,st,q⟩:=h
 refine⟨_,(aF (aN (bN (aA bF (aA (aP Zp ZN (dv 0)) aC))))),?_⟩
 obtain⟨sa,on,al⟩:=id st
 cases en:S.now with
 |free k=>rw[en]at tg;cases tg
 |speaks n ds k=>rw[en]at tg;cases tg
 |reads h=>rw[en]at tg;cases tg
 |tlS v c=>rw[en]at tg;cases tg
 |tlR n ds v c=>rw[en]at tg;cases tg
 | flag l m=>
  rw[en]at sa
  obtain⟨dx,e⟩:=sa
  refine⟨dx,_,_,e,rfl,aL rfl,fun t ht=>q t _ ht (aK ht _) ?_⟩
  rw[aB,en]
  rfl
 |settles m=>rw[en]at tg;cases tg
 |rests l=>rw[en]at tg;cases tg
 |off  =>rw[en]at tg;cases tg
variable (Zb5:MB P w K mg base (CX0) 1 ZdW Zgo ["self"] (dO CA 5))
def Zkb (F0:Fun K "shown" "Settles.shown" Zgx ZdW Zgo):type_of% Zb5:=by
 refine mbK ["self"] F0 fun H Q nd hr h=>?_
 obtain⟨nw,S,o,rfl,tg,st,q⟩:=h
 refine⟨_,(aF (aN (bN (aA bF (aA aG aC))))),?_⟩
 obtain⟨sa,on,al⟩:=id st
 cases en:S.now with
 |free k=>rw[en]at tg;cases tg
 |speaks n ds k=>rw[en]at tg;cases tg
 |reads h=>rw[en]at tg;cases tg
 |tlS v c=>rw[en]at tg;cases tg
 |tlR n ds v c=>rw[en]at tg;cases tg
 |flag l m=>rw[en]at tg;cases tg
 | settles m=>
  rw[en]at sa
  refine⟨aL rfl,fun t ht=>q t _ ht (aK ht _) ?_⟩
  rw[aB,en]
  rfl
 |rests l=>rw[en]at tg;cases tg
 |off  =>rw[en]at tg;cases tg
variable (ZcZ:MB P w K mg base (CX0) 1 ZeF ZhC ["self"] (dO CA 6))
include ZA Z7 in
theorem Zll (F0:Fun K "shown" "Rests.shown" Zh2 ZeF ZhC):type_of% ZcZ:=by
 refine mbK ["self"] F0 fun H Q nd hr h=>?_
 obtain⟨nw,S,o,rfl,tg,st,q⟩:=h
 refine⟨_,(aF (aN (bN (aA bF (aA (aP ZA Z7 (dv 0)) aC))))),?_⟩
 obtain⟨sa,on,al⟩:=id st
 cases en:S.now with
 |free k=>rw[en]at tg;cases tg
 |speaks n ds k=>rw[en]at tg;cases tg
 |reads h=>rw[en]at tg;cases tg
 |tlS v c=>rw[en]at tg;cases tg
 |tlR n ds v c=>rw[en]at tg;cases tg
 |flag l m=>rw[en]at tg;cases tg
 |settles m=>rw[en]at tg;cases tg
 | rests l=>
  rw[en]at sa
  obtain⟨dx,e⟩:=sa
  refine⟨dx,_,_,e,rfl,aL rfl,fun t ht=>q t _ ht (aK ht _) ?_⟩
  rw[aB,en]
  rfl
 |off  =>rw[en]at tg;cases tg
variable (ZdD:MB P w K mg base (CX0) 1 Zfm Zjh ["self"] (dO CA 7))
def Zm4 (F0:Fun K "shown" "Off.shown" ZjD Zfm Zjh):type_of% ZdD:=by
 refine mbK ["self"] F0 fun H Q nd hr h=>?_
 obtain⟨nw,S,o,rfl,tg,st,q⟩:=h
 refine⟨_,(aF (aN (bN (aA bF (aA aG aC))))),?_⟩
 obtain⟨sa,on,al⟩:=id st
 cases en:S.now with
 |free k=>rw[en]at tg;cases tg
 |speaks n ds k=>rw[en]at tg;cases tg
 |reads h=>rw[en]at tg;cases tg
 |tlS v c=>rw[en]at tg;cases tg
 |tlR n ds v c=>rw[en]at tg;cases tg
 |flag l m=>rw[en]at tg;cases tg
 |settles m=>rw[en]at tg;cases tg
 |rests l=>rw[en]at tg;cases tg
 | off  =>
  rw[en]at sa
  refine⟨aL rfl,fun t ht=>q t _ ht (aK ht _) ?_⟩
  rw[aB,en]
  rfl
variable (Zbm:MB P w K mg base (CX0) 3 Zfk Zjf ["self","post"] (cV CA 0))
include ZeL Zx Zb Zbs Zan ZO ZaB ZbE in
theorem Zm2 (F0:Fun K "says" "Free.says" ZjB Zfk Zjf):type_of% Zbm:=by
 refine mbK ["self","post"] F0 fun H Q nd hr h=>?_
 obtain⟨nw,p,nwf,S,ob,os,rfl,tg,bd,st,wf,q⟩:=h
 refine⟨_,(aD (bM (dY (bV (bD Zb Zbs ZbE.1 hr.mo ZbE.2 .nil aM (dv 1)))) (aF (aN aG)) aU) (aF (aN (cD (dC (PW.pt (qI (bV (bD Zb Zan ZaB.1 hr.mo ZaB.2 .nil aM (dv 1))) (pL (bA a1S (aP Zx ZO (dv 0)) (bC (v:= .int 8) rfl ZeL ⟨_,rfl⟩) (aV _))))) aG aG))))),?_⟩
 obtain⟨sa,on,al⟩:=id st
 cases en:S.now with
 | free k =>
  rw[en]at sa
  obtain⟨dx,e⟩:=sa
  obtain⟨dp,ch,wl,ul,ct,ws,us,b⟩:=id bd
  have hs:=vV en
  refine⟨⟨dp,_,b.e,rfl⟩,p,nwf,S,ob,rfl,bd,?_⟩
  conv=>whnf
  refine cC (fun c=>?_) (fun c=>?_)
  ·have c1:S.wt= []:=by
    have:(!decide (0<(S.wt.length:Int)))=true:=c
    cases ew:S.wt with
    |nil=>rfl
    | cons f r=>
     rw[ew,Yp (by rw[YU];omega)]at this
     cases this
   rw[if_pos c1]at hs
   rw[hs]at q
   exact q
  have c1:¬ S.wt= []:=fun z=>c (by
   show (!decide (0<(S.wt.length:Int)))=true
   rw[z];rfl)
  rw[if_neg c1]at hs
  refine⟨fun x H'=>x= .int (bQ S)/\H'=H,?_,fun x H' z=>by rw[z.1,z.2];exact q⟩
  refine⟨⟨dp,_,b.e,rfl⟩,p,nwf,S,ob,rfl,bd,?_⟩
  conv=>whnf
  refine cC (fun y=>?_) (fun y=>?_)
  ·have y1:12<=S.tot:=dec_true y
   refine⟨dx,_,_,e,rfl,?_⟩
   conv=>whnf
   refine cC (fun z=>?_) (fun z=>?_)
   ·have z1:((k:Nat):Int)<8:=dec_true z
    rw[hs,if_pos ⟨y1,by omega⟩]
    exact⟨rfl,rfl⟩
   ·have z1:¬ ((k:Nat):Int)<8:=dec_false z
    rw[hs,if_neg fun w=>z1 (by omega)]
    exact⟨rfl,rfl⟩
  ·have y1:¬ 12<=S.tot:=dec_false y
   refine zG ⟨?_,rfl⟩
   rw[hs,if_neg fun w=>y1 w.1]
 |speaks n ds k=>rw[en]at tg;cases tg
 |reads h=>rw[en]at tg;cases tg
 |tlS v c=>rw[en]at tg;cases tg
 |tlR n ds v c=>rw[en]at tg;cases tg
 |flag l m=>rw[en]at tg;cases tg
 |settles m=>rw[en]at tg;cases tg
 |rests l=>rw[en]at tg;cases tg
 |off  =>rw[en]at tg;cases tg
variable (Zc0:MB P w K mg base (CX0) 1 ZeH ZhE ["self","post"] (cV CA 1))
include Zk ZR Zv in
theorem Zln (F0:Fun K "says" "Speaks.says" Zh4 ZeH ZhE):type_of% Zc0:=by
 refine mbK ["self","post"] F0 fun H Q nd hr h=>?_
 obtain⟨nw,p,nwf,S,ob,os,rfl,tg,bd,st,wf,q⟩:=h
 refine⟨_,(aF (aN (bH cT (aP Zk ZR (dv 0)) (aP Zk Zv (dv 0)) (fun _ _=>rfl)))),?_⟩
 obtain⟨sa,on,al⟩:=id st
 cases en:S.now with
 |free k=>rw[en]at tg;cases tg
 | speaks n ds k=>
  rw[en]at sa
  obtain⟨dx,wa,r,st,ks,t0,e,ew,_⟩:=sa
  have hn:=wf.now
  rw[en]at hn
  obtain⟨_,_,hk,_⟩:=hn
  refine⟨dx,_,_,e,rfl,dx,_,_,e,rfl,_,_,Vb ew,vA hk,?_⟩
  have:bQ S=(wr n ds)[k]:=by
   unfold bQ
   rw[en]
   show (wr n ds).getD k 0=_
   rw[Yn,Yb hk]
   rfl
  rw[this]at q
  exact q
 |reads h=>rw[en]at tg;cases tg
 |tlS v c=>rw[en]at tg;cases tg
 |tlR n ds v c=>rw[en]at tg;cases tg
 |flag l m=>rw[en]at tg;cases tg
 |settles m=>rw[en]at tg;cases tg
 |rests l=>rw[en]at tg;cases tg
 |off  =>rw[en]at tg;cases tg
variable (Zdk:MB P w K mg base (CX0) 1 ZeZ Zit ["self","post"] (cV CA 2))
def Zmh (F0:Fun K "says" "Reads.says" ZiQ ZeZ Zit):type_of% Zdk:=by
 refine mbK ["self","post"] F0 fun H Q nd hr h=>?_
 obtain⟨nw,p,nwf,S,ob,os,rfl,tg,bd,st,wf,q⟩:=h
 refine⟨_,(aF (aN aG)),?_⟩
 obtain⟨sa,on,al⟩:=id st
 cases en:S.now with
 |free k=>rw[en]at tg;cases tg
 |speaks n ds k=>rw[en]at tg;cases tg
 | reads h=>
  rw[en]at sa
  have:bQ S=1:=by unfold bQ;rw[en]
  rw[this]at q
  exact q
 |tlS v c=>rw[en]at tg;cases tg
 |tlR n ds v c=>rw[en]at tg;cases tg
 |flag l m=>rw[en]at tg;cases tg
 |settles m=>rw[en]at tg;cases tg
 |rests l=>rw[en]at tg;cases tg
 |off  =>rw[en]at tg;cases tg
variable (ZcQ:MB P w K mg base (CX0) 2 Zet Zhq ["self","post"] (cV CA 3))
include Zj Zi Zn Zbk Zbb Zs ZdL in
theorem Zk9 (F0:Fun K "says" "InTail.says" ZhQ Zet Zhq):type_of% ZcQ:=by
 refine mbK ["self","post"] F0 fun H Q nd hr h=>?_
 obtain⟨nw,p,nwf,S,ob,os,rfl,tg,bd,st,wf,q⟩:=h
 refine⟨_,(aF (aN (sU ZdL.1 hr.mo ZdL.2 .nil aM (aP Zn Zs (dv 0))))),?_⟩
 obtain⟨sa,on,al⟩:=id st
 cases en:S.now with
 |free k=>rw[en]at tg;cases tg
 |speaks n ds k=>rw[en]at tg;cases tg
 |reads h=>rw[en]at tg;cases tg
 | tlS v c=>
  rw[en]at sa
  obtain⟨dx,tl,e,ht,_⟩:=sa
  obtain⟨C,d,hC,e1⟩:=id ht
  have hc:=jK Zj Zi hC
  have hm:=oZ Zbk Zbb hC
  refine⟨dx,_,.ref tl,e,rfl,⟨C,d,_,e1,hc.cls,hm,rfl⟩,tl,S.vt,true,v,c,rfl,ht,?_⟩
  have:bQ S=iV true v:=by unfold bQ;rw[en]
  rw[this]at q
  exact q
 | tlR n ds v c=>
  rw[en]at sa
  obtain⟨dx,tl,t0,d0,e,ht,_⟩:=sa
  obtain⟨C,d,hC,e1⟩:=id ht
  have hc:=jK Zj Zi hC
  have hm:=oZ Zbk Zbb hC
  refine⟨dx,_,.ref tl,e,rfl,⟨C,d,_,e1,hc.cls,hm,rfl⟩,tl,S.vt,false,v,c,rfl,ht,?_⟩
  have:bQ S=iV false v:=by unfold bQ;rw[en]
  rw[this]at q
  exact q
 |flag l m=>rw[en]at tg;cases tg
 |settles m=>rw[en]at tg;cases tg
 |rests l=>rw[en]at tg;cases tg
 |off  =>rw[en]at tg;cases tg
variable (Zb0:MB P w K mg base (CX0) 1 ZdQ Zgi ["self","post"] (cV CA 4))
def Zj5 (F0:Fun K "says" "Flagging.says" Zgr ZdQ Zgi):type_of% Zb0:=by
 refine mbK ["self","post"] F0 fun H Q nd hr h=>?_
 obtain⟨nw,p,nwf,S,ob,os,rfl,tg,bd,st,wf,q⟩:=h
 refine⟨_,(aF (aN aG)),?_⟩
 obtain⟨sa,on,al⟩:=id st
 cases en:S.now with
 |free k=>rw[en]at tg;cases tg
 |speaks n ds k=>rw[en]at tg;cases tg
 |reads h=>rw[en]at tg;cases tg
 |tlS v c=>rw[en]at tg;cases tg
 |tlR n ds v c=>rw[en]at tg;cases tg
 | flag l m=>
  rw[en]at sa
  have:bQ S=0:=by unfold bQ;rw[en]
  rw[this]at q
  exact q
 |settles m=>rw[en]at tg;cases tg
 |rests l=>rw[en]at tg;cases tg
 |off  =>rw[en]at tg;cases tg
variable (ZcE:MB P w K mg base (CX0) 1 Zef ZgP ["self","post"] (cV CA 5))
def ZkD (F0:Fun K "says" "Settles.says" Zg6 Zef ZgP):type_of% ZcE:=by
 refine mbK ["self","post"] F0 fun H Q nd hr h=>?_
 obtain⟨nw,p,nwf,S,ob,os,rfl,tg,bd,st,wf,q⟩:=h
 refine⟨_,(aF (aN aG)),?_⟩
 obtain⟨sa,on,al⟩:=id st
 cases en:S.now with
 |free k=>rw[en]at tg;cases tg
 |speaks n ds k=>rw[en]at tg;cases tg
 |reads h=>rw[en]at tg;cases tg
 |tlS v c=>rw[en]at tg;cases tg
 |tlR n ds v c=>rw[en]at tg;cases tg
 |flag l m=>rw[en]at tg;cases tg
 | settles m=>
  rw[en]at sa
  have:bQ S=1:=by unfold bQ;rw[en]
  rw[this]at q
  exact q
 |rests l=>rw[en]at tg;cases tg
 |off  =>rw[en]at tg;cases tg
variable (Zdm:MB P w K mg base (CX0) 1 Ze2 Ziw ["self","post"] (cV CA 6))
def Zmk (F0:Fun K "says" "Rests.says" ZiT Ze2 Ziw):type_of% Zdm:=by
 refine mbK ["self","post"] F0 fun H Q nd hr h=>?_
 obtain⟨nw,p,nwf,S,ob,os,rfl,tg,bd,st,wf,q⟩:=h
 refine⟨_,(aF (aN aG)),?_⟩
 obtain⟨sa,on,al⟩:=id st
 cases en:S.now with
 |free k=>rw[en]at tg;cases tg
 |speaks n ds k=>rw[en]at tg;cases tg
 |reads h=>rw[en]at tg;cases tg
 |tlS v c=>rw[en]at tg;cases tg
 |tlR n ds v c=>rw[en]at tg;cases tg
 |flag l m=>rw[en]at tg;cases tg
 |settles m=>rw[en]at tg;cases tg
 | rests l=>
  rw[en]at sa
  have:bQ S=1:=by unfold bQ;rw[en]
  rw[this]at q
  exact q
 |off  =>rw[en]at tg;cases tg
variable (Zd3:MB P w K mg base (CX0) 1 ZfN Zkm ["self","post"] (cV CA 7))
def ZnT (F0:Fun K "says" "Off.says" ZkJ ZfN Zkm):type_of% Zd3:=by
 refine mbK ["self","post"] F0 fun H Q nd hr h=>?_
 obtain⟨nw,p,nwf,S,ob,os,rfl,tg,bd,st,wf,q⟩:=h
 refine⟨_,(aF (aN aG)),?_⟩
 obtain⟨sa,on,al⟩:=id st
 cases en:S.now with
 |free k=>rw[en]at tg;cases tg
 |speaks n ds k=>rw[en]at tg;cases tg
 |reads h=>rw[en]at tg;cases tg
 |tlS v c=>rw[en]at tg;cases tg
 |tlR n ds v c=>rw[en]at tg;cases tg
 |flag l m=>rw[en]at tg;cases tg
 |settles m=>rw[en]at tg;cases tg
 |rests l=>rw[en]at tg;cases tg
 | off  =>
  rw[en]at sa
  have:bQ S=1:=by unfold bQ;rw[en]
  rw[this]at q
  exact q
variable (Zd4:MB P w K mg base (CX0) 1 ZfO Zkn ["self","bit","post"] (cU CA 7))
def ZnU (F0:Fun K "step" "Off.step" ZkK ZfO Zkn):type_of% Zd4:=by
 refine mbK ["self","bit","post"] F0 fun H Q nd hr h=>?_
 obtain⟨nw,p,nwf,S,ob,os,bt,rfl,tg,bd,st,dj,wf,hb,hu,q⟩:=h
 refine⟨_,(aF (aN (bN (aA bF (aA (dv 0) aC))))),?_⟩
 obtain⟨sa,on,al⟩:=id st
 cases en:S.now with
 |free k=>rw[en]at tg;cases tg
 |speaks n ds k=>rw[en]at tg;cases tg
 |reads h=>rw[en]at tg;cases tg
 |tlS v c=>rw[en]at tg;cases tg
 |tlR n ds v c=>rw[en]at tg;cases tg
 |flag l m=>rw[en]at tg;cases tg
 |settles m=>rw[en]at tg;cases tg
 |rests l=>rw[en]at tg;cases tg
 | off  =>
  rw[en]at sa
  rw[nG en]at q
  refine⟨aL rfl,fun t ht=>?_⟩
  have g1:=aK ht (.tup [.str "",.ref nw])
  exact q t _ (Stp.go bd dj cQ.refl g1 aB ⟨rfl,rfl,rfl,rfl,rfl,rfl⟩ (st.move fun x v e _=>g1 x v e) fun x hx=> .inl hx)
variable (Zb1:MB P w K mg base (CX0) 3 ZdR Zgj ["self","bit","post"] (cU CA 4))
include ZdA Zcy Zp Zbe ZaF ZN ZW Zaz Z8 in
theorem Zj6 (F0:Fun K "step" "Flagging.step" Zgs ZdR Zgj):type_of% Zb1:=by
 refine mbK ["self","bit","post"] F0 fun H Q nd hr h=>?_
 obtain⟨nw,p,nwf,S,ob,os,bt,rfl,tg,bd,st,dj,wf,hb,hu,q⟩:=h
 refine⟨_,(aD (bM (bA fW (aP Zp ZN (dv 0)) aG (aV _)) (aF (aN (bN (aA bF (aA (cJ ZaF Z8.1 hr.mo rfl Zcy Z8.2 .nil aM (aA (aP Zp ZW (dv 0)) aC)) aC))))) aU) (aF (aN (bN (aA bF (aA (cJ Zbe Zaz.1 hr.mo rfl ZdA Zaz.2 .nil aM (aA (aZ lZ (aP Zp ZN (dv 0)) aG) (aA (aP Zp ZW (dv 0)) aC))) aC)))))),?_⟩
 obtain⟨sa,on,al⟩:=id st
 cases en:S.now with
 |free k=>rw[en]at tg;cases tg
 |speaks n ds k=>rw[en]at tg;cases tg
 |reads h=>rw[en]at tg;cases tg
 |tlS v c=>rw[en]at tg;cases tg
 |tlR n ds v c=>rw[en]at tg;cases tg
 | flag l m=>
  rw[en]at sa
  obtain⟨dx,e⟩:=sa
  have hl:=wf.now
  rw[en]at hl
  have hl1:1<=l:=hl
  rw[lU en]at q
  refine⟨dx,_,_,e,rfl,?_⟩
  conv=>whnf
  refine cC (fun c=>?_) (fun c=>?_)
  ·have c1:((l:Nat):Int)=1:=dec_true c
   rw[if_pos (by omega)]at q
   refine⟨dx,_,_,e,rfl,?_⟩
   refine fun x dx' hx hdx hne=>⟨x,dx',_,rfl,aB,fun H2 eH=>⟨rfl,aL rfl,fun t ht=>?_⟩⟩
   have g2:Same H H2:=by rw[eH];exact bO hx hdx
   have e2:H2 x=some (.ins CA.settles dx' [("may_blame",.bl m)]):=by rw[eH];exact aB
   have g3:=aK ht (.tup [.str "",.ref x])
   exact q t _ (lL bd dj cQ.refl (g2.trans g3) aB ⟨rfl,rfl,rfl,rfl,rfl,rfl⟩ hx (g3 _ _ e2) ⟨dx',g3 _ _ e2⟩)
  ·have c1:¬ ((l:Nat):Int)=1:=dec_false c
   rw[if_neg (by omega)]at q
   refine⟨dx,_,_,e,rfl,dx,_,_,e,rfl,?_⟩
   refine fun x dx' hx hdx hne=>⟨x,dx',_,_,rfl,aB,fun H2 eH=>⟨rfl,aL rfl,fun t ht=>?_⟩⟩
   have g2:Same H H2:=by rw[eH];exact bO hx hdx
   have el:((l:Nat):Int)-1=((l-1:Nat):Int):=by omega
   have e2:H2 x=some (.ins CA.flag dx' [("left",.int ((l-1:Nat):Int)),("may_blame",.bl m)]):=by rw[eH,<-el];exact aB
   have g3:=aK ht (.tup [.str "",.ref x])
   exact q t _ (lL bd dj cQ.refl (g2.trans g3) aB ⟨rfl,rfl,rfl,rfl,rfl,rfl⟩ hx (g3 _ _ e2) ⟨dx',g3 _ _ e2⟩)
 |settles m=>rw[en]at tg;cases tg
 |rests l=>rw[en]at tg;cases tg
 |off  =>rw[en]at tg;cases tg
variable (ZcF:MB P w K mg base (CX0) 5 Zeg ZgQ ["self","bit","post"] (cU CA 5))
include Zdp ZbZ ZH ZaJ Zaf Zad Zc4 in
theorem ZkE (F0:Fun K "step" "Settles.step" Zg7 Zeg ZgQ):type_of% ZcF:=by
 refine mbK ["self","bit","post"] F0 fun H Q nd hr h=>?_
 obtain⟨nw,p,nwf,S,ob,os,bt,rfl,tg,bd,st,dj,wf,hb,hu,q⟩:=h
 refine⟨_,(aD (bM (bA fW (dv 1) aG (aV _)) (aF (aN (bN (aA bF (aA (cJ ZaJ Zad.1 hr.mo rfl Zdp Zad.2 .nil aM (aA (bC (v:= .int 3) rfl ZbZ ⟨_,rfl⟩) aC)) aC))))) aU) (aD (bM (bV (aP ZH Zaf (dv 0))) (aF (aN (aQ Zc4.1 hr.mo rfl Zc4.2.2.2 Zc4.2.2.1 Zc4.2.1 .nil aM (aA (dv 2) aC)))) aU) (aF (aN (bN (aA bF (aA (dv 0) aC))))))),?_⟩
 obtain⟨sa,on,al⟩:=id st
 cases en:S.now with
 |free k=>rw[en]at tg;cases tg
 |speaks n ds k=>rw[en]at tg;cases tg
 |reads h=>rw[en]at tg;cases tg
 |tlS v c=>rw[en]at tg;cases tg
 |tlR n ds v c=>rw[en]at tg;cases tg
 |flag l m=>rw[en]at tg;cases tg
 | settles m=>
  rw[en]at sa
  obtain⟨dx,e⟩:=sa
  rw[iQ en]at q
  conv=>whnf
  refine cC (fun c=>?_) (fun c=>?_)
  ·have c1:bt=1:=dec_true c
   rw[if_pos c1]at q
   refine fun x dx' hx hdx hne=>⟨x,dx',_,rfl,aB,fun H2 eH=>⟨rfl,aL rfl,fun t ht=>?_⟩⟩
   have g2:Same H H2:=by rw[eH];exact bO hx hdx
   have e2:H2 x=some (.ins CA.rests dx' [("left",.int ((3:Nat):Int))]):=by rw[eH];exact aB
   have g3:=aK ht (.tup [.str "",.ref x])
   exact q t _ (lL bd dj cQ.refl (g2.trans g3) aB ⟨rfl,rfl,rfl,rfl,rfl,rfl⟩ hx (g3 _ _ e2) ⟨dx',g3 _ _ e2⟩)
  have c1:¬ bt=1:=dec_false c
  rw[if_neg c1]at q
  refine⟨dx,_,_,e,rfl,?_⟩
  cases m with
  | true=>
   rw[if_pos rfl]at q
   exact⟨p,nwf,S,ob,rfl,bd,fun t H' h=>q t H' (h.stp cQ.refl bd)⟩
  | false=>
   rw[if_neg (by decide)]at q
   refine⟨aL rfl,fun t ht=>?_⟩
   have g1:=aK ht (.tup [.str "",.ref nw])
   exact q t _ (Stp.go bd dj cQ.refl g1 aB ⟨rfl,rfl,rfl,rfl,rfl,rfl⟩ (st.move fun x v e _=>g1 x v e) fun x hx=> .inl hx)
 |rests l=>rw[en]at tg;cases tg
 |off  =>rw[en]at tg;cases tg
variable (Zdn:MB P w K mg base (CX0) 5 Ze3 Zix ["self","bit","post"] (cU CA 6))
include Zep Zdp ZA Za8 ZaJ Z7 ZaA Zad Zq in
theorem Zml (F0:Fun K "step" "Rests.step" ZiU Ze3 Zix):type_of% Zdn:=by
 refine mbK ["self","bit","post"] F0 fun H Q nd hr h=>?_
 obtain⟨nw,p,nwf,S,ob,os,bt,rfl,tg,bd,st,dj,wf,hb,hu,q⟩:=h
 refine⟨_,(aD (bM (bA fW (dv 1) aG (aV _)) (aF (aN (aQ Zq.1 hr.mo rfl Zq.2.2.2 Zq.2.2.1 Zq.2.1 .nil aM (aA (dv 2) (aA fQ aC))))) aU) (aF (aN (bN (aA bF (aA (cD (dC (bA fW (aP ZA Z7 (dv 0)) aG (aV _)) (cJ Za8 ZaA.1 hr.mo rfl Zep ZaA.2 .nil aM (aA aG aC)) (cJ ZaJ Zad.1 hr.mo rfl Zdp Zad.2 .nil aM (aA (aZ lZ (aP ZA Z7 (dv 0)) aG) aC)))) aC)))))),?_⟩
 obtain⟨sa,on,al⟩:=id st
 cases en:S.now with
 |free k=>rw[en]at tg;cases tg
 |speaks n ds k=>rw[en]at tg;cases tg
 |reads h=>rw[en]at tg;cases tg
 |tlS v c=>rw[en]at tg;cases tg
 |tlR n ds v c=>rw[en]at tg;cases tg
 |flag l m=>rw[en]at tg;cases tg
 |settles m=>rw[en]at tg;cases tg
 | rests l=>
  rw[en]at sa
  obtain⟨dx,e⟩:=sa
  have hl:=wf.now
  rw[en]at hl
  have hl1:1<=l:=hl
  rw[jY en]at q
  conv=>whnf
  refine cC (fun c=>?_) (fun c=>?_)
  ·have c1:bt=0:=dec_true c
   rw[if_pos c1]at q
   exact⟨p,nwf,S,ob,false,rfl,bd,fun t H' h=>q t H' (h.stp cQ.refl bd)⟩
  have c1:¬ bt=0:=dec_false c
  rw[if_neg c1]at q
  refine⟨fun v H2=>∃x dx',v= .ref x/\H x=none/\Same H H2/\(if l=1 then H2 x=some (.ins CA.free dx' [("since",.int ((0:Nat):Int))]) else H2 x=some (.ins CA.rests dx' [("left",.int ((l-1:Nat):Int))])),?_,?_⟩
  ·refine⟨dx,_,_,e,rfl,?_⟩
   conv=>whnf
   refine cC (fun z=>?_) (fun z=>?_)
   ·have z1:((l:Nat):Int)=1:=dec_true z
    refine fun x dx' hx hdx hne=>⟨x,dx',_,rfl,aB,fun H2 eH=>⟨rfl,x,dx',rfl,hx,by rw[eH];exact bO hx hdx,?_⟩⟩
    rw[if_pos (by omega),eH]
    exact aB
   ·have z1:¬ ((l:Nat):Int)=1:=dec_false z
    have el:((l:Nat):Int)-1=((l-1:Nat):Int):=by omega
    refine⟨dx,_,_,e,rfl,?_⟩
    refine fun x dx' hx hdx hne=>⟨x,dx',_,rfl,aB,fun H2 eH=>⟨rfl,x,dx',rfl,hx,by rw[eH];exact bO hx hdx,?_⟩⟩
    rw[if_neg (by omega),eH,<-el]
    exact aB
  rintro v H2 ⟨x,dx',rfl,hx,g2,e2⟩
  refine⟨aL rfl,fun t ht=>?_⟩
  have g3:=aK ht (.tup [.str "",.ref x])
  by_cases z:l=1
  ·rw[if_pos z]at e2 q
   exact q t _ (lL bd dj cQ.refl (g2.trans g3) aB ⟨rfl,rfl,rfl,rfl,rfl,rfl⟩ hx (g3 _ _ e2) ⟨dx',g3 _ _ e2⟩)
  ·rw[if_neg z]at e2 q
   exact q t _ (lL bd dj cQ.refl (g2.trans g3) aB ⟨rfl,rfl,rfl,rfl,rfl,rfl⟩ hx (g3 _ _ e2) ⟨dx',g3 _ _ e2⟩)
 |off  =>rw[en]at tg;cases tg
variable (ZdC:MB P w K mg base (CX0) 8 Zfl Zjg ["self","bit","post"] (cU CA 0))
include ZaP ZV ZC Zep ZeO ZdN Zx Zb Za8 ZbH ZaV ZaM Za0 ZO Zao ZaA ZaT Zar ZaX Zq Zbm in
theorem Zm3 (F0:Fun K "step" "Free.step" ZjC Zfl Zjg):type_of% ZdC:=by
 refine mbK ["self","bit","post","begins"] F0 fun H Q nd hr h=>?_
 obtain⟨nw,p,nwf,S,ob,os,bt,rfl,tg,bd,st,dj,wf,hb,hu,q⟩:=h
 refine⟨_,(aD (aX (i:=3) nd rfl (Or.inl rfl) (dG fW (bB Zx ZaM Zbm.1 hr.mo Zbm.2 .nil aM (dv 0) (aA (dv 2) aC)) aG (aV _))) (aD (bM (PW.pt (qI (bV (dv 3)) (pL (bA fW (dv 1) aG (aV _))))) (aF (aN (bN (aA bF (aA (cJ ZbH ZaT.1 hr.mo rfl ZeO ZaT.2 .nil aM (aA (bD Zb Za0 ZaX.1 hr.mo ZaX.2 .nil aM (dv 2)) (aA (wF Zao.1 hr.mo rfl Zao.2.2.2 Zao.2.2.1 Zao.2.1 .nil aM) (aA aG aC)))) aC))))) aU) (aD (bM (bV (dv 3)) (aF (aN (aQ Zq.1 hr.mo rfl Zq.2.2.2 Zq.2.2.1 Zq.2.1 .nil aM (aA (dv 2) (aA fQ aC))))) aU) (aD (bM (bA fW (dv 1) aG (aV _)) (aF (aN (bN (aA bF (aA (cJ ZaV Zar.1 hr.mo rfl ZdN Zar.2 .nil aM (aA (wF Zao.1 hr.mo rfl Zao.2.2.2 Zao.2.2.1 Zao.2.1 .nil aM) (aA aG aC))) aC))))) aU) (aF (aN (bN (aA bF (aA (cJ Za8 ZaA.1 hr.mo rfl Zep ZaA.2 .nil aM (aA (aZ dN (aP Zx ZO (dv 0)) aG) aC)) aC))))))))),?_⟩
 obtain⟨sa,on,al⟩:=id st
 cases en:S.now with
 | free k =>
  rw[en]at sa
  obtain⟨dx,e⟩:=sa
  obtain⟨dp,ch,wl,ul,ct,ws,us,b⟩:=id bd
  rw[lR en]at q
  refine⟨⟨dx,_,e,rfl⟩,nw,p,nwf,S,ob,os,rfl,tg,bd,st,wf,?_⟩
  conv=>whnf
  refine cC (fun c=>?_) (fun c=>?_)
  ·have c1:bQ S=0:=dec_true c
   rw[if_pos c1]at q
   conv=>whnf
   refine cC (fun z=>?_) (fun z=>?_)
   ·have z1:bt=0:=dec_true z
    rw[if_pos z1]at q
    cases ewt:S.wt with
    | nil=>
     rw[vV en,if_pos ewt]at c1
     cases c1
    | cons f rr=>
     rw[ewt]at q
     have hf:=wf.wt f (by rw[ewt];exact YH)
     refine⟨⟨dp,_,b.e,rfl⟩,p,nwf,S,ob,f,rr,rfl,bd,ewt,hf,fun pw H1 hpw g1 e1=>?_⟩
     refine⟨rfl,fun r st' ks H2 t0 hR g2 n1 n2 n3=>?_⟩
     refine fun x dx' hx hdx hne=>⟨x,dx',_,_,_,rfl,aB,fun H3 eH=>⟨rfl,aL rfl,fun t ht=>?_⟩⟩
     have g3:Same H2 H3:=by rw[eH];exact bO hx hdx
     have e3:H3 x=some (.ins CA.speaks dx' [("wire",.ref pw),("reader",.ref r),("many",.int ((1:Nat):Int))]):=by rw[eH];exact aB
     have g4:=aK ht (.tup [.str "begins",.ref x])
     have npk:pw≠ks:=fun y=>by rw[y,n3]at e1;cases e1
     have g24:=g3.trans g4
     have gs:=g1.trans (g2.trans g24)
     refine q t _ (Stp.go (os':=fun y=>y=x\/y=pw\/y=r\/y=st'\/y=ks) bd dj cQ.refl gs aB ⟨rfl,rfl,rfl,ewt.symm,rfl,rfl⟩ ⟨⟨dx',pw,r,st',ks,t0,g4 _ _ e3,g24 _ _ (g2 _ _ e1),?_,npk,.inr (.inl rfl),.inr (.inr (.inl rfl)),.inr (.inr (.inr (.inl rfl))),.inr (.inr (.inr (.inr rfl)))⟩,.inl rfl,?_⟩ ?_)
     ·show iU _ _ _ r st' ks ((wr f.1 f.2).take 1) t0
      rw[b3F]
      exact hR.same g24
     ·rintro y (rfl | rfl | rfl | rfl | rfl)
      ·rw[g4 _ _ e3];simp
      ·rw[g24 _ _ (g2 _ _ e1)];simp
      ·obtain⟨d,w⟩:=hR.rd;rw[g24 _ _ w];simp
      ·obtain⟨d,w⟩:=hR.sk;rw[g24 _ _ w];simp
      ·rw[g24 _ _ hR.kp];simp
     ·rintro y (rfl | rfl | rfl | rfl | rfl)
      ·exact .inr (g1.none (g2.none hx))
      ·exact .inr hpw
      ·exact .inr (g1.none n1)
      ·exact .inr (g1.none n2)
      ·exact .inr (g1.none n3)
   ·have z1:¬ bt=0:=dec_false z
    rw[if_neg z1]at q
    conv=>whnf
    refine cC (fun _=>?_) (fun c'=>absurd c c')
    exact⟨p,nwf,S,ob,true,rfl,bd,fun t H' h=>q t H' (h.stp cQ.refl bd)⟩
  have c1:¬ bQ S=0:=dec_false c
  rw[if_neg c1]at q
  refine zG ?_
  conv=>whnf
  refine cC (fun c'=>absurd c' c) (fun _=>?_)
  conv=>whnf
  refine cC (fun z=>?_) (fun z=>?_)
  ·have z1:bt=0:=dec_true z
   rw[if_pos z1]at q
   refine⟨rfl,fun r st' ks H2 t0 hR g2 n1 n2 n3=>?_⟩
   refine fun x dx' hx hdx hne=>⟨x,dx',_,_,rfl,aB,fun H3 eH=>⟨rfl,aL rfl,fun t ht=>?_⟩⟩
   have g3:Same H2 H3:=by rw[eH];exact bO hx hdx
   have e3:H3 x=some (.ins CA.reads dx' [("reader",.ref r),("many",.int ((1:Nat):Int))]):=by rw[eH];exact aB
   have g4:=aK ht (.tup [.str "",.ref x])
   have g24:=g3.trans g4
   refine q t _ (Stp.go (os':=fun y=>y=x\/y=r\/y=st'\/y=ks) bd dj cQ.refl (g2.trans g24) aB ⟨rfl,rfl,rfl,rfl,rfl,rfl⟩ ⟨⟨dx',r,st',ks,t0,g4 _ _ e3,hR.same g24,.inr (.inl rfl),.inr (.inr (.inl rfl)),.inr (.inr (.inr rfl))⟩,.inl rfl,?_⟩ ?_)
   ·rintro y (rfl | rfl | rfl | rfl)
    ·rw[g4 _ _ e3];simp
    ·obtain⟨d,w⟩:=hR.rd;rw[g24 _ _ w];simp
    ·obtain⟨d,w⟩:=hR.sk;rw[g24 _ _ w];simp
    ·rw[g24 _ _ hR.kp];simp
   ·rintro y (rfl | rfl | rfl | rfl)
    ·exact .inr (g2.none hx)
    ·exact .inr n1
    ·exact .inr n2
    ·exact .inr n3
  ·have z1:¬ bt=0:=dec_false z
   rw[if_neg z1]at q
   refine⟨dx,_,_,e,rfl,?_⟩
   refine fun x dx' hx hdx hne=>⟨x,dx',_,rfl,aB,fun H2 eH=>⟨rfl,aL rfl,fun t ht=>?_⟩⟩
   have g2:Same H H2:=by rw[eH];exact bO hx hdx
   have e2:H2 x=some (.ins CA.free dx' [("since",.int ((k+1:Nat):Int))]):=by rw[eH];exact aB
   have g3:=aK ht (.tup [.str "",.ref x])
   exact q t _ (lL bd dj cQ.refl (g2.trans g3) aB ⟨rfl,rfl,rfl,rfl,rfl,rfl⟩ hx (g3 _ _ e2) ⟨dx',g3 _ _ e2⟩)
 |speaks n ds k=>rw[en]at tg;cases tg
 |reads h=>rw[en]at tg;cases tg
 |tlS v c=>rw[en]at tg;cases tg
 |tlR n ds v c=>rw[en]at tg;cases tg
 |flag l m=>rw[en]at tg;cases tg
 |settles m=>rw[en]at tg;cases tg
 |rests l=>rw[en]at tg;cases tg
 |off  =>rw[en]at tg;cases tg
variable (Zdl:MB P w K mg base (CX0) 7 Ze0 Ziu ["self","bit","post"] (cU CA 2))
include ZV ZC Zd2 ZdN ZeN ZfT Zh Zu Zb ZaV ZbG Zdz ZY ZbN Zae Zah Zag Zaj ZcC Zb3 Zar ZaR Zq in
theorem Zmi (F0:Fun K "step" "Reads.step" ZiR Ze0 Ziu):type_of% Zdl:=by
 refine mbK ["self","bit","post","answer"] F0 fun H Q nd hr h=>?_
 obtain⟨nw,p,nwf,S,ob,os,bt,rfl,tg,bd,st,dj,wf,hb,hu,q⟩:=h
 refine⟨_,(aD (aX (i:=3) nd rfl (Or.inl rfl) (bB Zh ZY Zaj.1 hr.mo Zaj.2 .nil aM (aP Zu Zae (dv 0)) (aA (dv 1) aC))) (aD (bM (bA fW (dv 3) bF (aV _)) (aF (aN (bN (aA bF (aA (cJ ZaV Zar.1 hr.mo rfl ZdN Zar.2 .nil aM (aA (aP Zu Zae (dv 0)) (aA (aZ dN (aP Zu Zah (dv 0)) aG) aC))) aC))))) aU) (aD (bM (bA fW (dv 3) bF (aV _)) (aF (aN (bN (aA bF (aA (cJ ZbG ZaR.1 hr.mo rfl ZeN ZaR.2 .nil aM (aA (cJ Zdz Zb3.1 hr.mo rfl ZfT Zb3.2 .nil aM (aA (aP Zb Zag (dv 2)) aC)) (aA (bD Zh ZbN ZcC.1 hr.mo ZcC.2 .nil aM (aP Zu Zae (dv 0))) aC))) aC))))) aU) (aF (aN (aQ Zq.1 hr.mo rfl Zq.2.2.2 Zq.2.2.1 Zq.2.1 .nil aM (aA (dv 2) (aA fQ aC)))))))),?_⟩
 obtain⟨sa,on,al⟩:=id st
 cases en:S.now with
 |free k=>rw[en]at tg;cases tg
 |speaks n ds k=>rw[en]at tg;cases tg
 | reads h=>
  rw[en]at sa
  obtain⟨dx,r,st',ks,t0,e,hR,o1,o2,o3⟩:=sa
  have hn:=wf.now
  rw[en]at hn
  obtain⟨f1,f2,f3⟩:=hn
  have hlen:=b4W f1 f2
  rw[jZ en]at q
  obtain⟨dr,er⟩:=hR.rd
  obtain⟨dk,ek⟩:=hR.sk
  have hbits:bU (h++[bt]):=nQ f1 (fun z hz=>by rw[Yj.mp hz];exact hb)
  refine⟨dx,_,.ref r,e,rfl,⟨dr,_,er,rfl⟩,r,st',ks,h,t0,bt,rfl,hR,hbits,by omega,fun H1 hR1 b1=>?_⟩
  have n1:nw≠r:=qP "many" e er rfl rfl
  have n2:nw≠st':=qP "many" e ek rfl rfl
  have n3:nw≠ks:=a0O e hR.kp
  have e1:=b1 _ _ n1 n2 n3 e
  have k1:=a0W hR b1 o1 o2 o3
  have bd1:=pP bd dj k1
  have k1':cQ (Or2 ob os) H H1:=k1.le fun x hx=> .inr hx
  obtain⟨dr1,er1⟩:=hR1.rd
  generalize hans:ans (h++[bt])=an at hR1 q er1 ⊢
  conv=>whnf
  refine cC (fun c=>?_) (fun c=>?_)
  ·have c1:an="more":=YL c
   rw[if_pos c1]at q
   refine⟨dx,_,.ref r,e1,rfl,dx,_,_,e1,rfl,?_⟩
   refine fun x dx' hx hdx hne=>⟨x,dx',_,_,rfl,aB,fun H2 eH=>⟨rfl,aL rfl,fun t ht=>?_⟩⟩
   have g2:Same H1 H2:=by rw[eH];exact bO hx hdx
   have el:((h.length:Nat):Int)+1=(((h++[bt]).length:Nat):Int):=by rw[Yc,YG];rfl
   have e2:H2 x=some (.ins CA.reads dx' [("reader",.ref r),("many",.int (((h++[bt]).length:Nat):Int))]):=by rw[eH,<-el];exact aB
   have g3:=aK ht (.tup [.str "",.ref x])
   have g13:=g2.trans g3
   refine q t _ (Stp.go (os':=fun y=>y=x\/y=r\/y=st'\/y=ks) bd dj k1 g13 aB ⟨rfl,rfl,rfl,rfl,rfl,rfl⟩ ⟨⟨dx',r,st',ks,an,g3 _ _ e2,hR1.same g13,.inr (.inl rfl),.inr (.inr (.inl rfl)),.inr (.inr (.inr rfl))⟩,.inl rfl,?_⟩ ?_)
   ·rintro y (rfl | rfl | rfl | rfl)
    ·rw[g3 _ _ e2];simp
    ·rw[g13 _ _ er1];simp
    ·obtain⟨d,w⟩:=hR1.sk;rw[g13 _ _ w];simp
    ·rw[g13 _ _ hR1.kp];simp
   ·rintro y (rfl | rfl | rfl | rfl)
    ·exact .inr hx
    ·exact .inl o1
    ·exact .inl o2
    ·exact .inl o3
  have c1:¬ an="more":=fun z=>c (Yp z)
  rw[if_neg c1]at q
  conv=>whnf
  refine cC (fun z=>?_) (fun z=>?_)
  ·have z1:an="whole":=YL z
   rw[if_pos z1]at q
   obtain⟨dp,ch,wl,ul,ct,ws,us,b⟩:=id bd1
   refine⟨dp,_,_,b.e,rfl,?_⟩
   refine fun tl dt htl hdt hne=>⟨tl,dt,S.vt,rfl,aB,fun H2 eH=>⟨rfl,?_⟩⟩
   have g2:Same H1 H2:=by rw[eH];exact bO htl hdt
   have e2:H2 tl=some (.ins CA.rtail dt (tlF S.vt false 0 0)):=by rw[eH];exact aB
   clear eH
   have hR2:=hR1.same g2
   obtain⟨dr2,er2⟩:=hR2.rd
   refine⟨dx,_,.ref r,g2 _ _ e1,rfl,⟨dr2,_,er2,rfl⟩,r,st',ks,h++[bt],rfl,(by rw[hans];exact hR2),hbits,(by rw[Yc,YG];omega),(fun _=>a3M (by rw[b1C,Y5,f3];rfl)),fun _ ok t d H3 hd g3 ed et=>?_,fun no=>absurd (hans.trans z1) no⟩
   refine fun x dx' hx hdx hne=>⟨x,dx',_,_,rfl,aB,fun H4 eH=>⟨rfl,aL rfl,fun t' ht'=>?_⟩⟩
   have g4:Same H3 H4:=by rw[eH];exact bO hx hdx
   have e4:H4 x=some (.ins CA.intail dx' [("tail",.ref tl),("found",.ref t)]):=by rw[eH];exact aB
   clear eH
   have g5:=aK ht' (.tup [.str "",.ref x])
   have g35:=g4.trans g5
   refine q t' _ (Stp.go (os':=fun y=>y=x\/y=tl\/y=d) bd dj k1 (g2.trans (g3.trans g35)) aB ⟨rfl,rfl,rfl,rfl,rfl,rfl⟩ ⟨⟨dx',tl,t,d,g5 _ _ e4,⟨CA.rtail,dt,.inl rfl,g35 _ _ (g3 _ _ e2)⟩,g35 _ _ et,g35 _ _ ed,.inr (.inl rfl),.inr (.inr rfl)⟩,.inl rfl,?_⟩ ?_)
   ·rintro y (rfl | rfl | rfl)
    ·rw[g5 _ _ e4];simp
    ·rw[g35 _ _ (g3 _ _ e2)];simp
    ·rw[g35 _ _ ed];simp
   ·rintro y (rfl | rfl | rfl)
    ·exact .inr (g2.none (g3.none hx))
    ·exact .inr htl
    ·exact .inr (g2.none hd)
  ·have z1:¬ an="whole":=fun y=>z (Yp y)
   rw[if_neg z1]at q
   exact⟨p,nwf,S,ob,false,rfl,bd1,fun t H' h=>q t H' (h.stp k1' bd1)⟩
 |tlS v c=>rw[en]at tg;cases tg
 |tlR n ds v c=>rw[en]at tg;cases tg
 |flag l m=>rw[en]at tg;cases tg
 |settles m=>rw[en]at tg;cases tg
 |rests l=>rw[en]at tg;cases tg
 |off  =>rw[en]at tg;cases tg
variable (Zc1:MB P w K mg base (CX0) 7 ZeI ZhF ["self","bit","post"] (cU CA 1))
include ZV ZC Zd2 ZeO ZdN ZeN Zfx ZfB ZL Zh Zk Zb ZbH ZaV ZbG Zde ZY ZbO ZR Z1 Zv Zag Zaj ZcD ZbF ZaT Zar ZaR Zq in
theorem Zlo (F0:Fun K "step" "Speaks.step" Zh5 ZeI ZhF):type_of% Zc1:=by
 refine mbK ["self","bit","post","own","is_duel"] F0 fun H Q nd hr h=>?_
 obtain⟨nw,p,nwf,S,ob,os,bt,rfl,tg,bd,st,dj,wf,hb,hu,q⟩:=h
 refine⟨_,(aD (aX (i:=3) nd rfl (Or.inl rfl) (bH cT (aP Zk ZR (dv 0)) (aP Zk Zv (dv 0)) (fun _ _=>rfl))) (aD (aX (i:=4) nd rfl (Or.inl rfl) (dG a1S (bG fZ rfl ZL dM (aA (bD Zh ZbO ZcD.1 hr.mo ZcD.2 .nil aM (aP Zk Z1 (dv 0))) aC)) (bC (v:= .int 9) rfl Zfx ⟨_,rfl⟩) (aV _))) (aD (bM (bA fW (bB Zh ZY Zaj.1 hr.mo Zaj.2 .nil aM (aP Zk Z1 (dv 0)) (aA (dv 1) aC)) bF (aV _)) (aF (aN (aQ Zq.1 hr.mo rfl Zq.2.2.2 Zq.2.2.1 Zq.2.1 .nil aM (aA (dv 2) (aA fQ aC))))) aU) (aD (qJ (bM (PW.pt (qI (bA fW (dv 3) aG (aV _)) (qI (bA fW (dv 1) aG (aV _)) (pL (bV (dv 4)))))) (aF (aN (bN (aA bF (aA (cJ ZaV Zar.1 hr.mo rfl ZdN Zar.2 .nil aM (aA (aP Zk Z1 (dv 0)) (aA (aZ dN (aP Zk Zv (dv 0)) aG) aC))) aC))))) aU)) (aD (bM (bA rH (dv 1) (dv 3) (aV _)) (aF (aN (aQ Zq.1 hr.mo rfl Zq.2.2.2 Zq.2.2.1 Zq.2.1 .nil aM (aA (dv 2) (aA fQ aC))))) aU) (aD (bM (bA fW (aZ dN (aP Zk Zv (dv 0)) aG) (bG fZ rfl ZL dM (aA (aP Zk ZR (dv 0)) aC)) (aV _)) (aF (aN (bN (aA bF (aA (cJ ZbG ZaR.1 hr.mo rfl ZeN ZaR.2 .nil aM (aA (cJ Zde ZbF.1 hr.mo rfl ZfB ZbF.2 .nil aM (aA (aP Zb Zag (dv 2)) aC)) (aA oF aC))) aC))))) aU) (aF (aN (bN (aA bF (aA (cJ ZbH ZaT.1 hr.mo rfl ZeO ZaT.2 .nil aM (aA (aP Zk ZR (dv 0)) (aA (aP Zk Z1 (dv 0)) (aA (aZ dN (aP Zk Zv (dv 0)) aG) aC)))) aC))))))))))),?_⟩
 obtain⟨sa,on,al⟩:=id st
 cases en:S.now with
 |free k=>rw[en]at tg;cases tg
 | speaks n ds k=>
  rw[en]at sa
  obtain⟨dx,wa,r,st',ks,t0,e,ew,hR,nwk,o0,o1,o2,o3⟩:=sa
  have hn:=wf.now
  rw[en]at hn
  obtain⟨f1,f2,hk,f4⟩:=hn
  have wl_:=a4E f1
  have wbits:=(a0F f1).wbits
  rw[jM en]at q
  have eg:=getD_get hk
  rw[eg]at q
  obtain⟨dr,er⟩:=hR.rd
  obtain⟨dk,ek⟩:=hR.sk
  have hbits:bU ((wr n ds).take k++[bt]):=nQ (tU wbits) (fun z hz=>by rw[Yj.mp hz];exact hb)
  refine⟨dx,_,.ref wa,e,rfl,dx,_,_,e,rfl,_,_,Vb ew,vA hk,?_⟩
  refine⟨dx,_,.ref r,e,rfl,⟨dr,_,er,rfl⟩,r,st',ks,_,t0,rfl,hR,fun pp H0 hpp g0 e0=>?_⟩
  refine⟨_,.inl (Vb e0),?_⟩
  rw[Ya]
  have hR0:=hR.same g0
  obtain⟨dr0,er0⟩:=hR0.rd
  have ee0:=g0 _ _ e
  refine⟨dx,_,.ref r,ee0,rfl,⟨dr0,_,er0,rfl⟩,r,st',ks,(wr n ds).take k,t0,bt,rfl,hR0,hbits,(by rw[Yx];omega),fun H1 hR1 b1=>?_⟩
  have n1:nw≠r:=qP "wire" e er rfl rfl
  have n2:nw≠st':=qP "wire" e ek rfl rfl
  have n3:nw≠ks:=a0O e hR.kp
  have e1:=b1 _ _ n1 n2 n3 ee0
  have ew1:=b1 _ _ (Va (a0O er ew)) (Va (a0O ek ew)) nwk (g0 _ _ ew)
  have k01:=a0W hR0 b1 o1 o2 o3
  have k1:cQ os H H1:=fun x v ex z=>k01 x v (g0 x v ex) z
  have bd1:=pP bd dj k1
  have k1':cQ (Or2 ob os) H H1:=k1.le fun x hx=> .inr hx
  obtain⟨dr1,er1⟩:=hR1.rd
  conv=>whnf
  refine cC (fun c=>?_) (fun c=>?_)
  ·have c1:ans ((wr n ds).take k++[bt])="six":=YL c
   rw[if_pos c1]at q
   exact⟨p,nwf,S,ob,true,rfl,bd1,fun t H' h=>q t H' (h.stp k1' bd1)⟩
  have c1:¬ ans ((wr n ds).take k++[bt])="six":=fun z=>c (Yp z)
  rw[if_neg c1]at q
  refine⟨fun σ' H'=>σ'= [some (.ref nw),some (.int bt),some (.ref p),some (.int (wr n ds)[k]),some (.bl (decide (((kp ((wr n ds).take k)).length:Int)<9)))]/\H'=H1/\¬ ((wr n ds)[k]=1/\bt=0/\(kp ((wr n ds).take k)).length<9),?_,?_⟩
  ·conv=>whnf
   refine cC (fun y1=>?_) (fun y1=>zG ⟨rfl,rfl,fun z=>dec_false y1 z.1⟩)
   conv=>whnf
   refine cC (fun y2=>?_) (fun y2=>zG ⟨rfl,rfl,fun z=>dec_false y2 z.2.1⟩)
   conv=>whnf
   refine cC (fun y3=>?_) (fun y3=>⟨rfl,rfl,fun z=>dec_false y3 (by have:=z.2.2;omega)⟩)
   have hl:(wr n ds)[k]=1/\bt=0/\(kp ((wr n ds).take k)).length<9:=⟨dec_true y1,dec_true y2,by have:=dec_true y3;omega⟩
   rw[if_pos hl]at q
   refine⟨dx,_,.ref r,e1,rfl,dx,_,_,e1,rfl,?_⟩
   refine fun x dx' hx hdx hne=>⟨x,dx',_,_,rfl,aB,fun H2 eH=>⟨rfl,aL rfl,fun t ht=>?_⟩⟩
   have g2:Same H1 H2:=by rw[eH];exact bO hx hdx
   have el:((k:Nat):Int)+1=((((wr n ds).take k++[bt]).length:Nat):Int):=by rw[Yc,YG,Yx];omega
   have e2:H2 x=some (.ins CA.reads dx' [("reader",.ref r),("many",.int ((((wr n ds).take k++[bt]).length:Nat):Int))]):=by rw[eH,<-el];exact aB
   have g3:=aK ht (.tup [.str "loses",.ref x])
   have g13:=g2.trans g3
   refine q t _ (Stp.go (os':=fun y=>y=x\/y=r\/y=st'\/y=ks) bd dj k1 g13 aB ⟨rfl,rfl,rfl,rfl,rfl,rfl⟩ ⟨⟨dx',r,st',ks,_,g3 _ _ e2,hR1.same g13,.inr (.inl rfl),.inr (.inr (.inl rfl)),.inr (.inr (.inr rfl))⟩,.inl rfl,?_⟩ ?_)
   ·rintro y (rfl | rfl | rfl | rfl)
    ·rw[g3 _ _ e2];simp
    ·rw[g13 _ _ er1];simp
    ·obtain⟨d,w⟩:=hR1.sk;rw[g13 _ _ w];simp
    ·rw[g13 _ _ hR1.kp];simp
   ·rintro y (rfl | rfl | rfl | rfl)
    ·exact .inr hx
    ·exact .inl o1
    ·exact .inl o2
    ·exact .inl o3
  rintro σ' H' ⟨rfl,rfl,nl⟩
  rw[if_neg nl]at q
  conv=>whnf
  refine cC (fun y=>?_) (fun y=>?_)
  ·have y1:¬ bt=(wr n ds)[k]:=fun z=>by
    have:(!decide (bt=(wr n ds)[k]))=true:=y
    rw[Yp z]at this;cases this
   rw[if_neg y1]at q
   exact⟨p,nwf,S,ob,true,rfl,bd1,fun t H' h=>q t H' (h.stp k1' bd1)⟩
  have y1:bt=(wr n ds)[k]:=YE fun z=>y (by
   show (!decide (bt=(wr n ds)[k]))=true
   rw[Yr z];rfl)
  rw[if_pos y1]at q
  have et:(wr n ds).take k++[bt]=(wr n ds).take (k+1):=by rw[Yh hk,y1]
  refine⟨dx,_,_,e1,rfl,dx,_,.ref wa,e1,rfl,_,.inl (Vb ew1),?_⟩
  rw[Ya]
  conv=>whnf
  refine cC (fun z=>?_) (fun z=>?_)
  ·have z1:((k:Nat):Int)+1=(((wr n ds).length:Nat):Int):=dec_true z
   rw[if_pos (by omega)]at q
   obtain⟨dp,ch,wl,ul,ct,ws,us,b⟩:=id bd1
   refine⟨dp,_,_,b.e,rfl,?_⟩
   refine fun tl dt htl hdt hne=>⟨tl,dt,S.vt,rfl,aB,fun H2 eH=>⟨rfl,?_⟩⟩
   have g2:Same H' H2:=by rw[eH];exact bO htl hdt
   have e2:H2 tl=some (.ins CA.stail dt (tlF S.vt true 0 0)):=by rw[eH];exact aB
   clear eH
   refine fun x dx' hx hdx hne=>⟨x,dx',_,_,rfl,aB,fun H4 eH=>⟨rfl,aL rfl,fun t' ht'=>?_⟩⟩
   have g4:Same H2 H4:=by rw[eH];exact bO hx hdx
   have e4:H4 x=some (.ins CA.intail dx' [("tail",.ref tl),("found",.non)]):=by rw[eH];exact aB
   clear eH
   have g5:=aK ht' (.tup [.str "",.ref x])
   have g35:=g4.trans g5
   refine q t' _ (Stp.go (os':=fun y=>y=x\/y=tl) bd dj k1 (g2.trans g35) aB ⟨rfl,rfl,rfl,rfl,rfl,rfl⟩ ⟨⟨dx',tl,g5 _ _ e4,⟨CA.stail,dt,.inr rfl,g35 _ _ e2⟩,.inr rfl⟩,.inl rfl,?_⟩ ?_)
   ·rintro y (rfl | rfl)
    ·rw[g5 _ _ e4];simp
    ·rw[g35 _ _ e2];simp
   ·rintro y (rfl | rfl)
    ·exact .inr (g2.none hx)
    ·exact .inr htl
  ·have z1:¬ ((k:Nat):Int)+1=(((wr n ds).length:Nat):Int):=dec_false z
   rw[if_neg (by omega)]at q
   refine⟨dx,_,.ref wa,e1,rfl,dx,_,.ref r,e1,rfl,dx,_,_,e1,rfl,?_⟩
   refine fun x dx' hx hdx hne=>⟨x,dx',_,_,_,rfl,aB,fun H2 eH=>⟨rfl,aL rfl,fun t ht=>?_⟩⟩
   have g2:Same H' H2:=by rw[eH];exact bO hx hdx
   have e2:H2 x=some (.ins CA.speaks dx' [("wire",.ref wa),("reader",.ref r),("many",.int ((k+1:Nat):Int))]):=by rw[eH];exact aB
   clear eH
   have g3:=aK ht (.tup [.str "",.ref x])
   have g13:=g2.trans g3
   rw[et]at hR1 er1
   refine q t _ (Stp.go (os':=fun y=>y=x\/y=wa\/y=r\/y=st'\/y=ks) bd dj k1 g13 aB ⟨rfl,rfl,rfl,rfl,rfl,rfl⟩ ⟨⟨dx',wa,r,st',ks,_,g3 _ _ e2,g13 _ _ ew1,hR1.same g13,nwk,.inr (.inl rfl),.inr (.inr (.inl rfl)),.inr (.inr (.inr (.inl rfl))),.inr (.inr (.inr (.inr rfl)))⟩,.inl rfl,?_⟩ ?_)
   ·rintro y (rfl | rfl | rfl | rfl | rfl)
    ·rw[g3 _ _ e2];simp
    ·rw[g13 _ _ ew1];simp
    ·rw[g13 _ _ er1];simp
    ·obtain⟨d,w⟩:=hR1.sk;rw[g13 _ _ w];simp
    ·rw[g13 _ _ hR1.kp];simp
   ·rintro y (rfl | rfl | rfl | rfl | rfl)
    ·exact .inr hx
    ·exact .inl o0
    ·exact .inl o1
    ·exact .inl o2
    ·exact .inl o3
 |reads h=>rw[en]at tg;cases tg
 |tlS v c=>rw[en]at tg;cases tg
 |tlR n ds v c=>rw[en]at tg;cases tg
 |flag l m=>rw[en]at tg;cases tg
 |settles m=>rw[en]at tg;cases tg
 |rests l=>rw[en]at tg;cases tg
 |off  =>rw[en]at tg;cases tg
variable (ZcR:MB P w K mg base (CX0) 6 Zeu Zhr ["self","bit","post"] (cU CA 3))
include Zdp ZbZ Zj Zi Ze Zn Zb ZaJ Zcn ZaZ ZbM Zbj Zba Zs ZaH Zl ZdK Zdf Zad ZaW ZcB Zq ZbV in
theorem Zla (F0:Fun K "step" "InTail.step" ZhR Zeu Zhr):type_of% ZcR:=by
 refine mbK ["self","bit","post","answer"] F0 fun H Q nd hr h=>?_
 obtain⟨nw,p,nwf,S,ob,os,bt,rfl,tg,bd,st,dj,wf,hb,hu,q⟩:=h
 refine⟨_,(aD (aX (i:=3) nd rfl (Or.inl rfl) (qQ ZdK.1 hr.mo ZdK.2 .nil aM (aP Zn Zs (dv 0)) (aA (dv 1) aC))) (aD (bM (bA fW (dv 3) bF (aV _)) (aF (aN (bN (aA bF (aA (dv 0) aC))))) aU) (aD (bM (bA fW (dv 3) bF (aV _)) (aF (aN (aQ Zq.1 hr.mo rfl Zq.2.2.2 Zq.2.2.1 Zq.2.1 .nil aM (aA (dv 2) (aA (fH (aP Zn Zs (dv 0))) aC))))) aU) (aD (bM (bA fW (dv 3) bF (aV _)) (aF (aN (aQ ZbV.1 hr.mo rfl ZbV.2.2.2 ZbV.2.2.1 ZbV.2.1 .nil aM (aA (dv 2) (aA (fH (aP Zn Zs (dv 0))) aC))))) aU) (aD (aW (bD Ze Zcn Zdf.1 hr.mo Zdf.2 .nil aM (aP Zb Zl (dv 2)))) (aD (bM (bV (fH (aP Zn Zs (dv 0)))) (aD (aW (bD Zb ZaZ ZaW.1 hr.mo ZaW.2 .nil aM (dv 2))) (aF (aN (bN (aA bF (aA (cJ ZaJ Zad.1 hr.mo rfl Zdp Zad.2 .nil aM (aA (bC (v:= .int 3) rfl ZbZ ⟨_,rfl⟩) aC)) aC)))))) aU) (aD (aW (bB Zb ZbM ZcB.1 hr.mo ZcB.2 .nil aM (dv 2) (aA (aP Zn ZaH (dv 0)) aC))) (aF (aN (bN (aA bF (aA (cJ ZaJ Zad.1 hr.mo rfl Zdp Zad.2 .nil aM (aA (bC (v:= .int 3) rfl ZbZ ⟨_,rfl⟩) aC)) aC)))))))))))),?_⟩
 obtain⟨sa,on,al⟩:=id st
 cases en:S.now with
 |free k=>rw[en]at tg;cases tg
 |speaks n ds k=>rw[en]at tg;cases tg
 |reads h=>rw[en]at tg;cases tg
 | tlS v c=>
  rw[en]at sa
  obtain⟨dx,tl,  e,ht,o1⟩:=sa
  obtain⟨C,dt,hC,e0⟩:=id ht
  have hc:=jK Zj Zi hC
  have hm:=oZ Zbj Zba hC
  rw[nC en]at q
  refine⟨dx,_,.ref tl,e,rfl,⟨C,dt,_,e0,hc.cls,hm,rfl⟩,tl,S.vt,true,v,c,bt,rfl,ht,fun H1 ht1 b1=>?_⟩
  have ntl:nw≠tl:=qP "found" e e0 rfl rfl
  have e1:=b1 _ _ ntl e
  have k1:=a0V ht b1 o1
  have bd1:=pP bd dj k1
  have k1':cQ (Or2 ob os) H H1:=k1.le fun x hx=> .inr hx
  obtain⟨C1,dt1,hC1,et1⟩:=id ht1
  have hc1:=jK Zj Zi hC1
  have al1:∀x,os x->H1 x≠none:=fun x hx=>by
   by_cases z:x=tl
   ·rw[z,et1];simp
   ·cases ex:H x with
    |none=>exact absurd ex (al x hx)
    |some u=>rw[b1 x u z ex];simp
  have hw:=wf.now
  rw[en]at hw
  have hw1:S.wt≠ []:=hw
  generalize fP S.vt true v c bt=an at q ⊢
  conv=>whnf
  refine cC (fun y=>?_) (fun y=>?_)
  ·have y1:an="more":=YL y
   rw[if_pos y1]at q
   refine⟨aL rfl,fun t ht'=>?_⟩
   have g2:=aK ht' (.tup [.str "",.ref nw])
   refine q t _ (Stp.go (os':=os) bd dj k1 g2 aB ⟨rfl,rfl,rfl,rfl,rfl,rfl⟩ ⟨⟨dx,tl,g2 _ _ e1,ht1.same g2,o1⟩,on,fun x hx=>?_⟩ fun x hx=> .inl hx)
   cases ex:H1 x with
   |none=>exact absurd ex (al1 x hx)
   |some u=>rw[g2 x u ex];simp
  have y1:¬ an="more":=fun z=>y (Yp z)
  rw[if_neg y1]at q
  conv=>whnf
  refine cC (fun y=>?_) (fun y=>?_)
  ·have y2:an="fault":=YL y
   rw[if_pos y2]at q
   exact⟨dx,_,.ref tl,e1,rfl,C1,dt1,_,_,et1,hc1.cls,hc1.n2,rfl,p,nwf,S,ob,true,rfl,bd1,fun t H' h=>q t H' (h.stp k1' bd1)⟩
  have y2:¬ an="fault":=fun z=>y (Yp z)
  rw[if_neg y2]at q
  conv=>whnf
  refine cC (fun y=>?_) (fun y=>?_)
  ·have y3:an="refused":=YL y
   rw[if_pos y3]at q
   exact⟨dx,_,.ref tl,e1,rfl,C1,dt1,_,_,et1,hc1.cls,hc1.n2,rfl,p,nwf,S,ob,true,rfl,bd1,fun t H' h=>q t H' (h.stp k1' bd1)⟩
  have y3:¬ an="refused":=fun z=>y (Yp z)
  rw[if_neg y3]at q
  obtain⟨dp,ch,wl,ul,ct,ws,us,b⟩:=id bd1
  obtain⟨dc,ec⟩:=id b.et
  refine⟨dp,_,.ref ct,b.e,rfl,⟨dc,_,ec,rfl⟩,ct,S.tot,rfl,b.et,fun H2 c2 k2=>?_⟩
  obtain⟨b2,kk2⟩:=Bd.count b c2 k2
  have nct:∀x,os x->x≠ct:=fun x hx z=>dj ct b.ot (z▸hx)
  have e2:H2 nw=some (.ins CA.intail dx [("tail",.ref tl),("found",.non)]):=(k2 _ (nct _ on)).trans e1
  have et2:=(k2 _ (nct _ o1)).trans et1
  generalize hn2:mvd S.tot (-1)=n2 at b2 q
  refine⟨dx,_,.ref tl,e2,rfl,C1,dt1,_,_,et2,hc1.cls,hc1.n2,rfl,?_⟩
  obtain⟨dp2,ch2,wl2,ul2,ct2,ws2,us2,b22⟩:=id b2
  refine⟨⟨dp2,_,b22.e,rfl⟩,p,nwf,{ S with tot:=n2 },ob,rfl,b2,hw1,fun H3 b3 k3=>?_⟩
  have k13:cQ (Or2 ob os) H H3:=fun x u ex z=>k3 x u (kk2 x u (k1' x u ex z) (z.imp_left fun y w=>y (.inl w))) (z.imp_left fun y w=>y (.inl w))
  refine fun x dx' hx hdx hne=>⟨x,dx',_,rfl,aB,fun H4 eH=>⟨rfl,aL rfl,fun t' ht'=>?_⟩⟩
  have g4:Same H3 H4:=by rw[eH];exact bO hx hdx
  have e4:H4 x=some (.ins CA.rests dx' [("left",.int ((3:Nat):Int))]):=by rw[eH];exact aB
  clear eH
  have g5:=aK ht' (.tup [.str "done",.ref x])
  refine q t' _ (Stp.go2 (b3.now rfl rfl rfl rfl rfl rfl) k13 (g4.trans g5) aB (iC (g5 _ _ e4) ⟨dx',g5 _ _ e4⟩) (fun y hy=>?_) ?_)
  ·have hy':y=x:=hy
   rw[hy'];exact hx
  ·exact fun y hy=> .inl (.inl hy)
 | tlR n ds v c=>
  rw[en]at sa
  obtain⟨dx,tl,tf,df,e,ht,etf,edf,o1,o2⟩:=sa
  obtain⟨C,dt,hC,e0⟩:=id ht
  have hc:=jK Zj Zi hC
  have hm:=oZ Zbj Zba hC
  rw[nD en]at q
  refine⟨dx,_,.ref tl,e,rfl,⟨C,dt,_,e0,hc.cls,hm,rfl⟩,tl,S.vt,false,v,c,bt,rfl,ht,fun H1 ht1 b1=>?_⟩
  have ntl:nw≠tl:=qP "found" e e0 rfl rfl
  have e1:=b1 _ _ ntl e
  have k1:=a0V ht b1 o1
  have bd1:=pP bd dj k1
  have k1':cQ (Or2 ob os) H H1:=k1.le fun x hx=> .inr hx
  obtain⟨C1,dt1,hC1,et1⟩:=id ht1
  have hc1:=jK Zj Zi hC1
  have etf1:=k1.tup etf
  have ndf:df≠tl:=fun z=>by rw[z,e0]at edf;cases edf
  have edf1:=b1 _ _ ndf edf
  have al1:∀x,os x->H1 x≠none:=fun x hx=>by
   by_cases z:x=tl
   ·rw[z,et1];simp
   ·cases ex:H x with
    |none=>exact absurd ex (al x hx)
    |some u=>rw[b1 x u z ex];simp
  generalize fP S.vt false v c bt=an at q ⊢
  conv=>whnf
  refine cC (fun y=>?_) (fun y=>?_)
  ·have y1:an="more":=YL y
   rw[if_pos y1]at q
   refine⟨aL rfl,fun t ht'=>?_⟩
   have g2:=aK ht' (.tup [.str "",.ref nw])
   refine q t _ (Stp.go (os':=os) bd dj k1 g2 aB ⟨rfl,rfl,rfl,rfl,rfl,rfl⟩ ⟨⟨dx,tl,tf,df,g2 _ _ e1,ht1.same g2,g2 _ _ etf1,g2 _ _ edf1,o1,o2⟩,on,fun x hx=>?_⟩ fun x hx=> .inl hx)
   cases ex:H1 x with
   |none=>exact absurd ex (al1 x hx)
   |some u=>rw[g2 x u ex];simp
  have y1:¬ an="more":=fun z=>y (Yp z)
  rw[if_neg y1]at q
  conv=>whnf
  refine cC (fun y=>?_) (fun y=>?_)
  ·have y2:an="fault":=YL y
   rw[if_pos y2]at q
   exact⟨dx,_,.ref tl,e1,rfl,C1,dt1,_,_,et1,hc1.cls,hc1.n2,rfl,p,nwf,S,ob,false,rfl,bd1,fun t H' h=>q t H' (h.stp k1' bd1)⟩
  have y2:¬ an="fault":=fun z=>y (Yp z)
  rw[if_neg y2]at q
  conv=>whnf
  refine cC (fun y=>?_) (fun y=>?_)
  ·have y3:an="refused":=YL y
   rw[if_pos y3]at q
   exact⟨dx,_,.ref tl,e1,rfl,C1,dt1,_,_,et1,hc1.cls,hc1.n2,rfl,p,nwf,S,ob,false,rfl,bd1,fun t H' h=>q t H' (h.stp k1' bd1)⟩
  have y3:¬ an="refused":=fun z=>y (Yp z)
  rw[if_neg y3]at q
  obtain⟨dp,ch,wl,ul,ct,ws,us,b⟩:=id bd1
  obtain⟨dc,ec⟩:=id b.et
  refine⟨dp,_,.ref ct,b.e,rfl,⟨dc,_,ec,rfl⟩,ct,S.tot,rfl,b.et,fun H2 c2 k2=>?_⟩
  obtain⟨b2,kk2⟩:=Bd.count b c2 k2
  have nct:∀x,os x->x≠ct:=fun x hx z=>dj ct b.ot (z▸hx)
  have e2:H2 nw=some (.ins CA.intail dx [("tail",.ref tl),("found",.ref tf)]):=(k2 _ (nct _ on)).trans e1
  have et2:=(k2 _ (nct _ o1)).trans et1
  generalize hn2:mvd S.tot (-1)=n2 at b2 q
  refine⟨dx,_,.ref tl,e2,rfl,C1,dt1,_,_,et2,hc1.cls,hc1.n2,rfl,?_⟩
  obtain⟨dp2,ch2,wl2,ul2,ct2,ws2,us2,b22⟩:=id b2
  refine⟨⟨dp2,_,b22.e,rfl⟩,dx,_,.ref tf,e2,rfl,p,nwf,{ S with tot:=n2 },ob,tf,df,n,ds,rfl,b2,kk2.tup etf1,(k2 _ (nct _ o2)).trans edf1,fun z=>dj df z o2,hu,fun H3 b3 k3=>?_⟩
  have k13:cQ (Or2 ob os) H H3:=fun x u ex z=>k3 x u (kk2 x u (k1' x u ex z) (z.imp_left fun y w=>y (.inl w))) (z.imp_left fun y w=>y (.inl w))
  refine fun x dx' hx hdx hne=>⟨x,dx',_,rfl,aB,fun H4 eH=>⟨rfl,aL rfl,fun t' ht'=>?_⟩⟩
  have g4:Same H3 H4:=by rw[eH];exact bO hx hdx
  have e4:H4 x=some (.ins CA.rests dx' [("left",.int ((3:Nat):Int))]):=by rw[eH];exact aB
  clear eH
  have g5:=aK ht' (.tup [.str "takes",.ref x])
  refine q t' _ (Stp.go2 (b3.now rfl rfl rfl rfl rfl rfl) k13 (g4.trans g5) aB (iC (g5 _ _ e4) ⟨dx',g5 _ _ e4⟩) (fun y hy=>?_) ?_)
  ·have hy':y=x:=hy
   rw[hy'];exact hx
  ·rintro y (hy | hy)
   ·exact .inl (.inl hy)
   ·have hy':y=df:=hy
    rw[hy'];exact .inl (.inr o2)
 |flag l m=>rw[en]at tg;cases tg
 |settles m=>rw[en]at tg;cases tg
 |rests l=>rw[en]at tg;cases tg
 |off  =>rw[en]at tg;cases tg
variable (ZcT:MB P w K mg base (CX0) 3 Zex Zhu ["self"] (a2G CA))
include Zx Zk Zu Zn Zp ZH ZA Zb Za7 Zco ZbR Zcf ZbL Zbr ZbB Zcg ZcJ ZU Zdh ZcG ZcY ZcA ZbD Zb5 ZcZ ZdD in
theorem Zld (F0:Fun K "stance" "Post.stance" ZhU Zex Zhu):type_of% ZcT:=by
 refine mbK ["self"] F0 fun H Q nd hr h=>?_
 obtain⟨p,S,o,rfl,⟨nw,ob,os,bd,st,dj,wf,inc,al⟩,q⟩:=h
 refine⟨_,(aF (aN (a2W (R:=fun C sp=>(C=CA.free/\sp=dO CA 0)\/(C=CA.speaks/\sp=dO CA 1)\/(C=CA.reads/\sp=dO CA 2)\/(C=CA.intail/\sp=dO CA 3)\/(C=CA.flag/\sp=dO CA 4)\/(C=CA.settles/\sp=dO CA 5)\/(C=CA.rests/\sp=dO CA 6)\/(C=CA.off/\sp=dO CA 7)) (k:=2) (by
  rintro C sp (⟨rfl,rfl⟩ | ⟨rfl,rfl⟩ | ⟨rfl,rfl⟩ | ⟨rfl,rfl⟩ | ⟨rfl,rfl⟩ | ⟨rfl,rfl⟩ | ⟨rfl,rfl⟩ | ⟨rfl,rfl⟩)
  ·exact⟨_,_,_,Zx,Zco,Zdh.1.mono (by decide),Zdh.2⟩
  ·exact⟨_,_,_,Zk,ZbR,ZcG.1.mono (by decide),ZcG.2⟩
  ·exact⟨_,_,_,Zu,Zcf,ZcY.1.mono (by decide),ZcY.2⟩
  ·exact⟨_,_,_,Zn,ZbL,ZcA.1.mono (by decide),ZcA.2⟩
  ·exact⟨_,_,_,Zp,Zbr,ZbD.1.mono (by decide),ZbD.2⟩
  ·exact⟨_,_,_,ZH,ZbB,Zb5.1.mono (by decide),Zb5.2⟩
  ·exact⟨_,_,_,ZA,Zcg,ZcZ.1.mono (by decide),ZcZ.2⟩
  ·exact⟨_,_,_,Za7,ZcJ,ZdD.1.mono (by decide),ZdD.2⟩) hr.mo aM (aP Zb ZU (dv 0))))),?_⟩
 obtain⟨dp,ch,wl,ul,ct,ws,us,b⟩:=id bd
 obtain⟨C,dd,fs,hS,⟨l1,l2,l3⟩,hd⟩:=st.disp
 exact⟨dp,_,.ref nw,b.e,rfl,C,dd,_,_,hS,l3,hd (dO CA),nw,S,os,rfl,rfl,st,q⟩
variable (ZdH:MB P w K mg base (CX0) 4 Zfq Zjl ["self"] (a5H CA))
include Zx Zk Zu Zn Zp ZH ZA Zb Za7 ZaM Zch Zcr Zb8 Zbx ZbP Zct Zc7 ZU Zbm Zc0 Zdk ZcQ Zb0 ZcE Zdm Zd3 in
theorem Zm8 (F0:Fun K "says" "Post.says" ZjH Zfq Zjl):type_of% ZdH:=by
 refine mbK ["self"] F0 fun H Q nd hr h=>?_
 obtain⟨p,S,o,rfl,⟨nw,ob,os,bd,st,dj,wf,inc,al⟩,q⟩:=h
 refine⟨_,(aF (aN (wM (R:=fun C sp=>(C=CA.free/\sp=cV CA 0)\/(C=CA.speaks/\sp=cV CA 1)\/(C=CA.reads/\sp=cV CA 2)\/(C=CA.intail/\sp=cV CA 3)\/(C=CA.flag/\sp=cV CA 4)\/(C=CA.settles/\sp=cV CA 5)\/(C=CA.rests/\sp=cV CA 6)\/(C=CA.off/\sp=cV CA 7)) (k:=3) (by
  rintro C sp (⟨rfl,rfl⟩ | ⟨rfl,rfl⟩ | ⟨rfl,rfl⟩ | ⟨rfl,rfl⟩ | ⟨rfl,rfl⟩ | ⟨rfl,rfl⟩ | ⟨rfl,rfl⟩ | ⟨rfl,rfl⟩)
  ·exact⟨_,_,_,Zx,ZaM,Zbm.1.mono (by decide),Zbm.2⟩
  ·exact⟨_,_,_,Zk,Zch,Zc0.1.mono (by decide),Zc0.2⟩
  ·exact⟨_,_,_,Zu,Zcr,Zdk.1.mono (by decide),Zdk.2⟩
  ·exact⟨_,_,_,Zn,Zb8,ZcQ.1.mono (by decide),ZcQ.2⟩
  ·exact⟨_,_,_,Zp,Zbx,Zb0.1.mono (by decide),Zb0.2⟩
  ·exact⟨_,_,_,ZH,ZbP,ZcE.1.mono (by decide),ZcE.2⟩
  ·exact⟨_,_,_,ZA,Zct,Zdm.1.mono (by decide),Zdm.2⟩
  ·exact⟨_,_,_,Za7,Zc7,Zd3.1.mono (by decide),Zd3.2⟩) hr.mo aM (aP Zb ZU (dv 0)) (aA (dv 0) aC)))),?_⟩
 obtain⟨dp,ch,wl,ul,ct,ws,us,b⟩:=id bd
 obtain⟨C,dd,fs,hS,⟨l1,l2,l3⟩,hd⟩:=st.disp
 exact⟨dp,_,.ref nw,b.e,rfl,C,dd,_,_,hS,l1,hd (cV CA),nw,p,nw,S,ob,os,rfl,rfl,bd,st,wf,q⟩
variable (ZdF:MB P w K mg base (CX0) 9 Zfo Zjj ["self","bit"] (a5I CA))
include ZaP ZV ZC Zx Zk Zu Zn Zp ZH ZA Zb Za7 ZcI Zci Zcs Zb9 Zby ZbQ Zcu Zc8 ZU Zd4 Zb1 ZcF Zdn ZdC Zdl Zc1 ZcR in
theorem Zm6 (F0:Fun K "hear" "Post.hear" ZjF Zfo Zjj):type_of% ZdF:=by
 refine mbK ["self","bit","told"] F0 fun H Q nd hr h=>?_
 obtain⟨p,S,o,bt,rfl,⟨nw,ob,os,bd,st,dj,wf,inc,al⟩,hb,hu,q⟩:=h
 refine⟨_,(aD (aX (i:=2) nd rfl (Or.inl rfl) (wM (R:=fun C sp=>(C=CA.free/\sp=cU CA 0)\/(C=CA.speaks/\sp=cU CA 1)\/(C=CA.reads/\sp=cU CA 2)\/(C=CA.intail/\sp=cU CA 3)\/(C=CA.flag/\sp=cU CA 4)\/(C=CA.settles/\sp=cU CA 5)\/(C=CA.rests/\sp=cU CA 6)\/(C=CA.off/\sp=cU CA 7)) (k:=8) (by
  rintro C sp (⟨rfl,rfl⟩ | ⟨rfl,rfl⟩ | ⟨rfl,rfl⟩ | ⟨rfl,rfl⟩ | ⟨rfl,rfl⟩ | ⟨rfl,rfl⟩ | ⟨rfl,rfl⟩ | ⟨rfl,rfl⟩)
  ·exact⟨_,_,_,Zx,ZcI,ZdC.1.mono (by decide),ZdC.2⟩
  ·exact⟨_,_,_,Zk,Zci,Zc1.1.mono (by decide),Zc1.2⟩
  ·exact⟨_,_,_,Zu,Zcs,Zdl.1.mono (by decide),Zdl.2⟩
  ·exact⟨_,_,_,Zn,Zb9,ZcR.1.mono (by decide),ZcR.2⟩
  ·exact⟨_,_,_,Zp,Zby,Zb1.1.mono (by decide),Zb1.2⟩
  ·exact⟨_,_,_,ZH,ZbQ,ZcF.1.mono (by decide),ZcF.2⟩
  ·exact⟨_,_,_,ZA,Zcu,Zdn.1.mono (by decide),Zdn.2⟩
  ·exact⟨_,_,_,Za7,Zc8,Zd4.1.mono (by decide),Zd4.2⟩) hr.mo aM (aP Zb ZU (dv 0)) (aA (dv 1) (aA (dv 0) aC)))) (aD (bW Zb ZU (dv 0) (bH fK (dv 2) aG (fun _ _=>rfl))) (aF (aN (bH fK (dv 2) aG (fun _ _=>rfl)))))),?_⟩
 obtain⟨dp,ch,wl,ul,ct,ws,us,b⟩:=id bd
 obtain⟨C,dd,fs,hS,⟨l1,l2,l3⟩,hd⟩:=st.disp
 refine⟨dp,_,.ref nw,b.e,rfl,C,dd,_,_,hS,l2,hd (cU CA),nw,p,nw,S,ob,os,bt,rfl,rfl,bd,st,dj,wf,hb,hu,fun t H' hs=>?_⟩
 obtain⟨nw',ob',os',et,b',s',dj',mv⟩:=hs
 obtain⟨dp',ch',wl',ul',ct',ws',us',bb⟩:=id b'
 refine⟨_,_,Vc et,rfl,dp',_,bb.e,(show 6<1000 by decide),?_⟩
 obtain⟨hp1,hp2⟩:=a3L (A:=CA) wf hb b' s' dj' bb
 have et':upd H' p (.ins CA.post dp' (pF ch' (bT S bt).2.vt wl' ul' ct' nw')) t=some (.tup [.str (bT S bt).1,.ref nw']):=by rw[aH (fun z=>by rw[z,bb.e]at et;cases et)];exact et
 exact⟨_,_,Vc et',rfl,q _ (Or2 ob' os') hp1 ⟨fun x v ex z=>hp2 x v (mv.1 x v ex (z.imp_left fun y w=>y (inc x w))) (z.imp_left fun y w=>y (by have w':x=p:=w;rw[w'];exact inc p (.inl bd.op))),fun x hx=>(mv.2 x hx).imp_left (inc x)⟩⟩
variable (Zf:MB P w K mg base (CX0) 1 Zeb ZgL ["self","post"] (a5A Zg CA Za4))
include Zw Zz ZL Za ZP in
theorem Zkz (F0:Fun K "post_at" "Rail.post_at" Zg2 Zeb ZgL):type_of% Zf:=by
 refine mbK ["self","post"] F0 fun H Q nd hr h=>?_
 obtain⟨r,R,o,w,k,rfl,hR,q1,q2⟩:=h
 refine⟨_,(aD (bM (dY (wJ xV a1S aG (dv 1) (bG fZ rfl ZL dM (aA (aP Za ZP (dv 0)) aC)))) (aF fX) aU) (aF (aN (bH cT (aP Za ZP (dv 0)) (dv 1) (fun _ _=>rfl))))),?_⟩
 conv=>whnf
 refine cC (fun c=>?_) (fun c=>?_)
 ·have c1:0<=k:=dec_true c
  refine⟨w.dx,_,.ref w.PL,hR.er,rfl,_,.inl (Vb hR.ePL),?_⟩
  rw[Ya,hR.pl]
  conv=>whnf
  refine cC (fun d=>?_) (fun d=>?_)
  ·have d1:¬ k<((R.ps.length:Nat):Int):=fun z=>by
    have d2:(!decide (k<((R.ps.length:Nat):Int)))=true:=d
    rw[Yp z]at d2
    cases d2
   exact(q2 (fun z=>d1 z.2) _ (Vd _))
  ·have d1:k<((R.ps.length:Nat):Int):=YE fun z=>d (by
    show (!decide (k<((R.ps.length:Nat):Int)))=true
    rw[Yr z];rfl)
   obtain⟨i,rfl⟩:=Xa c1
   have hl:i<w.ps.length:=by rw[hR.pl];omega
   have hp:w.ps[i]? =some w.ps[i]:=Yb hl
   exact⟨w.dx,_,.ref w.PL,hR.er,rfl,_,_,Vb hR.ePL,fC (j:=i) (by rw[Yl,hp];rfl),q1 i _ rfl hp⟩
 ·have c1:¬ 0<=k:=dec_false c
  exact(q2 (fun z=>c1 z.1) _ (Vd _))
variable (Zcv:MB P w K mg base (CX0) 9 Zft Zjo ["self","choices","votes"] (a5C Zg CA Za4))
include Zc2 Zw Zz Zfb Zku ZL Za Ze8 ZP Zau ZB Z6 Z0 ZZ ZdG in
theorem Znb (F0:Fun K "__init__" "Rail.__init__" ZjK Zft Zjo):type_of% Zcv:=by
 refine mbK ["self","choices","votes"] F0 fun H Q nd hr h=>?_
 obtain⟨a,dx,cl,v,ms,rfl,ea,hC,hl,q1,q2⟩:=h
 refine⟨_,(aD (bM (dY (wJ xV xV aG (bG fZ rfl ZL dM (aA (dv 1) aC)) (bC (v:= .int 5) rfl Zfb ⟨_,rfl⟩))) (aF fX) aU) (aD (bW Za ZP (dv 0) (iM rfl (ix:=[2]) (cY (dv 1)) (fun C fp s0 H0 at0=>eV) (fun C fp s0 H0 at0=>(cJ Ze8 ZdG.1 hr.mo rfl Zku ZdG.2 .nil aM (aA (dv 0) (aA (dv 1) aC)))) rfl rfl (by rfl) (show ([".0","choice","votes"]:List Str).Nodup by decide +kernel))) (aD (bW Za Zau (dv 0) a6M) (aD (bW Za ZB (dv 0) (cB aC)) (aD (bW Za Z6 (dv 0) (iM rfl (ix:=[]) (cY (dv 1)) (fun C fp s0 H0 at0=>eV) (fun C fp s0 H0 at0=>(cB aC)) rfl rfl (by rfl) (show ([".0","choice"]:List Str).Nodup by decide +kernel))) (aD (bW Za Z0 (dv 0) (iM rfl (ix:=[]) (cY (dv 1)) (fun C fp s0 H0 at0=>eV) (fun C fp s0 H0 at0=>(cB aC)) rfl rfl (by rfl) (show ([".0","choice"]:List Str).Nodup by decide +kernel))) (aF (bW Za ZZ (dv 0) (cB aC))))))))),?_⟩
 obtain⟨ts,ecl,tl,tt⟩:=hC
 have hcla:cl≠a:=fun z=>by rw[z,ea]at ecl;cases ecl
 have hta:∀(i:Nat)(t:Addr)(m:Int×Int),ts[i]? =some t->ms[i]? =some m->t≠a:=fun i t m h1 h2 z=>by have:=tt i t m h1 h2;rw[z,ea]at this;cases this
 refine⟨_,.inl (Vb ecl),?_⟩
 rw[Ya,tl]
 conv=>whnf
 refine cC (fun c=>?_) (fun c=>?_)
 rotate_left
 ·have c1:¬ (1:Int)<=((ms.length:Nat):Int):=dec_false c
  exact(q2 (fun z=>c1 (by have:=z.1.1;omega)) _ fun x u _ h=>h)
 have c1:(1:Int)<=((ms.length:Nat):Int):=dec_true c
 conv=>whnf
 refine cC (fun d=>?_) (fun d=>?_)
 ·have d1:¬ ((ms.length:Nat):Int)<=5:=fun z=>by
   have d2:(!decide (((ms.length:Nat):Int)<=5))=true:=d
   rw[Yp z]at d2
   cases d2
  exact(q2 (fun z=>d1 (by have:=z.1.2;omega)) _ fun x u _ h=>h)
 have d1:((ms.length:Nat):Int)<=5:=YE fun z=>d (by
  show (!decide (((ms.length:Nat):Int)<=5))=true
  rw[Yr z];rfl)
 have l5:ms.length<=5:=by omega
 refine⟨⟨_,Vb ecl⟩,gQ (xs:=ts.map V.ref) (fun i ys H'=>∃(ps:List Addr)(op:Own),ys=ps.map V.ref/\ps.length=i/\Mk0 CA H a H' [(a,.ins Zg dx [])] ps ((ms.take i).map fun m=>S0 m.1.toNat m.2.toNat v.toNat) op/\∀m∈ms.take i,a3U m.1 m.2 v) ?_ ?_ ?_ ?_ ?_⟩
 ·rintro i ys H' hi ⟨ps,op,rfl,hp,_⟩
  rw[Ya]at hi ⊢
  exact bI (by omega)
 ·exact⟨[],_,rfl,rfl,Mk0.base ea,fun m hm=>by simp at hm⟩
 ·rintro i ys H' hi ⟨ps,op,rfl,hp,mk,_⟩
  exact Vb (mk.kp _ _ hcla ecl)
 ·rintro i x ys H' hx ⟨ps,op,rfl,hp_,mk,hok⟩
  rw[Yl]at hx
  obtain⟨t,ht,rfl⟩:=YM.mp hx
  have hil:i<ms.length:=by rw[<-tl];exact(Yd.mp ht).1
  have hm:ms[i]? =some ms[i]:=Yb hil
  have et:=mk.kp _ _ (hta i t _ ht hm) (tt i t _ ht hm)
  have tk:ms.take (i+1)=ms.take i++[ms[i]]:=Yh hil
  conv=>whnf
  refine fun p dp hp hdp hne=>⟨p,dp,t,_,_,v,rfl,aB,(by rw[aH (aJ et hp),aH (aJ et hdp)];exact et),fun ok H5 o hP hin hk=>⟨rfl,ps++[p],Or2 op o,by rw[Yk];rfl,by rw[Yc,hp_];rfl,?_,?_⟩,fun no H5 hk=>?_⟩
  ·rw[tk,Yk]
   exact mk.post hp hdp hP hin hk
  ·rw [tk]
   intro m hm'
   rcases YB.mp hm' with z | z
   ·exact hok m z
   ·rw[Yj]at z
    rw[z];exact ok
  ·refine q2 (fun z=>no (z.2 _ (YV hil))) H5 fun x u hx h=>?_
   have h':=mk.kp x u hx h
   exact hk x u (aJ h' hp) (by rw[aH (aJ h' hp),aH (aJ h' hdp)];exact h')
 rintro ys H1 ⟨ps,op,rfl,hp_,mk,hok⟩ PL hPL
 rw[Ya,tl,Ys (Yf _)]at mk hok
 have mk1:=Mk0.ins (L1:=[(a,.ins Zg dx [])]) (L2:=[]) (v:= .lst (ps.map V.ref)) (by simpa using mk) hPL
 refine⟨dx,_,mk1.cs.at_ 0 _ rfl,by decide,?_⟩
 have nI:∀{C d:Addr}{fs:List (Str×V)},¬ isT (.ins C d fs):=fun ⟨_,z⟩=>by cases z
 have mk2:=mk1.put (v':= .ins Zg dx (gH "posts" (.ref PL) [])) nI
 generalize upd (upd H1 PL _) a _=H2 at mk2
 intro OW hOW
 have mk3:=Mk0.ins (L1:=(a,.ins Zg dx [("posts",.ref PL)])::(PL,.lst (ps.map V.ref))::[]) (L2:=[]) (v:= .dK []) mk2 hOW
 refine⟨dx,_,mk3.cs.at_ 0 _ rfl,(show 1<1000 by decide),?_⟩
 have mk4:=mk3.put (v':= .ins Zg dx (gH "owners" (.ref OW) [("posts",.ref PL)])) nI
 generalize upd (upd H2 OW _) a _=H3 at mk4
 refine⟨aL rfl,fun BO hBO=>?_⟩
 have mk5:=Mk0.ins (L1:=(a,.ins Zg dx [("posts",.ref PL),("owners",.ref OW)])::(PL,.lst (ps.map V.ref))::(OW,.dK [])::[]) (L2:=[]) (v:= .lst []) mk4 hBO
 refine⟨dx,_,mk5.cs.at_ 0 _ rfl,(show 2<1000 by decide),?_⟩
 have mk6:=mk5.put (v':= .ins Zg dx (gH "borne" (.ref BO) [("posts",.ref PL),("owners",.ref OW)])) nI
 generalize upd (upd H3 BO _) a _=H4 at mk6
 obtain⟨o3,ho3⟩:∃o3:HO,o3= .ins Zg dx [("posts",.ref PL),("owners",.ref OW),("borne",.ref BO)]:=⟨_,rfl⟩
 have mk6':Mk0 CA H a H4 ((a,o3)::(PL,.lst (ps.map V.ref))::(OW,.dK [])::(BO,.lst [])::[]) ps (ms.map fun m=>S0 m.1.toNat m.2.toNat v.toNat) op:=by rw[ho3];exact mk6
 clear mk mk1 mk2 mk3 mk4 mk5 mk6
 refine⟨⟨_,Vb (mk6'.kp _ _ hcla ecl)⟩,gQ (xs:=ts.map V.ref) (fun i ys H'=>∃sas:List Addr,ys=sas.map V.ref/\sas.length=i/\Mk0 CA H a H' ((a,o3)::(PL,.lst (ps.map V.ref))::(OW,.dK [])::(BO,.lst [])::lsC sas (List.replicate i [])) ps (ms.map fun m=>S0 m.1.toNat m.2.toNat v.toNat) op) ?_ ?_ ?_ ?_ ?_⟩
 ·rintro i ys H' hi ⟨sas,rfl,hp,_⟩
  rw[Ya]at hi ⊢
  exact bI (by omega)
 ·exact⟨[],rfl,rfl,mk6'⟩
 ·rintro i ys H' hi ⟨sas,rfl,hp,mk⟩
  exact Vb (mk.kp _ _ hcla ecl)
 ·rintro i x ys H' hx ⟨sas,rfl,hp,mk⟩
  conv=>whnf
  refine⟨aL rfl,fun s1 hs1=>⟨sas++[s1],by rw[Yk];rfl,by rw[Yc,hp];rfl,?_⟩⟩
  rw[wU i hp]
  exact Mk0.ins (L1:=(a,o3)::(PL,.lst (ps.map V.ref))::(OW,.dK [])::(BO,.lst [])::lsC sas (List.replicate i [])) (L2:=[]) (by rw[YQ];exact mk) hs1
 rintro ys H5 ⟨sas,rfl,hsl,mk7⟩ SA hSA
 rw[Ya,tl]at hsl mk7
 have mk8:=Mk0.ins (L1:=(a,o3)::(PL,.lst (ps.map V.ref))::(OW,.dK [])::(BO,.lst [])::[]) (L2:=lsC sas (List.replicate ms.length [])) (v:= .lst (sas.map V.ref)) mk7 hSA
 subst ho3
 refine⟨dx,_,mk8.cs.at_ 0 _ rfl,(show 3<1000 by decide),?_⟩
 have mk9:=mk8.put (v':= .ins Zg dx (gH "sayings" (.ref SA) [("posts",.ref PL),("owners",.ref OW),("borne",.ref BO)])) nI
 generalize upd (upd H5 SA _) a _=H6 at mk9
 obtain⟨o4,ho4⟩:∃o4:HO,o4= .ins Zg dx [("posts",.ref PL),("owners",.ref OW),("borne",.ref BO),("sayings",.ref SA)]:=⟨_,rfl⟩
 have mk9':Mk0 CA H a H6 ((a,o4)::(PL,.lst (ps.map V.ref))::(OW,.dK [])::(BO,.lst [])::(SA,.lst (sas.map V.ref))::lsC sas (List.replicate ms.length [])) ps (ms.map fun m=>S0 m.1.toNat m.2.toNat v.toNat) op:=by rw[ho4];exact mk9
 clear mk6' mk7 mk8 mk9
 refine⟨⟨_,Vb (mk9'.kp _ _ hcla ecl)⟩,gQ (xs:=ts.map V.ref) (fun i ys H'=>∃hes:List Addr,ys=hes.map V.ref/\hes.length=i/\Mk0 CA H a H' ((a,o4)::(PL,.lst (ps.map V.ref))::(OW,.dK [])::(BO,.lst [])::(SA,.lst (sas.map V.ref))::(lsC sas (List.replicate ms.length [])++lsC hes (List.replicate i []))) ps (ms.map fun m=>S0 m.1.toNat m.2.toNat v.toNat) op) ?_ ?_ ?_ ?_ ?_⟩
 ·rintro i ys H' hi ⟨hes,rfl,hp,_⟩
  rw[Ya]at hi ⊢
  exact bI (by omega)
 ·exact⟨[],rfl,rfl,by rw[show lsC [] (List.replicate 0 [])= [] from rfl,YQ];exact mk9'⟩
 ·rintro i ys H' hi ⟨hes,rfl,hp,mk⟩
  exact Vb (mk.kp _ _ hcla ecl)
 ·rintro i x ys H' hx ⟨hes,rfl,hp,mk⟩
  conv=>whnf
  refine⟨aL rfl,fun s1 hs1=>⟨hes++[s1],by rw[Yk];rfl,by rw[Yc,hp];rfl,?_⟩⟩
  rw[wU i hp,<-Xg]
  exact Mk0.ins (L1:=(a,o4)::(PL,.lst (ps.map V.ref))::(OW,.dK [])::(BO,.lst [])::(SA,.lst (sas.map V.ref))::(lsC sas (List.replicate ms.length [])++lsC hes (List.replicate i []))) (L2:=[]) (by rw[YQ];exact mk) hs1
 rintro ys H7 ⟨hes,rfl,hhl,mk10⟩ HE hHE
 rw[Ya,tl]at hhl mk10
 have mk11:=Mk0.ins (L1:=(a,o4)::(PL,.lst (ps.map V.ref))::(OW,.dK [])::(BO,.lst [])::(SA,.lst (sas.map V.ref))::[]) (L2:=lsC sas (List.replicate ms.length [])++lsC hes (List.replicate ms.length [])) (v:= .lst (hes.map V.ref)) mk10 hHE
 subst ho4
 refine⟨dx,_,mk11.cs.at_ 0 _ rfl,(show 4<1000 by decide),?_⟩
 have mk12:=mk11.put (v':= .ins Zg dx (gH "hearings" (.ref HE) [("posts",.ref PL),("owners",.ref OW),("borne",.ref BO),("sayings",.ref SA)])) nI
 generalize upd (upd H7 HE _) a _=H8 at mk12
 refine⟨aL rfl,fun EV hEV=>?_⟩
 have mk13:=Mk0.ins (L1:=(a,.ins Zg dx [("posts",.ref PL),("owners",.ref OW),("borne",.ref BO),("sayings",.ref SA),("hearings",.ref HE)])::(PL,.lst (ps.map V.ref))::(OW,.dK [])::(BO,.lst [])::(SA,.lst (sas.map V.ref))::(HE,.lst (hes.map V.ref))::[]) (L2:=lsC sas (List.replicate ms.length [])++lsC hes (List.replicate ms.length [])) (v:= .lst []) mk12 hEV
 refine⟨dx,_,mk13.cs.at_ 0 _ rfl,(show 5<1000 by decide),?_⟩
 have mk14:=mk13.put (v':= .ins Zg dx (gH "happened" (.ref EV) [("posts",.ref PL),("owners",.ref OW),("borne",.ref BO),("sayings",.ref SA),("hearings",.ref HE)])) nI
 generalize upd (upd H8 EV _) a _=H9 at mk14
 have mk15:Mk0 CA H a H9 (kO Zg a ⟨dx,PL,OW,BO,SA,HE,EV,ps,sas,hes, [],op⟩ (R0 ms v)) ps (R0 ms v).ps op:=mk14
 obtain⟨o,hR,hn⟩:=mk15.fin hsl hhl l5
 exact q1 ⟨⟨by omega,l5⟩,hok⟩ H9 o hR hn mk15.kp
variable (ZdI:MB P w K mg base (CX0) 9 Zfs Zjn ["self","post","name","data"] (a5D K Zg CA Za4 ZdY ZmY))
include ZC Zw Zz Zf8 Zb Za Zc ZcK Zau ZF ZdE Zf in
theorem Zna (F0:Fun K "hand" "Rail.hand" ZjJ Zfs Zjn):type_of% ZdI:=by
 refine mbK ["self","post","name","data","taker"] F0 fun H Q nd hr h=>?_
 obtain⟨r,R,o,w,k,n,a,ds,rfl,hR,hS,hl,how,hwt,q1,q2,q3⟩:=h
 refine⟨_,(aD (aX (i:=4) nd rfl (Or.inl rfl) (bB Za Zc Zf.1 hr.mo Zf.2 .nil aM (dv 0) (aA (dv 1) aC))) (aD (aW (aQ ZF.1 hr.mo rfl ZF.2.2.2 ZF.2.2.1 ZF.2.1 .nil aM (aA (dv 2) (aA (dv 3) aC)))) (aD (bM (bA rH (a6N (a0Y hr) (aP Za Zau (dv 0)) (dv 2) (dv 1) ⟨rfl,rfl,rfl,rfl⟩) (dv 1) (aV _)) (aF fX) aU) (aD (a0L (a0Y hr) (aP Za Zau (dv 0)) (dv 2) (dv 1) rfl) (aF (aW (bB Zb ZcK ZdE.1 hr.mo ZdE.2 .nil aM (dv 4) (aA (dv 2) (aA (dv 3) aC))))))))),?_⟩
 refine⟨⟨w.dx,_,hR.er,rfl⟩,r,R,o,w,k,rfl,hR,fun i p e hp=>?_,fun no H1 g1=>q1 no H1 g1⟩
 subst e
 obtain⟨S,oi,eS,hP,le,back⟩:=hR.step hp
 have hil:i<R.ps.length:=(Yd.mp eS).1
 refine⟨n,a,ds,rfl,hS,hl,fun ok H1 g1=>?_,fun no H1 g1=>q2 ⟨by omega,by omega⟩ no H1 g1⟩
 obtain⟨j,ej,q4,q5⟩:=q3 i S rfl eS ok
 have hR1:=hR.same g1
 refine⟨w.dx,_,.ref w.OW,hR1.er,rfl,w.OW,rfl,.inl ⟨_,.inl hR1.eOW⟩,_,.inl ⟨_,.inl n,.inl hR1.eOW,rfl,rfl⟩,?_⟩
 rw[ej]
 conv=>whnf
 refine cC (fun c=>?_) (fun c=>?_)
 ·have c1:¬ j=((i:Nat):Int):=fun z=>by
   have c2:(!decide (j=((i:Nat):Int)))=true:=c
   rw[Yp z]at c2
   cases c2
  exact(q4 c1 _ g1)
 have c1:j=((i:Nat):Int):=YE fun z=>c (by
  show (!decide (j=((i:Nat):Int)))=true
  rw[Yr z];rfl)
 refine⟨w.dx,_,.ref w.OW,hR1.er,rfl,w.OW,_,rfl,.inl ⟨_,.inl n,hR1.eOW,rfl,bI (by omega),rfl⟩,?_⟩
 obtain⟨hR2,m2⟩:=hR1.put (k:=2) (R':={ R with ow:=putK R.ow (.inl n) (.int ((i:Nat):Int)) }) (w':=w) rfl b7X rfl rfl rfl rfl rfl rfl rfl rfl hR1.ev
 have hS2:=a9B (v:= .dK (putK R.ow (.inl n) (.int ((i:Nat):Int)))) (g1.seq hS) hR1.eOW
 generalize upd H1 w.OW _=H2 at hR2 m2 hS2
 obtain⟨S2,oi2,eS2,hP2,le2,back2⟩:=hR2.step hp
 have ee:S2=S:=Yo (eS2.symm.trans eS)
 subst ee
 obtain⟨dq,ch,vt',wl_,ul,cc,nw,ep⟩:=hP2.cell
 obtain⟨nw5,ob5,bd5,fin5⟩:=hP2.hand
 refine⟨⟨dq,_,ep,rfl⟩,p,nw5,S2,ob5,n,a,ds,rfl,bd5,hS2,hl,hwt _ (Yi eS),fun _ H3 d hd b k=>?_,fun no=>absurd ok no⟩
 obtain⟨o3,hP3,mv3⟩:=fin5 ok H3 d hd b k
 obtain⟨o',op',hR3,m3⟩:=back2 H3 o3 _ mv3 hP3
 exact q5 c1 H3 o' ⟨_,hR3⟩ ((Mv.of g1).trans (m2.trans m3))
variable (Zas:MB P w K mg base (CX0) 12 Zdw Zf4 ["self","hearing"] (sI K Zg CA (qF Za6)))
include ZaP ZV ZC Zz ZD ZL Zhm ZfC Zdb Zb Za ZcM ZcL ZP ZB Z6 Z0 ZZ Zbp ZdH ZdF in
theorem Zjb (F0:Fun K "make_turn" "Rail.make_turn" Zgd Zdw Zf4):type_of% Zas:=by
 refine mbK ["self","hearing","said","bit","heard","post","own","word"] F0 fun H Q nd hr h=>?_
 obtain⟨r,R,o,w,f,hs,ox,Pv,rfl,hR,ne,sz,hox,q⟩:=h
 refine⟨_,(aD (iB (j:=2) nd rfl rfl rfl (ix:=[]) (cY (aP Za ZP (dv 0))) (fun C fp s0 H0 at0=>eV) (fun C fp s0 H0 at0=>(bD Zb ZcM ZdH.1 hr.mo ZdH.2 .nil aM (dv 0))) rfl rfl (by rfl) (show ([".0","post"]:List Str).Nodup by decide +kernel)) (aD (aX (i:=3) nd rfl (Or.inr rfl) (bG (a3X rfl) rfl Zhm a8P (aA (dv 2) aC))) (aD (iB (j:=4) nd rfl rfl rfl (ix:=[1,0,3]) (cO rfl ZD (aA (bG fZ rfl ZL dM (aA (aP Za ZP (dv 0)) aC)) aC)) (fun C fp s0 H0 at0=>eV) (fun C fp s0 H0 at0=>(a6P (K:=K) (b4A Zdb Zbp.1 Zbp.2.1) hr.mo (pv 1) (aA (dv 0) (aA (bG (b3D (K:=K)) rfl ZL dM (aA (aP Za ZB (dv 2)) aC)) (aA (dv 3) aC))))) rfl rfl (by rfl) (show ([".0","post","hearing","self","bit"]:List Str).Nodup by decide +kernel)) (aD (dH YF rfl (b0U rfl ZfC (aA (aP Za ZP (dv 0)) aC)) (mg2 (b4H rfl (wD (cL (i:=5) nd rfl (Or.inl rfl)) (wD (cL (i:=6) nd rfl (Or.inl rfl)) b0J)))) (aD (aW (bR (bH cT (aP Za Z6 (dv 0)) (dv 5) (fun _ _=>rfl)) (aA (bH cT (dv 2) (dv 5) (fun _ _=>rfl)) aC))) (aD (aW (bR (bH cT (aP Za Z0 (dv 0)) (dv 5) (fun _ _=>rfl)) (aA (bH cT (dv 4) (dv 5) (fun _ _=>rfl)) aC))) (aD (aX (i:=7) nd rfl (Or.inl rfl) (bB Zb ZcL ZdF.1 hr.mo ZdF.2 .nil aM (dv 6) (aA (bH cT (dv 4) (dv 5) (fun _ _=>rfl)) aC))) (aF (bM (bA rH (dv 7) bF (aV _)) (aF (aW (bR (aP Za ZZ (dv 0)) (aA (bN (aA (bG fZ rfl ZL dM (aA (aP Za ZB (dv 0)) aC)) (aA (dv 5) (aA (dv 7) aC)))) aC)))) aU)))))) (aD (aW (bR (aP Za ZB (dv 0)) (aA (dv 3) aC))) (aF (aN (dv 3)))))))),?_⟩
 refine⟨w.dx,_,.ref w.PL,hR.er,rfl,⟨_,Vb hR.ePL⟩,gQ (xs:=w.ps.map V.ref) (fun i ys H'=>Same H H'/\ys=((R.ps.take i).map bQ).map V.int) ?_ ?_ ?_ ?_ ?_⟩
 ·rintro i ys H' hi ⟨g,rfl⟩
  rw[Ya,Ya,Yx]
  have:=hR.lp
  exact bI (by omega)
 ·exact⟨Vd _,rfl⟩
 ·rintro i ys H' hi ⟨g,rfl⟩
  exact Vb (g _ _ hR.ePL)
 ·rintro i x ys H' hx ⟨g,rfl⟩
  rw[Yl]at hx
  obtain⟨p,hp,rfl⟩:=YM.mp hx
  obtain⟨S,oi,eS,hP,_⟩:=(hR.same g).step hp
  obtain⟨dq,ch,vt',wl_,ul,cc,nw,ep⟩:=hP.cell
  obtain⟨hil,eS'⟩:=Yd.mp eS
  have tk:R.ps.take (i+1)=R.ps.take i++[S]:=by rw[Yh hil,eS']
  conv=>whnf
  refine⟨⟨dq,_,ep,rfl⟩,p,S,oi,rfl,hP,g,?_⟩
  rw[tk,Yk,Yk]
  rfl
 rintro ys H1 ⟨g1,rfl⟩ sd hsd
 rw[Ya,hR.pl,Ys (Yf _)]
 generalize eU:upd H1 sd _=H2
 have g2:=nS hsd eU
 have esd:=nE eU
 clear eU
 refine⟨_,Vb esd,fun z=>ne (by simpa using z),fun b bm bl=>?_⟩
 obtain⟨p0,hh,h01,q⟩:=q b ⟨bm,bl⟩
 have nox:¬ ox sd:=fun z=>(hox sd z).2 (g1.none hsd)
 have hR2:=hR.same (g1.trans g2)
 have lp:=hR.lp
 refine⟨w.dx,_,.ref w.PL,hR2.er,rfl,_,.inl (Vb hR2.ePL),?_⟩
 rw[Ya,hR2.pl]
 refine⟨⟨by omega,by omega⟩,?_⟩
 rw[YR]
 refine gO (lo:=0) (n:=R.ps.length) (fun i ys H'=>(Mv ox H2 ox H'/\Pv b i H')/\ys=((List.range i).map (hs b)).map V.int) ?_ ?_ ?_ ?_
 ·rintro i ys H' hi ⟨_,rfl⟩
  rw[Ya,Ya,YK]
  exact bI (by omega)
 ·exact⟨⟨Mv.refl,p0 _ (g1.trans g2)⟩,rfl⟩
 ·rintro i ys H' hi ⟨⟨mx,pv⟩,rfl⟩
  have hR3:=hR2.move fun x v e z=>mx.1 x v e (z.imp_left fun y w=>(hox x w).1 y)
  obtain⟨f1,f2⟩:=hh i hi H' pv
  conv=>whnf
  rw[Y8]
  refine⟨f,rfl,f1,w.dx,_,.ref w.BO,hR3.er,rfl,_,.inl (Vb hR3.eBO),f1,?_⟩
  rw[Ya]
  refine f2 _ fun H4 pv4 m4=>⟨⟨mx.trans m4,pv4⟩,?_⟩
  rw[Xr,Yk,Yk]
  rfl
 rintro ys H3 ⟨⟨mx,pv⟩,rfl⟩ hd hhd
 have esd3:=mx.1 _ _ esd (.inl nox)
 have g4:=aK hhd (.lst (((List.range R.ps.length).map (hs b)).map V.int))
 have hR3:=(hR2.move fun x v e z=>mx.1 x v e (z.imp_left fun y w=>(hox x w).1 y)).same (aK hhd (.lst (((List.range R.ps.length).map (hs b)).map V.int)))
 have esd4:=aK hhd (.lst (((List.range R.ps.length).map (hs b)).map V.int)) _ _ esd3
 have ehd:=aB (H:=H3) (a:=hd) (o:= .lst (((List.range R.ps.length).map (hs b)).map V.int))
 have nsd:¬ o sd:=fun z=>by
  have:=hR.al sd z
  cases e:H sd with
  |none=>exact this e
  |some u=>rw[g1 _ _ e]at hsd;cases hsd
 have nhd:¬ o hd:=fun z=>by
  have:=hR.al hd z
  cases e:H hd with
  |none=>exact this e
  |some u=>rw[mx.1 _ _ ((g1.trans g2) _ _ e) (.inl fun y=>(hox hd y).1 z)]at hhd;cases hhd
 generalize upd H3 hd _=H4 at hR3 esd4 ehd g4
 obtain⟨HS,eHS⟩:∃HS,HS=(List.range R.ps.length).map (hs b):=⟨_,rfl⟩
 rw[<-eHS]at ehd q
 have hsi:∀i,i<R.ps.length->HS[i]? =some (hs b i):=fun i hi=>by rw[eHS,Yl,XW hi];rfl
 refine⟨w.dx,_,.ref w.PL,hR3.er,rfl,⟨_,Vb hR3.ePL⟩,a7Y (xs:=w.ps.map V.ref) (a:=w.PL) (fun i σ H'=>∃(o' op:Own)(evs:List V)(x5 x6 x7:Option V),σ= [some (.ref r),some (.ref f),some (.ref sd),some (.int b),some (.ref hd),x5,x6,x7]/\bY Zg CA H' r (aY R HS i) o' { w with op:=op,evs:=evs }/\Mv o H4 o' H') ⟨o,w.op,w.evs,_,_,_,rfl,hR3,Mv.refl⟩ ?_ ?_ ?_⟩
 ·rintro i σ H' hi ⟨o',op,evs,x5,x6,x7,rfl,hRi,m⟩
  exact Vb hRi.ePL
 ·rintro i x σ H' pr hx ⟨o',op,evs,x5,x6,x7,rfl,hRi,m⟩ hpr
  rw[Yl]at hx
  obtain⟨p,hp,rfl⟩:=YM.mp hx
  have hil:i<R.ps.length:=by rw[<-hR.pl];exact(Yd.mp hp).1
  obtain⟨h1,h2,h3,h4,h5,h6,h7⟩:=jF R HS i
  obtain⟨h6a,h6b,h6c⟩:=h6 i (Yf _)
  have hsl:=hR.l2
  have hhl:=hR.l4
  have eS:R.ps[i]? =some R.ps[i]:=Yb hil
  have eX:R.sa[i]? =some (R.sa[i]'(by omega)):=Yb (by omega)
  have eY:R.he[i]? =some (R.he[i]'(by omega)):=Yb (by omega)
  have zX:=sz.sa _ (YV (show i<R.sa.length by omega))
  have zY:=sz.he _ (YV (show i<R.he.length by omega))
  have zU:=sz.up _ (YV hil)
  have zE:=sz.ev
  have zB:=sz.bo
  have hsuc:=kE eS (hsi i hil) eX eY
  generalize R.ps[i]=S at eS hsuc zU
  generalize R.sa[i]'(by omega)=X at eX hsuc zX
  generalize R.he[i]'(by omega)=Y at eY hsuc zY
  have hRp:=hRi.same (aK hpr (.tup [.int ((i:Nat):Int),.ref p]))
  have mp:=m.trans (Mv.of (aK hpr (.tup [.int ((i:Nat):Int),.ref p])))
  refine⟨_,_,Vc aB,?_⟩
  generalize upd H' pr _=H5 at hRp mp
  obtain⟨a1,ha1,ka1⟩:=hRp.sa_at (h6b.trans eX)
  have ea1:=hRp.cs.at_ _ _ ka1
  have ks:∀{o1:Own}{H1:Hp},Mv o H4 o1 H1->¬ o1 sd/\¬ o1 hd/\H1 sd=some (.lst ((R.ps.map bQ).map V.int))/\H1 hd=some (.lst (HS.map V.int)):=fun mm=>⟨fun z=>(mm.2 _ z).elim nsd fun y=>(by rw[esd4]at y;cases y),fun z=>(mm.2 _ z).elim nhd fun y=>(by rw[ehd]at y;cases y),mm.1 _ _ esd4 (.inl nsd),mm.1 _ _ ehd (.inl nhd)⟩
  have sdi:atI ((R.ps.map bQ).map V.int) ((i:Nat):Int)=some (.int (bQ S)):=fC (by rw[Yl,Yl,eS];rfl)
  have hdi:atI (HS.map V.int) ((i:Nat):Int)=some (.int (hs b i)):=fC (by rw[Yl,hsi i hil];rfl)
  refine⟨w.dx,_,.ref w.SA,hRp.er,rfl,_,.ref a1,Vb hRp.eSA,fC (by rw[Yl,ha1];rfl),⟨_,Vb ea1⟩,_,_,Vb (ks mp).2.2.1,sdi,_,ea1,bI (by rw[Ya];omega),?_⟩
  obtain⟨hR6,m6⟩:=hRp.say (b:=bQ S) (h6b.trans eX) ha1
  have mq:=mp.trans m6
  generalize upd H5 a1 _=H6 at hR6 m6 mq
  obtain⟨b1,hb1,kb1⟩:=hR6.he_at (i:=i) (xs:=Y) (h6c.trans eY)
  have eb1:=hR6.cs.at_ _ _ kb1
  refine⟨w.dx,_,.ref w.HE,hR6.er,rfl,_,.ref b1,Vb hR6.eHE,fC (by rw[Yl,hb1];rfl),⟨_,Vb eb1⟩,_,_,Vb (ks mq).2.2.2,hdi,_,eb1,bI (by rw[Ya];omega),?_⟩
  obtain⟨hR7,m7⟩:=hR6.hrd (i:=i) (xs:=Y) (b:=hs b i) (h6c.trans eY) hb1
  have mr:=mq.trans m7
  generalize upd H6 b1 _=H7 at hR7 m7 mr
  obtain⟨S',oi,eS',hP,_,back⟩:=hR7.step hp
  have es:S'=S:=Yo (eS'.symm.trans (h6a.trans eS))
  subst es
  obtain⟨dq,ch,vt',wl_,ul,cc,nw,ep⟩:=hP.cell
  refine⟨⟨dq,_,ep,rfl⟩,_,_,Vb (ks mr).2.2.2,hdi,p,S',oi,_,rfl,hP,h01 i,zU,fun H8 oi' hP8 m8=>?_⟩
  obtain⟨o8,op8,hR8,m8'⟩:=back H8 oi' _ m8 hP8
  have ms:=mr.trans m8'
  have eR:aY R HS (i+1)={ ({ aY R HS i with ps:=(aY R HS i).ps.set i (bT S' (hs b i)).2,sa:=(aY R HS i).sa.set i (X++[bQ S']),he:=(aY R HS i).he.set i (Y++[hs b i]) }:RS) with ev:=(aY R HS i).ev++evt R.bo.length i (bT S' (hs b i)).1 }:=hsuc
  obtain⟨wd,ewd⟩:∃wd,wd=(bT S' (hs b i)).1:=⟨_,rfl⟩
  rw[<-ewd]at eR ⊢
  conv=>whnf
  refine cC (fun c=>?_) (fun c=>?_)
  ·have c1:wd≠"":=fun z=>by
    have c2:(!decide (wd=""))=true:=c
    rw[Yp z]at c2
    cases c2
   refine⟨w.dx,_,.ref w.EV,hR8.er,rfl,⟨_,Vb hR8.eEV⟩,w.dx,_,.ref w.BO,hR8.er,rfl,_,.inl (Vb hR8.eBO),?_⟩
   refine⟨aL rfl,fun t ht=>?_⟩
   have hR9:=hR8.same (aK ht (.tup [.int ((((aY R HS i).bo.map V.int).length:Nat):Int),.int ((i:Nat):Int),.str wd]))
   have mt:=ms.trans (Mv.of (aK ht (.tup [.int ((((aY R HS i).bo.map V.int).length:Nat):Int),.int ((i:Nat):Int),.str wd])))
   have et:=aB (H:=H8) (a:=t) (o:= .tup [.int ((((aY R HS i).bo.map V.int).length:Nat):Int),.int ((i:Nat):Int),.str wd])
   refine⟨_,hR9.eEV,bI (by have:=hR9.ev.len;have h7':evs.length=(aY R HS i).ev.length:=this;show evs.length<=1000;omega),?_⟩
   rw[Ya,h1]at et
   obtain⟨hR10,m10⟩:=hR9.happen (e:=(R.bo.length,i,wd)) (by rw[Ya,h1];exact et)
   refine⟨o8,op8,evs++[.ref t],_,_,_,rfl,?_,mt.trans m10⟩
   rw[eR,show evt R.bo.length i wd= [(R.bo.length,i,wd)] from if_neg c1]
   exact hR10
  ·have c1:wd="":=YE fun z=>c (by
    show (!decide (wd=""))=true
    rw[Yr z];rfl)
   refine⟨o8,op8,evs,_,_,_,rfl,?_,ms⟩
   rw[eR,show evt R.bo.length i wd= [] from if_pos c1,YQ]
   exact hR8
 rintro σ H5 ⟨o5,op,evs,x5,x6,x7,rfl,hR5,m5⟩
 rw[Ya,hR.pl]at hR5
 have zB:=sz.bo
 obtain⟨h1,_⟩:=jF R HS R.ps.length
 refine⟨w.dx,_,.ref w.BO,hR5.er,rfl,⟨_,Vb hR5.eBO⟩,_,hR5.eBO,bI (by rw[Ya,h1];omega),?_⟩
 obtain⟨hR6,m6⟩:=hR5.bear (b:=b)
 refine q H3 H4 _ o5 pv ((Mv.of (g1.trans g2)).trans mx) g4 ⟨{ w with op:=op,evs:=evs },?_⟩ (m5.trans m6)
 have eT:kJ R HS b={ aY R HS R.ps.length with bo:=(aY R HS R.ps.length).bo++[b] }:=by unfold kJ;rw[h1]
 rw[eT]
 exact hR6
variable (ZdJ:MB P w K mg base (CX0) 13 Zfv ZgG ["self","wrong_posts"] (a4Y Zg CA Za4 958))
include Zw Zz ZK Za Zc Zal ZdM Zi3 hc_Rail_turn Zf Zas in
theorem Znd (F0:Fun K "turn" "Rail.turn" ZdO Zfv ZgG):type_of% ZdJ:=by
 refine mbM ["self","wrong_posts","wrong","post"] F0 fun Sc0=>F0.okL hc_Rail_turn Sc0 (fun vs H Q E h=>?_) fun A outer s H vs Q E hr h=>?_
 ·obtain⟨r,R,o,w,wl,ws,ox,rfl,_⟩:=h
  rfl
 obtain⟨r,R,o,w,wl,ws,ox,rfl,ewl,wsl,hR,ne,sz,hT,hox,q1,q2⟩:=h
 have nd:=Sc0.nd
 refine⟨_,(pM (aX (i:=2) nd rfl (Or.inr rfl) (cD (dC (bA b2C (dv 1) oF (aV _)) (cB aC) (cH dF rfl ZK eN (aA (dv 1) aC))))) (pM (dH PassesOwn.leaving rfl (cY (dv 2)) (cL (i:=3) nd rfl (Or.inl rfl)) (aF (aW (bB Za Zc Zf.1 hr.mo Zf.2 .nil aM (dv 0) (aA (dv 3) aC))))) (b4I (P:=958) (bm:=4) (iq:=iqT) (y:="wrong") (iy:=2) (Q:=Q) (dv 0) Za Zal Zas.1 hr.mo Zas.2 rfl Zi3 ZdM (fun c hc=>clT hc) rfl rfl rfl rfl rfl))),?_⟩
 refine⟨fun v H'=>∃l,v= .ref l/\H l=none/\H'=upd H l (.lst (ws.map V.int)),?_,?_⟩
 ·conv=>whnf
  exact⟨_,.inl (Vb ewl),fun l hl=>⟨l,rfl,hl,rfl⟩⟩
 rintro v H1 ⟨l,rfl,hl,eH⟩
 have g1:Same H H1:=by rw[eH];exact aK hl _
 have el:H1 l=some (.lst (ws.map V.int)):=by rw[eH];exact aB
 clear eH
 have hR1:=hR.same g1
 have hT1:=hT.same g1
 have nl:∀i:Nat,i<R.ps.length->∃p,w.ps[i]? =some p:=fun i hi=>⟨_,Yb (by rw[hR.pl];exact hi)⟩
 refine⟨⟨_,Vb el⟩,eO (xs:=ws.map V.int) (fun i σ H'=>(∃x,σ= [some (.ref r),some (.ref wl),some (.ref l),x])/\H'=H1/\∀x∈ws.take i,0<=x/\x<((R.ps.length:Nat):Int)) ⟨⟨_,rfl⟩,rfl,fun x hx=>by simp at hx⟩ ?_ ?_ ?_⟩
 ·rintro i σ H' hi ⟨_,rfl,_⟩
  exact Vb el
 ·rintro i v σ H' hv ⟨⟨x,rfl⟩,rfl,hall⟩
  rw[Yl]at hv
  obtain⟨k,hk,rfl⟩:=YM.mp hv
  obtain⟨hil,ek⟩:=Yd.mp hk
  refine⟨⟨w.dx,_,hR1.er,rfl⟩,r,R,o,w,k,rfl,hR1,fun i' p e hp=>⟨⟨_,rfl⟩,rfl,?_⟩,fun no H2 g2=>q2 (fun z=>no (z k (ek▸YV hil))) H2 (g1.trans g2)⟩
  have hi':i'<R.ps.length:=by rw[<-hR.pl];exact(Yd.mp hp).1
  rw[Yh hil]
  intro z hz
  rcases YB.mp hz with hz | hz
  ·exact hall z hz
  ·rw[Yj,ek,e]at hz
   rw[hz]
   exact⟨by omega,by omega⟩
 rintro σ H2 ⟨⟨x,rfl⟩,rfl,hall⟩
 rw[Ya,Ys (Yf _)]at hall
 refine⟨r,w.dx,_,.ref l,rfl,hR1.er,rfl,rfl,hT1.tabP,fun f c c' H3 hf hc hsm hC3 hor hc' hcell hlam=>?_⟩
 obtain⟨nP2,qs,t1,t2,t3⟩:=hT1
 have nP:¬ o 958:=fun z=>nP2 (.inl z)
 have nPx:∀x v,H2 x=some v->(o x\/isT v)->x≠958:=fun x v e z y=>by
  rcases z with z | z
  ·exact nP (y▸z)
  ·rw[y,t1]at e;cases e;exact b2S z
 have hR3:bY Zg CA H3 r R o w:=hR1.move fun x v e z=>hsm x v (nPx x v e z) e
 have lP:l≠958:=fun y=>by rw[y,t1]at el;cases el
 have hL:xU H3 f ws:=⟨c,c',l,hlam,hc',hcell,hsm l _ lP el⟩
 have nc:¬ Or2 o ox c':=by
  rcases hor with z | ⟨qs',u1,_,u3⟩
  ·rintro (y | y)
   ·exact hR1.al c' y z
   ·cases e:H c' with
    |none=>exact hox c' y e
    |some u=>rw[g1 _ _ e]at z;cases z
  ·rw[t1]at u1
   cases u1
   rcases t3 with t3 | ⟨d,d1,d2,d3⟩
   ·cases t3.symm.trans u3
   ·cases (show codeAmong b0F _=_ from u3).symm.trans d1;exact d3
 have hT3:lX 958 (Or2 o ox) H3:=by
  obtain⟨qs',u1,u2,u3⟩:=hC3
  exact⟨nP2,qs',u1,u2,.inr ⟨c',u3,hc',nc⟩⟩
 have m3:MvP 958 o H2 o H3:=⟨fun x v e z=>hsm x v (fun y=>z.elim (fun z=>z (.inr y)) fun z=>(by rw[y,t1]at e;cases e;exact b2S z)) e,fun x hx=> .inl hx⟩
 refine a2Y ⟨r,R,o,w,f,fun b i=>wrB ws ((i:Nat):Int) b,rfl,hR3,ne,sz,fun b hb=>⟨fun i hi H4 g4=>⟨FnE.lam (g4 _ _ hlam),fun Q1 k=> .inl ⟨ws,_,_,_,rfl,hL.same g4,k⟩⟩,fun i=>pW (hR3.says hb.1),fun H' o' hR' m'=>q1 hall b H' o' hb hR' (hT3.mv2 m') ?_⟩⟩
 refine(Mv.of g1).trans (m3.trans ⟨fun x v e z=>m'.1 x v e (z.imp_left fun y q=>y (.inl q)),fun x hx=>?_⟩)
 rcases hx with hx | hx
 ·exact(m'.2 x hx).imp .inl id
 ·exact .inl (.inr hx)
variable (ZbJ:MB P w K mg base (CX0) 13 ZfR Zkq ["self","turns","hearing"] (a4Z K Zg CA (qF Za6) Za6))
include Zz ZD Za Zal Zbp Zas in
theorem ZnX (F0:Fun K "run" "Rail.run" ZkN ZfR Zkq):type_of% ZbJ:=by
 refine mbK ["self","turns","hearing","asked"] F0 fun H Q nd hr h=>?_
 obtain⟨r,R,o,w,n,fv,f,hs,ox,PS,Pv,rfl,hfv,hR,ne,n5,sz,hH,p0,q⟩:=h
 refine⟨_,(aD (aX (i:=3) nd rfl (Or.inr rfl) (cD (dC (bA b2C (dv 2) oF (aV _)) (bC (v:= .ref Za6) rfl Zbp.2.2.2 rfl) (dv 2)))) (aF (aN (iM rfl (ix:=[0,3]) (cO rfl ZD (aA (dv 1) aC)) (fun C fp s0 H0 at0=>eV) (fun C fp s0 H0 at0=>(bB Za Zal Zas.1 hr.mo Zas.2 .nil aM (dv 1) (aA (dv 2) aC))) rfl rfl (by rfl) (show ([".0","turn","self","asked"]:List Str).Nodup by decide +kernel))))),?_⟩
 refine⟨fun v H'=>v= .ref f/\H=H',?_,?_⟩
 ·rcases hfv with ⟨rfl,rfl⟩ | rfl
  ·conv=>whnf
   exact⟨rfl,rfl⟩
  ·conv=>whnf
   exact⟨rfl,rfl⟩
 rintro v H1 ⟨rfl,rfl⟩
 refine⟨⟨by omega,by omega⟩,?_⟩
 rw[YR]
 refine gO (lo:=0) (n:=n) (fun t ys H'=>∃o',bK Zg CA H' r (jN R hs t) o'/\PS t H' o'/\Mv (Or2 o ox) H (Or2 o' ox) H'/\ys=((List.range t).map fun k=>iH (jN R hs k)).map V.int) ?_ ?_ ?_ ?_
 ·rintro i ys H' hi ⟨o',_,_,_,rfl⟩
  rw[Ya,Ya,YK]
  exact bI (by omega)
 ·exact⟨o,⟨w,hR⟩,p0 _ (Vd _),Mv.refl,rfl⟩
 ·rintro t ys H' ht ⟨o',⟨w',hR'⟩,pS,mv,rfl⟩
  conv=>whnf
  have lt:=vY R hs t
  refine⟨⟨w'.dx,_,hR'.er,rfl⟩,r,jN R hs t,o',w',f,fun _=>hs t,ox,fun b i H1=>b=iH (jN R hs t)->Pv t i H1 o',rfl,hR',fun z=>ne (List.length_eq_zero_iff.mp (by rw[<-lt,z];rfl)),sz t (by omega),hH.out t H' o' pS,fun b hb=>?_⟩
  have eb:b=iH (jN R hs t):=a3E (fun z hz=>hR'.says54 hz) hb
  subst eb
  rw[lt,a0I]
  refine⟨fun H1 g _=>hH.beg t H' o' H1 pS g,fun i hi H1 pv=>?_,hH.bit t,fun H1 H2 H3 o3 pv m1 g2 hR3 m3=>⟨o3,hR3,hH.nxt t H1 H2 H3 o' o3 (pv rfl) g2 m3,(mv.trans (Mv.right m1)).trans ((Mv.of g2).trans (Mv.left m3)),?_⟩⟩
  ·obtain⟨f1,f2⟩:=hH.ask t ht i hi H1 o' (pv rfl)
   exact⟨f1,fun Q1 k=>f2 Q1 fun H2 p2 m2=>k H2 (fun _=>p2) m2⟩
  ·rw[Xr,Yk,Yk]
   rfl
 rintro ys H' ⟨o',hR',pS,mv,rfl⟩ l hl
 exact q l H' o' hR' pS mv hl
variable (Zai:MB P w K mg base (CX0) 1 Zey Zhv ["self"] (yI Zg CA))
include Zz ZK Za ZZ in
theorem Zle (F0:Fun K "events" "Rail.events" ZhV Zey Zhv):type_of% Zai:=by
 refine mbK ["self"] F0 fun H Q nd hr h=>?_
 obtain⟨r,R,o,w,rfl,hR,q⟩:=h
 refine⟨_,(aF (aN (cH dF rfl ZK eN (aA (aP Za ZZ (dv 0)) aC)))),?_⟩
 exact⟨w.dx,_,.ref w.EV,hR.er,rfl,_,.inl (Vb hR.eEV),q⟩
variable (ZcW:MB P w K mg base (CX0) 9 ZeB Zhy ["self","post"] (oE Zg CA Za4 b1H))
include Zw Zz Zb Za Zc Zcb ZcT Zf in
theorem Zlh (F0:Fun K "stance" "Rail.stance" ZhY ZeB Zhy):type_of% ZcW:=by
 refine mbK ["self","post"] F0 fun H Q nd hr h=>?_
 obtain⟨r,R,o,w,k,rfl,hR,q1,q2⟩:=h
 refine⟨_,(aF (aN (bD Zb Zcb ZcT.1 hr.mo ZcT.2 .nil aM (bB Za Zc Zf.1 hr.mo Zf.2 .nil aM (dv 0) (aA (dv 1) aC))))),?_⟩
 refine⟨⟨w.dx,_,hR.er,rfl⟩,r,R,o,w,k,rfl,hR,fun i p e hp=>?_,fun no H1 g1=>q2 no H1 g1⟩
 obtain⟨S,oi,eS,hP,_⟩:=hR.step hp
 have q:=q1 i S e eS
 obtain⟨dq,ch,vt',wl_,ul,cc,nw,ep⟩:=hP.cell
 obtain⟨nwb,ob,bd⟩:=hP.bd
 exact⟨⟨dq,_,ep,rfl⟩,p,S,oi,rfl,hP,q⟩
variable (Zdj:MB P w K mg base (CX0) 9 ZeX Zir ["self","post"] (oE Zg CA Za4 b5N))
include Zw Zz Zb Za Zc Zcp Zdi Zf in
theorem Zmf (F0:Fun K "waits" "Rail.waits" ZiO ZeX Zir):type_of% Zdj:=by
 refine mbK ["self","post"] F0 fun H Q nd hr h=>?_
 obtain⟨r,R,o,w,k,rfl,hR,q1,q2⟩:=h
 refine⟨_,(aF (aN (bD Zb Zcp Zdi.1 hr.mo Zdi.2 .nil aM (bB Za Zc Zf.1 hr.mo Zf.2 .nil aM (dv 0) (aA (dv 1) aC))))),?_⟩
 refine⟨⟨w.dx,_,hR.er,rfl⟩,r,R,o,w,k,rfl,hR,fun i p e hp=>?_,fun no H1 g1=>q2 no H1 g1⟩
 obtain⟨S,oi,eS,hP,_⟩:=hR.step hp
 have q:=q1 i S e eS
 obtain⟨dq,ch,vt',wl_,ul,cc,nw,ep⟩:=hP.cell
 obtain⟨nwb,ob,bd⟩:=hP.bd
 exact⟨⟨dq,_,ep,rfl⟩,p,nwb,S,ob,rfl,bd,q⟩
variable (Zd6:MB P w K mg base (CX0) 9 ZfQ Zkp ["self","post"] (oE Zg CA Za4 c0U))
include Zw Zz Zb Za Zc Zc9 Zd5 Zf in
theorem ZnW (F0:Fun K "got" "Rail.got" ZkM ZfQ Zkp):type_of% Zd6:=by
 refine mbK ["self","post"] F0 fun H Q nd hr h=>?_
 obtain⟨r,R,o,w,k,rfl,hR,q1,q2⟩:=h
 refine⟨_,(aF (aN (bD Zb Zc9 Zd5.1 hr.mo Zd5.2 .nil aM (bB Za Zc Zf.1 hr.mo Zf.2 .nil aM (dv 0) (aA (dv 1) aC))))),?_⟩
 refine⟨⟨w.dx,_,hR.er,rfl⟩,r,R,o,w,k,rfl,hR,fun i p e hp=>?_,fun no H1 g1=>q2 no H1 g1⟩
 obtain⟨S,oi,eS,hP,_⟩:=hR.step hp
 have q:=q1 i S e eS
 obtain⟨dq,ch,vt',wl_,ul,cc,nw,ep⟩:=hP.cell
 obtain⟨nwb,ob,bd⟩:=hP.bd
 exact⟨⟨dq,_,ep,rfl⟩,p,nwb,S,ob,rfl,bd,q⟩
variable (ZcU:MB P w K mg base (CX0) 9 Zez Zhw ["self","post"] (oE Zg CA Za4 gN))
include Zw Zz Zb Za Zc Zca ZcS Zf in
theorem Zlf (F0:Fun K "faults" "Rail.faults" ZhW Zez Zhw):type_of% ZcU:=by
 refine mbK ["self","post"] F0 fun H Q nd hr h=>?_
 obtain⟨r,R,o,w,k,rfl,hR,q1,q2⟩:=h
 refine⟨_,(aF (aN (bD Zb Zca ZcS.1 hr.mo ZcS.2 .nil aM (bB Za Zc Zf.1 hr.mo Zf.2 .nil aM (dv 0) (aA (dv 1) aC))))),?_⟩
 refine⟨⟨w.dx,_,hR.er,rfl⟩,r,R,o,w,k,rfl,hR,fun i p e hp=>?_,fun no H1 g1=>q2 no H1 g1⟩
 obtain⟨S,oi,eS,hP,_⟩:=hR.step hp
 have q:=q1 i S e eS
 obtain⟨dq,ch,vt',wl_,ul,cc,nw,ep⟩:=hP.cell
 obtain⟨nwb,ob,bd⟩:=hP.bd
 exact⟨⟨dq,_,ep,rfl⟩,p,nwb,S,ob,rfl,bd,q⟩
variable (Zb2:MB P w K mg base (CX0) 9 ZdT Zgl ["self","post"] (oE Zg CA Za4 (gB 12)))
include Zw Zz Zb Za Zan Zc ZaB Zf in
theorem Zj8 (F0:Fun K "is_quiet" "Rail.is_quiet" Zgu ZdT Zgl):type_of% Zb2:=by
 refine mbK ["self","post"] F0 fun H Q nd hr h=>?_
 obtain⟨r,R,o,w,k,rfl,hR,q1,q2⟩:=h
 refine⟨_,(aF (aN (bD Zb Zan ZaB.1 hr.mo ZaB.2 .nil aM (bB Za Zc Zf.1 hr.mo Zf.2 .nil aM (dv 0) (aA (dv 1) aC))))),?_⟩
 refine⟨⟨w.dx,_,hR.er,rfl⟩,r,R,o,w,k,rfl,hR,fun i p e hp=>?_,fun no H1 g1=>q2 no H1 g1⟩
 obtain⟨S,oi,eS,hP,_⟩:=hR.step hp
 have q:=q1 i S e eS
 obtain⟨dq,ch,vt',wl_,ul,cc,nw,ep⟩:=hP.cell
 obtain⟨nwb,ob,bd⟩:=hP.bd
 exact⟨⟨dq,_,ep,rfl⟩,p,nwb,S,ob,rfl,bd,q⟩
variable (ZcV:MB P w K mg base (CX0) 9 ZeA Zhx ["self","post"] (oE Zg CA Za4 (gB 18)))
include Zw Zz Zb Za Zay Zc ZaS Zf in
theorem Zlg (F0:Fun K "is_off" "Rail.is_off" ZhX ZeA Zhx):type_of% ZcV:=by
 refine mbK ["self","post"] F0 fun H Q nd hr h=>?_
 obtain⟨r,R,o,w,k,rfl,hR,q1,q2⟩:=h
 refine⟨_,(aF (aN (bD Zb Zay ZaS.1 hr.mo ZaS.2 .nil aM (bB Za Zc Zf.1 hr.mo Zf.2 .nil aM (dv 0) (aA (dv 1) aC))))),?_⟩
 refine⟨⟨w.dx,_,hR.er,rfl⟩,r,R,o,w,k,rfl,hR,fun i p e hp=>?_,fun no H1 g1=>q2 no H1 g1⟩
 obtain⟨S,oi,eS,hP,_⟩:=hR.step hp
 have q:=q1 i S e eS
 obtain⟨dq,ch,vt',wl_,ul,cc,nw,ep⟩:=hP.cell
 obtain⟨nwb,ob,bd⟩:=hP.bd
 exact⟨⟨dq,_,ep,rfl⟩,p,nwb,S,ob,rfl,bd,q⟩
variable (ZaC:MB P w K mg base (CX0) 9 Zfu Zjp ["self","post"] (a5Q Zg CA Za4 (fun R=>R.sa)))
include Zw Zz ZK Za Zc Z6 Zf in
theorem Znc (F0:Fun K "said" "Rail.said" ZjL Zfu Zjp):type_of% ZaC:=by
 refine mbK ["self","post"] F0 fun H Q nd hr h=>?_
 obtain⟨r,R,o,w,k,rfl,hR,q1,q2⟩:=h
 refine⟨_,(aD (aW (bB Za Zc Zf.1 hr.mo Zf.2 .nil aM (dv 0) (aA (dv 1) aC))) (aF (aN (cH dF rfl ZK eN (aA (bH cT (aP Za Z6 (dv 0)) (dv 1) (fun _ _=>rfl)) aC))))),?_⟩
 refine⟨⟨w.dx,_,hR.er,rfl⟩,r,R,o,w,k,rfl,hR,fun i p e hp=>?_,fun no H1 g1=>q2 no H1 g1⟩
 have hil:i<R.ps.length:=by rw[<-hR.pl];exact(Yd.mp hp).1
 have l2:=hR.l2
 have l4:=hR.l4
 have eX:R.sa[i]? =some (R.sa[i]'(by omega)):=Yb (by omega)
 generalize R.sa[i]'(by omega)=X at eX
 obtain⟨a1,ha1,ka1⟩:=hR.sa_at eX
 subst e
 exact⟨w.dx,_,.ref w.SA,hR.er,rfl,_,.ref a1,Vb hR.eSA,fC (by rw[Yl,ha1];rfl),_,.inl (Vb (hR.cs.at_ _ _ ka1)),q1 i X rfl eX⟩
variable (Zaq:MB P w K mg base (CX0) 9 ZeV Zip ["self","post"] (a5Q Zg CA Za4 (fun R=>R.he)))
include Zw Zz ZK Za Zc Z0 Zf in
theorem Zmd (F0:Fun K "heard" "Rail.heard" ZiM ZeV Zip):type_of% Zaq:=by
 refine mbK ["self","post"] F0 fun H Q nd hr h=>?_
 obtain⟨r,R,o,w,k,rfl,hR,q1,q2⟩:=h
 refine⟨_,(aD (aW (bB Za Zc Zf.1 hr.mo Zf.2 .nil aM (dv 0) (aA (dv 1) aC))) (aF (aN (cH dF rfl ZK eN (aA (bH cT (aP Za Z0 (dv 0)) (dv 1) (fun _ _=>rfl)) aC))))),?_⟩
 refine⟨⟨w.dx,_,hR.er,rfl⟩,r,R,o,w,k,rfl,hR,fun i p e hp=>?_,fun no H1 g1=>q2 no H1 g1⟩
 have hil:i<R.ps.length:=by rw[<-hR.pl];exact(Yd.mp hp).1
 have l2:=hR.l2
 have l4:=hR.l4
 have eX:R.he[i]? =some (R.he[i]'(by omega)):=Yb (by omega)
 generalize R.he[i]'(by omega)=X at eX
 obtain⟨a1,ha1,ka1⟩:=hR.he_at eX
 subst e
 exact⟨w.dx,_,.ref w.HE,hR.er,rfl,_,.ref a1,Vb hR.eHE,fC (by rw[Yl,ha1];rfl),_,.inl (Vb (hR.cs.at_ _ _ ka1)),q1 i X rfl eX⟩
variable (Za5:MB P w K mg base (CX0) 1 ZeW Ziq ["self"] (a2C Zg CA))
include Zz ZL Za ZB in
theorem Zme (F0:Fun K "turns" "Rail.turns" ZiN ZeW Ziq):type_of% Za5:=by
 refine mbK ["self"] F0 fun H Q nd hr h=>?_
 obtain⟨r,R,o,w,rfl,hR,q⟩:=h
 refine⟨_,(aF (aN (bG fZ rfl ZL dM (aA (aP Za ZB (dv 0)) aC)))),?_⟩
 refine⟨w.dx,_,.ref w.BO,hR.er,rfl,_,.inl (Vb hR.eBO),?_⟩
 rw[Ya]
 exact q
variable (Z9:MB P w K mg base (CX0) 1 Zfr Zjm ["self"] (a5E Zg CA))
include Zz ZK Za ZB in
theorem Zm9 (F0:Fun K "bits" "Rail.bits" ZjI Zfr Zjm):type_of% Z9:=by
 refine mbK ["self"] F0 fun H Q nd hr h=>?_
 obtain⟨r,R,o,w,rfl,hR,q⟩:=h
 refine⟨_,(aF (aN (cH dF rfl ZK eN (aA (aP Za ZB (dv 0)) aC)))),?_⟩
 exact⟨w.dx,_,.ref w.BO,hR.er,rfl,_,.inl (Vb hR.eBO),q⟩
variable (Zgg:FB P w K mg base (CX0) 1 "ear" Zoi Zok ["wrong"] (a9K))
include ZdM Zf7 hc_ear in
theorem ZoH (F0:GFm K mg "ear" Zi6 Zoi Zok):type_of% Zgg:=by
 refine fbM ["wrong","kept","pair","heard"] F0 fun Sc0=>F0.F.okM (y:="kept") hc_ear Zf7 Sc0 rfl (fun vs H Q E h=>?_) fun A outer s H vs Q E hr h=>?_
 ·obtain⟨a,qs,ps,rfl,_⟩:=h
  rfl
 obtain⟨a,qs,ps,rfl,el,hP,hpl,hT0,q⟩:=h
 have hT:mJ 1073 c0F iqH H:=⟨#[],hT0,trivial,.inl rfl⟩
 have nd:=Sc0.nd
 refine⟨_,(pM (aX (i:=1) nd rfl (Or.inr rfl) a6L) (pM (dH YF rfl (cY (dv 0)) (cL (i:=2) nd rfl (Or.inl rfl)) (aF (a0L (a0Y hr) (dv 1) (dv 2) fQ rfl))) (b7P (iy:=1) (im:=3) (c0:=1077) (P:=1073) (bm:=4) (iq:=iqH) rfl Zf7 ZdM (fun c hc=>clH hc) nd rfl rfl rfl rfl (by decide) rfl rfl rfl rfl rfl rfl))),?_⟩
 intro p hp
 generalize eU:upd H p _=H0
 have g0:=nS hp eU
 have e0:=nE eU
 clear eU
 have hql:=hP.len
 refine⟨⟨_,Vb (g0 _ _ el)⟩,eO (xs:=qs.map V.ref) (fun i σ H'=>∃x:Option V,σ= [some (.ref a),some (.ref p),x,none]/\Same H H'/\H' p=some (.dT (kvP (ps.take i)))) ⟨_,rfl,g0,e0⟩ (fun i σ H' _ z=>by obtain⟨_,_,g,_⟩:=z;exact Vb (g _ _ el)) ?_ ?_⟩
 ·rintro i v σ H' hv ⟨x,rfl,g,ep⟩
  rw[Yl]at hv
  obtain⟨qq,hq,rfl⟩:=YM.mp hv
  obtain⟨pp,hpp,eq⟩:=(hP.same g).get hq
  obtain⟨hi,e1⟩:=Yd.mp hpp
  have hl:=b1A (ps.take i)
  rw[Yx]at hl
  refine⟨p,_,rfl,.inr ⟨_,kyP pp,qq,ep,rfl,eq,bI (by omega),rfl⟩,_,rfl,g.put hp,?_⟩
  rw[aB,Yh hi,e1,a7L]
 rintro σ H1 ⟨x,rfl,g1,e1⟩
 rw[Ya,hql,Ys (Yf _)]at e1
 refine⟨.ref p,rfl,(mJ.same hT g1),fun g c c' H3 hg hc hf hsm hT3 h1 h2 h3=>q g c c' p H3 (fun b o n e=>hsm b o n (g1 _ _ e)) (g1.none hg) (g1.none hc) (g1.none (hf (g1 _ _ hT0))) hp h3 h1 h2 (hsm p _ (fun z=>?_) e1)⟩
 rw[z,g1 _ _ hT0]at e1
 cases e1
def b5B {f:Int->Int->V}{i j:Int}{Q:V->Hp->Prop}{x:V}(e:f i j=x)(h:Q x H):mI0 f (.int i) (.int j) H Q:=by rw[<-e]at h;exact h
def a7R (S:PS)(b:Int):(bT S b).2.m1=S.m1/\(bT S b).2.m2=S.m2/\(bT S b).2.vt=S.vt/\(bT S b).2.wt.length<=S.wt.length:=by
 have hg:∀st w nx,(dD S st w nx).2.m1=S.m1/\(dD S st w nx).2.m2=S.m2/\(dD S st w nx).2.vt=S.vt/\(dD S st w nx).2.wt.length<=S.wt.length:=fun st w nx=>by unfold dD;split <;> exact⟨rfl,rfl,rfl,Yf _⟩
 have h1:∀sp,(cG S sp).2.m1=S.m1/\(cG S sp).2.m2=S.m2/\(cG S sp).2.vt=S.vt/\(cG S sp).2.wt.length<=S.wt.length:=fun sp=>by unfold cG;exact hg _ _ _
 have h2:∀sp,(cR S sp).2.m1=S.m1/\(cR S sp).2.m2=S.m2/\(cR S sp).2.vt=S.vt/\(cR S sp).2.wt.length<=S.wt.length:=fun sp=>by unfold cR;exact hg _ _ _
 have h3:(fG S).2.m1=S.m1/\(fG S).2.m2=S.m2/\(fG S).2.vt=S.vt/\(fG S).2.wt.length<=S.wt.length:=by unfold fG;exact hg _ _ _
 have ht:S.wt.tail.length<=S.wt.length:=by rw[List.length_tail];omega
 cases en:S.now with
 |free k=>rw[lR en];(repeat' split) <;> first | exact h1 _ | exact⟨rfl,rfl,rfl,Yf _⟩
 |speaks n ds k=>rw[jM en];(repeat' split) <;> first | exact h1 _ | exact⟨rfl,rfl,rfl,Yf _⟩
 |reads h=>rw[jZ en];(repeat' split) <;> first | exact h1 _ | exact⟨rfl,rfl,rfl,Yf _⟩
 |tlS v c=>rw[nC en];(repeat' split) <;> first | exact h1 _ | exact h2 _ | exact⟨rfl,rfl,rfl,Yf _⟩ | exact⟨rfl,rfl,rfl,ht⟩
 |tlR n ds v c=>rw[nD en];(repeat' split) <;> first | exact h1 _ | exact h2 _ | exact⟨rfl,rfl,rfl,Yf _⟩
 |flag l m=>rw[lU en];(repeat' split) <;> first | exact⟨rfl,rfl,rfl,Yf _⟩
 |settles m=>rw[iQ en];(repeat' split) <;> first | exact h3 | exact⟨rfl,rfl,rfl,Yf _⟩
 |rests l=>rw[jY en];(repeat' split) <;> first | exact h1 _ | exact⟨rfl,rfl,rfl,Yf _⟩
 |off=>rw[nG en];exact⟨rfl,rfl,rfl,Yf _⟩
def b1K {s:Str}{k:Int}(e:H t=some (.tup [.str s,.int k])):DV K H (.ref t) (.tuple [.str s,.int k]):= .tup (Vc e) (.cons (.str _) (.cons (.int _) .nil))
theorem a5R:∀s:Stc,PyData.strOk s.shown.1=true
 |.free _=>(by decide +kernel:PyData.strOk ("free":Str)=true)
 |.speaks _ _ _=>(by decide +kernel:PyData.strOk ("speaks":Str)=true)
 |.reads _=>(by decide +kernel:PyData.strOk ("reads":Str)=true)
 |.tlS _ _=>(by decide +kernel:PyData.strOk ("tail speaks":Str)=true)
 |.tlR _ _ _ _=>(by decide +kernel:PyData.strOk ("tail reads":Str)=true)
 |.flag _ _=>(by decide +kernel:PyData.strOk ("flag":Str)=true)
 |.settles _=>(by decide +kernel:PyData.strOk ("settles":Str)=true)
 |.rests _=>(by decide +kernel:PyData.strOk ("rests":Str)=true)
 |.off=>(by decide +kernel:PyData.strOk ("off":Str)=true)
def wR (hp:H1 p=none)(hdp:H1 dp=none)(hin:∀x,o x->x=p\/upd (upd H1 dp (.own p)) p v x=none)(hk:∀x u,x≠p->upd (upd H1 dp (.own p)) p v x=some u->H' x=some u):(∀x,o x->H1 x=none)/\Same H1 H':=by
 refine⟨fun x hx=>?_,fun x u e=>hk x u (aJ e hp) (by rw[aH (aJ e hp),aH (aJ e hdp)];exact e)⟩
 rcases hin x hx with h | h
 ·rw[h];exact hp
 ·by_cases c:x=p
  ·rw[c];exact hp
  ·rw[aH c]at h
   by_cases d:x=dp
   ·rw[d];exact hdp
   ·rw[aH d]at h;exact h
def b1F (p:Str->Prop)(w0:p "")(w1:p "begins")(w2:p "loses")(w3:p "done")(w4:p "takes")(w5:p "fault")(w6:p "refuses")(w7:p "off")(S:PS)(b:Int):p (bT S b).1:=by
 have hg:∀st w nx,p w->p (dD S st w nx).1:=fun st w nx h=>by unfold dD;split <;> first | exact w7 | exact h
 have h1:∀sp,p (cG S sp).1:=fun sp=>by unfold cG;exact hg _ _ _ w5
 have h2:∀sp,p (cR S sp).1:=fun sp=>by unfold cR;exact hg _ _ _ w6
 have h3:p (fG S).1:=by unfold fG;exact hg _ _ _ w0
 cases en:S.now with
 |free k=>rw[lR en];(repeat' split) <;> first | exact h1 _ | exact w0 | exact w1
 |speaks n ds k=>rw[jM en];(repeat' split) <;> first | exact h1 _ | exact w0 | exact w2
 |reads h=>rw[jZ en];(repeat' split) <;> first | exact h1 _ | exact w0
 |tlS v c=>rw[nC en];(repeat' split) <;> first | exact h1 _ | exact h2 _ | exact w0 | exact w3
 |tlR n ds v c=>rw[nD en];(repeat' split) <;> first | exact h1 _ | exact h2 _ | exact w0 | exact w4
 |flag l m=>rw[lU en];(repeat' split) <;> exact w0
 |settles m=>rw[iQ en];(repeat' split) <;> first | exact h3 | exact w0
 |rests l=>rw[jY en];(repeat' split) <;> first | exact h1 _ | exact w0
 |off=>rw[nG en];exact w0
def a7Q (S:PS)(b:Int):PyData.strOk (bT S b).1=true:=b1F (fun w=>PyData.strOk w=true) (by decide +kernel) (by decide +kernel) (by decide +kernel) (by decide +kernel) (by decide +kernel) (by decide +kernel) (by decide +kernel) (by decide +kernel) S b
def a4F {R:RS}(h:bK C A H r R o):∀S∈R.ps,Wf S:=fun S hS=>by
 obtain⟨w,hR⟩:=h
 obtain⟨i,hi,e⟩:=YT hS
 obtain⟨p,oi,_,hP⟩:=hR.at (i:=i) (S:=S) (by rw[Yb hi,e])
 exact hP.wf
def a9X {kvs:List (Key×V)}{k:Key}{v:V}:(putK kvs k v).length<=kvs.length+1:=by
 unfold putK
 split
 ·rw[Ya];exact Xv _
 ·rw[Yc];exact Yf _
def evD (e:Nat×Nat×Str):PyData:= .tuple [.int ((e.1:Nat):Int),.int ((e.2.1:Nat):Int),.str e.2.2]
theorem gM.dvs:∀{vs:List V}{es:List (Nat×Nat×Str)},gM H vs es->DVs K H vs (es.map evD)
 |_,_,.nil=> .nil
 |_,_,.cons a r=> .cons (.tup (Vc a) (.cons (.int _) (.cons (.int _) (.cons (.str _) .nil)))) r.dvs
def a1A (R:RS)(hs:List Int)(n:Nat):(aY R hs (n+1)=aY R hs n/\¬ ∃S b x y,R.ps[n]? =some S/\hs[n]? =some b/\R.sa[n]? =some x/\R.he[n]? =some y)\/∃S b x y,R.ps[n]? =some S/\hs[n]? =some b/\R.sa[n]? =some x/\R.he[n]? =some y/\aY R hs (n+1)=rK R (aY R hs n) n S b x y:=by
 by_cases c:∃S b x y,R.ps[n]? =some S/\hs[n]? =some b/\R.sa[n]? =some x/\R.he[n]? =some y
 ·obtain⟨S,b,x,y,e1,e2,e3,e4⟩:=c
  exact .inr ⟨S,b,x,y,e1,e2,e3,e4,kE e1 e2 e3 e4⟩
 ·refine .inl ⟨?_,c⟩
  show (match R.ps[n]?,hs[n]?,R.sa[n]?,R.he[n]? with | some S,some b,some x,some y=>rK R (aY R hs n) n S b x y | _,_,_,_=>aY R hs n)=_
  split
  ·rename_i S b x y e1 e2 e3 e4
   exact absurd ⟨S,b,x,y,e1,e2,e3,e4⟩ c
  ·rfl
theorem a1C {R:RS}{x:List Int}(e1:R.ps[j]? =some S)(e2:hs[j]? =some b)(e3:R.sa[j]? =some x)(e4:R.he[j]? =some y):∀n,j<n->(aY R hs n).ps[j]? =some (bT S b).2/\(aY R hs n).sa[j]? =some (x++[bQ S])/\(aY R hs n).he[j]? =some (y++[b])
 |0,h=>absurd h (Nat.not_lt_zero _)
 | n + 1, h=>by
  by_cases c:j=n
  ·subst c
   obtain⟨g1,g2,g3,g4,g5,g6,g7⟩:=jF R hs j
   rw[kE e1 e2 e3 e4]
   have a1:=(Yd.mp e1).1
   have a3:=(Yd.mp e3).1
   have a4:=(Yd.mp e4).1
   refine⟨?_,?_,?_⟩
   ·show ((aY R hs j).ps.set j _)[j]? =_
    rw[Xi,if_pos rfl,if_pos (by omega)]
   ·show ((aY R hs j).sa.set j _)[j]? =_
    rw[Xi,if_pos rfl,if_pos (by omega)]
   ·show ((aY R hs j).he.set j _)[j]? =_
    rw[Xi,if_pos rfl,if_pos (by omega)]
  ·obtain⟨q1,q2,q3⟩:=a1C e1 e2 e3 e4 n (by omega)
   rcases a1A R hs n with ⟨e,_⟩ | ⟨S',b',x',y',_,_,_,_,e⟩
   ·rw[e];exact⟨q1,q2,q3⟩
   ·rw [e]
    refine⟨?_,?_,?_⟩
    ·show ((aY R hs n).ps.set n _)[j]? =_
     rw[Y2 fun z=>c z.symm];exact q1
    ·show ((aY R hs n).sa.set n _)[j]? =_
     rw[Y2 fun z=>c z.symm];exact q2
    ·show ((aY R hs n).he.set n _)[j]? =_
     rw[Y2 fun z=>c z.symm];exact q3
def lC {x:Int}(h:k<l.length):(l++[x]).getD k 0=l.getD k 0:=by
 rw[Yn,Yn,YC h]
def lD {x:Int}(h:k=l.length):(l++[x]).getD k 0=x:=by
 subst h
 rw[Yn,YA (Yf _),Nat.sub_self]
 rfl
def c1H (a b:Nat×Nat×Str):Prop:=a.1<b.1\/(a.1=b.1/\a.2.1<b.2.1)
structure EvI (t n m:Nat)(ev:List (Nat×Nat×Str)):Prop where
 pw:ev.Pairwise c1H
 ok:∀e∈ev,e.2.1<m/\e.2.2≠""/\PyData.strOk e.2.2=true/\(e.1<t\/(e.1=t/\e.2.1<n))
def EvI.evt {t n:Nat}{ev:List (Nat×Nat×Str)}{w:Str}(h:EvI t n m ev)(hn:n<m)(hw:PyData.strOk w=true):EvI t (n+1) m (ev++evt t n w):=by
 have up:∀e∈ev,e.2.1<m/\e.2.2≠""/\PyData.strOk e.2.2=true/\(e.1<t\/(e.1=t/\e.2.1<n+1)):=fun e he=>by
  obtain⟨a,b,c,d⟩:=h.ok e he
  exact⟨a,b,c,d.imp id fun ⟨x,y⟩=>⟨x,by omega⟩⟩
 unfold My.evt
 by_cases c:w=""
 ·rw[if_pos c,YQ]
  exact⟨h.pw,up⟩
 ·rw [if_neg c]
  refine⟨List.pairwise_append.mpr ⟨h.pw,List.pairwise_singleton _ _,fun a ha b hb=>?_⟩,fun e he=>?_⟩
  ·rw[Yj.mp hb]
   exact(h.ok a ha).2.2.2
  ·rcases YB.mp he with z | z
   ·exact up e z
   ·rw[Yj.mp z]
    exact⟨hn,c,hw,.inr ⟨rfl,Xl _⟩⟩
theorem a1B {R:RS}(h:EvI R.bo.length 0 m R.ev):∀n,n<=m->EvI R.bo.length n m (aY R hs n).ev
 |0,_=>h
 | n +1,hn=>by
  have ih:=a1B h n (by omega)
  rcases a1A R hs n with ⟨e,_⟩ | ⟨S,b,x,y,_,_,_,_,e⟩
  ·rw[e]
   exact⟨ih.pw,fun z hz=>let ⟨a,b,c,d⟩:=ih.ok z hz;⟨a,b,c,d.imp id fun ⟨x,y⟩=>⟨x,by omega⟩⟩⟩
  ·rw[e]
   exact ih.evt (by omega) (a7Q S b)
structure I51 (m t:Nat)(ws:List (List Int))(R:RS):Prop where
 ln:R.ps.length=m
 l2:R.sa.length=m
 l4:R.he.length=m
 bo:R.bo.length=t
 bb:bU R.bo
 sb:∀x∈R.sa,bU x
 hb:∀x∈R.he,bU x
 sl:∀x∈R.sa,x.length=t
 hl:∀x∈R.he,x.length=t
 ls:∀k,k<t->lJ (R.sa.map fun x=>x.getD k 0) (R.bo.getD k 0)
 hr:∀(i:Nat)(he:List Int),R.he[i]? =some he->∀(k:Nat)(w:List Int),ws[k]? =some w->he.getD k 0=wrB w ((i:Nat):Int) (R.bo.getD k 0)
 lw:ws.length=t
 ev:EvI t 0 m R.ev
 el:R.ev.length<=5*t
 up:∀S∈R.ps,S.up.length<=t
 wt:∀S∈R.ps,S.wt.length<=5
 wf:∀S∈R.ps,Wf S
def bU.snoc {x:Int}(h:bU l)(hx:x=0\/x=1):bU (l++[x]):=fun z hz=>by
 rcases YB.mp hz with q | q
 ·exact h z q
 ·rw[Yj.mp q];exact hx
def I51.turn {t:Nat}{R:RS}(h:I51 m t ws R)(m5:m<=5)(hb:lJ (R.ps.map bQ) b)(w:List Int):I51 m (t+1) (ws++[w]) (kJ R (wrL w R.ps.length b) b):=by
 have b01:b=0\/b=1:=by
  obtain⟨S,hS,e⟩:=YD.mp hb.1
  rw[<-e];exact qG (h.wf S hS)
 have hs:∀{i:Nat},i<m->(wrL w R.ps.length b)[i]? =some (wrB w ((i:Nat):Int) b):=fun {i} hi=>by unfold wrL;rw[Yl,XW (by rw[h.ln];exact hi)];rfl
 have hm:∀x∈wrL w R.ps.length b,x=0\/x=1:=fun x hx=>by
  unfold wrL at hx
  obtain⟨i,_,rfl⟩:=YD.mp hx
  exact pW b01
 generalize wrL w R.ps.length b=HS at hs hm
 obtain⟨g1,g2,g3,g4,g5,g6,g7⟩:=jF R HS R.ps.length
 have at_:∀{i:Nat},i<m->∃S x y,R.ps[i]? =some S/\R.sa[i]? =some x/\R.he[i]? =some y/\(aY R HS R.ps.length).ps[i]? =some (bT S (wrB w ((i:Nat):Int) b)).2/\(aY R HS R.ps.length).sa[i]? =some (x++[bQ S])/\(aY R HS R.ps.length).he[i]? =some (y++[wrB w ((i:Nat):Int) b]):=fun {i} hi=>by
  obtain⟨S,e1⟩:∃S,R.ps[i]? =some S:=⟨_,Yb (by rw[h.ln];exact hi)⟩
  obtain⟨x,e3⟩:∃x,R.sa[i]? =some x:=⟨_,Yb (by rw[h.l2];exact hi)⟩
  obtain⟨y,e4⟩:∃y,R.he[i]? =some y:=⟨_,Yb (by rw[h.l4];exact hi)⟩
  obtain⟨q1,q2,q3⟩:=a1C e1 (hs hi) e3 e4 R.ps.length (by rw[h.ln];exact hi)
  exact⟨S,x,y,e1,e3,e4,q1,q2,q3⟩
 have len3:(aY R HS R.ps.length).ps.length=m:=g3.trans h.ln
 have len4:(aY R HS R.ps.length).sa.length=m:=g4.trans h.l2
 have len5:(aY R HS R.ps.length).he.length=m:=g5.trans h.l4
 have inS:∀x∈(aY R HS R.ps.length).sa,∃y S,y∈R.sa/\S∈R.ps/\x=y++[bQ S]:=fun x hx=>by
  obtain⟨i,hi,e⟩:=YT hx
  obtain⟨S0,x',y,a1,a2,a3,a4,a5,a6⟩:=at_ (show i<m by rw[<-len4];exact hi)
  rw[Yb hi,e]at a5
  cases a5
  exact⟨x',S0,Yi a2,Yi a1,rfl⟩
 have inH:∀x∈(aY R HS R.ps.length).he,∃y c,y∈R.he/\(c=0\/c=1)/\x=y++[c]:=fun x hx=>by
  obtain⟨i,hi,e⟩:=YT hx
  obtain⟨S0,x',y,a1,a2,a3,a4,a5,a6⟩:=at_ (show i<m by rw[<-len5];exact hi)
  rw[Yb hi,e]at a6
  cases a6
  exact⟨y,_,Yi a3,pW b01,rfl⟩
 have inP:∀S∈(aY R HS R.ps.length).ps,∃S0 c,S0∈R.ps/\(c=0\/c=1)/\S=(bT S0 c).2:=fun S hS=>by
  obtain⟨i,hi,e⟩:=YT hS
  obtain⟨S0,x',y,a1,a2,a3,a4,a5,a6⟩:=at_ (show i<m by rw[<-len3];exact hi)
  rw[Yb hi,e]at a4
  cases a4
  exact⟨S0,_,Yi a1,pW b01,rfl⟩
 have bok:∀k,k<t->(R.bo++[b]).getD k 0=R.bo.getD k 0:=fun k hk=>lC (by rw[h.bo];exact hk)
 have bot:(R.bo++[b]).getD t 0=b:=lD h.bo.symm
 refine⟨len3,len4,len5,by show (R.bo++[b]).length=_;rw[Yc,h.bo];rfl,bU.snoc h.bb b01,fun x hx=>?_,fun x hx=>?_,fun x hx=>?_,fun x hx=>?_,fun k hk=>?_,fun i he e1 k w' ew=>?_,by rw[Yc,h.lw];rfl,?_,?_,fun S hS=>?_,fun S hS=>?_,fun S hS=>?_⟩
 ·obtain⟨y,S,hy,hS,rfl⟩:=inS x hx
  exact bU.snoc (h.sb y hy) (qG (h.wf S hS))
 ·obtain⟨y,c,hy,hc,rfl⟩:=inH x hx
  exact bU.snoc (h.hb y hy) hc
 ·obtain⟨y,S,hy,hS,rfl⟩:=inS x hx
  rw[Yc,h.sl y hy]
  rfl
 ·obtain⟨y,c,hy,hc,rfl⟩:=inH x hx
  rw[Yc,h.hl y hy]
  rfl
 ·show lJ ((aY R HS R.ps.length).sa.map fun x=>x.getD k 0) ((R.bo++[b]).getD k 0)
  by_cases c:k=t
  ·subst c
   rw[bot]
   have e:((aY R HS R.ps.length).sa.map fun x=>x.getD k 0)=R.ps.map bQ:=by
    refine List.ext_getElem (by rw[Ya,Ya,len4,h.ln]) fun i h1 h2=>?_
    have hi:i<m:=by rw[Ya,len4]at h1;exact h1
    obtain⟨S0,x',y,a1,a2,a3,a4,a5,a6⟩:=at_ hi
    rw[List.getElem_map,List.getElem_map]
    have b1:(aY R HS R.ps.length).sa[i]'(by rw[len4];exact hi)=x'++[bQ S0]:=Yo ((Yb _).symm.trans a5)
    have b2:R.ps[i]'(by rw[h.ln];exact hi)=S0:=Yo ((Yb _).symm.trans a1)
    rw[b1,b2]
    exact lD (h.sl x' (Yi a2)).symm
   rw[e]
   exact hb
  ·rw [bok k (by omega)]
   have e:((aY R HS R.ps.length).sa.map fun x=>x.getD k 0)=R.sa.map fun x=>x.getD k 0:=by
    refine List.ext_getElem (by rw[Ya,Ya,len4,h.l2]) fun i h1 h2=>?_
    have hi:i<m:=by rw[Ya,len4]at h1;exact h1
    obtain⟨S0,x',y,a1,a2,a3,a4,a5,a6⟩:=at_ hi
    rw[List.getElem_map,List.getElem_map]
    have b1:(aY R HS R.ps.length).sa[i]'(by rw[len4];exact hi)=x'++[bQ S0]:=Yo ((Yb _).symm.trans a5)
    have b2:R.sa[i]'(by rw[h.l2];exact hi)=x':=Yo ((Yb _).symm.trans a2)
    rw[b1,b2]
    exact lC (by rw[h.sl x' (Yi a2)];omega)
   rw[e]
   exact h.ls k (by omega)
 ·have hi:i<m:=by rw[<-len5];exact(Yd.mp e1).1
  obtain⟨S0,x',y,a1,a2,a3,a4,a5,a6⟩:=at_ hi
  have e1':(aY R HS R.ps.length).he[i]? =some he:=e1
  rw[a6]at e1'
  cases e1'
  show _=wrB w' ((i:Nat):Int) ((R.bo++[b]).getD k 0)
  have ly:=h.hl y (Yi a3)
  by_cases c:k<t
  ·rw[YC (by rw[h.lw];exact c)]at ew
   rw[lC (by omega),bok k c]
   exact h.hr i y a3 k w' ew
  ·have hk:k=t:=by
    have:=(Yd.mp ew).1
    rw[Yc,h.lw]at this
    have:k<t+1:=this
    omega
   subst hk
   rw[YA (by rw[h.lw];exact Yf _),h.lw,Nat.sub_self]at ew
   cases ew
   rw[lD ly.symm,bot]
 ·have z:=a1B (R:=R) (hs:=HS) (m:=m) (by rw[h.bo];exact h.ev) R.ps.length (by rw[h.ln];exact Yf _)
  rw[h.bo,h.ln]at z
  show EvI (t+1) 0 m (aY R HS R.ps.length).ev
  rw[h.ln]
  exact⟨z.pw,fun e he=>let ⟨a,b,c,d⟩:=z.ok e he;⟨a,b,c,.inl (by omega)⟩⟩
 ·show (aY R HS R.ps.length).ev.length<=_
  have:=h.el
  have:=h.ln
  omega
 ·obtain⟨S0,c,h0,hc,rfl⟩:=inP S hS
  have:=b6R S0 c
  have:=h.up S0 h0
  omega
 ·obtain⟨S0,c,h0,hc,rfl⟩:=inP S hS
  exact YN (a7R S0 c).2.2.2 (h.wt S0 h0)
 ·obtain⟨S0,c,h0,hc,rfl⟩:=inP S hS
  exact(h.wf S0 h0).hear hc
def tG {R:RS}(wf:∀S∈R.ps,Wf S)(ne:R.ps≠ []):lJ (R.ps.map bQ) (iH R):=by
 have h01:∀z∈R.ps.map bQ,z=0\/z=1:=fun z hz=>by
  obtain⟨S,hS,rfl⟩:=YD.mp hz
  exact qG (wf S hS)
 unfold iH
 by_cases c:(0:Int)∈R.ps.map bQ
 ·rw[if_pos c]
  exact⟨c,fun z hz=>by rcases h01 z hz with q | q <;> omega⟩
 ·rw[if_neg c]
  have a1:∀z∈R.ps.map bQ,z=1:=fun z hz=>(h01 z hz).resolve_left fun q=>c (q▸hz)
  obtain⟨S,hS⟩:=List.exists_mem_of_ne_nil _ ne
  exact⟨a1 _ (YD.mpr ⟨S,hS,rfl⟩)▸YD.mpr ⟨S,hS,rfl⟩,fun z hz=>by rw[a1 z hz];exact Int.le_refl _⟩
def cA (R:RS)(ws:List (List Int)):Nat->RS
 |0=>R
 |t+1=>kJ (cA R ws t) (wrL (ws.getD t []) (cA R ws t).ps.length (iH (cA R ws t))) (iH (cA R ws t))
theorem vZ {R:RS}(h:I51 m 0 [] R)(m1:1<=m)(m5:m<=5):∀t,t<=ws.length->I51 m t (ws.take t) (cA R ws t)
 |0,_=>by rw[X2];exact h
 | t+1,ht=>by
  have ih:=vZ h m1 m5 t (by omega)
  rw[Yh ht]
  have e:ws.getD t []=ws[t]:=by rw[Yn,Yb ht];rfl
  show I51 m (t+1) _ (kJ (cA R ws t) (wrL (ws.getD t []) _ _) _)
  rw[e]
  exact ih.turn m5 (tG ih.wf fun z=>by have:=ih.ln;rw[z]at this;have:0=m:=this;omega) _
def I51.szR {t:Nat}{R:RS}(h:I51 m t ws R)(ht:t<=100):SzR R:=
 ⟨by rw[h.bo];omega,fun x hx=>(by rw[h.sl x hx];omega),fun x hx=>(by rw[h.hl x hx];omega),by have:=h.el;omega,fun S hS=>by have:=h.up S hS;omega⟩
def hsW (R:RS)(ws:List (List Int))(t0 t i:Nat):Int:=wrB (ws.getD (t0+t) []) ((i:Nat):Int) (iH (cA R ws (t0+t)))
theorem mR (R:RS)(ws:List (List Int)):∀n:Nat,(cA R ws n).ps.length=R.ps.length
 |0=>rfl
 |n+1=>((jF (cA R ws n) _ _).2.2.1).trans (mR R ws n)
theorem iJ (R:RS)(ws:List (List Int))(t0:Nat):∀t,jN (cA R ws t0) (hsW R ws t0) t=cA R ws (t0+t)
 |0=>rfl
 | t+1=>by
  show kJ (jN (cA R ws t0) (hsW R ws t0) t) _ _=kJ (cA R ws (t0+t)) (wrL (ws.getD (t0+t) []) (cA R ws (t0+t)).ps.length (iH (cA R ws (t0+t)))) (iH (cA R ws (t0+t)))
  rw[iJ R ws t0 t,mR R ws t0,mR R ws (t0+t)]
  rfl
structure J51 (C:Addr)(A:Cs)(P:Addr)(F H:Hp)(r:Addr)(R:RS)(o:Own):Prop where
 rl:bK C A H r R o
 tb:lX P o H
 kp:∀x u,F x=some u->H x=some u/\(¬ o x\/isT u)/\x≠P
structure Mu (P:Addr)(F H:Hp)(o:Own)(l:Addr)(vs:List V):Prop where
 at_:H l=some (.lst vs)
 no:¬ o l
 nF:F l=none
section
variable {P:Addr}{l l':Addr}{R:RS}{vs':List V}
def J51.sm (h:J51 C A P F H r R o):Same F H:=fun x u e=>(h.kp x u e).1
def J51.same (h:J51 C A P F H r R o)(g:Same H H'):J51 C A P F H' r R o:=⟨let ⟨w,x⟩:=h.rl;⟨w,x.same g⟩,h.tb.same g,fun x u e=>⟨g _ _ (h.kp x u e).1,(h.kp x u e).2⟩⟩
def J51.pt (h:J51 C A P F H r R o):∃ps,H P=some (.tbl ps):=let ⟨_,ps,e,_⟩:=h.tb;⟨ps,e⟩
def J51.turn (h:J51 C A P F H r R o)(hR:bK C A H' r R' o')(t:lX P o' H')(m:MvP P o H o' H'):J51 C A P F H' r R' o':=⟨hR,t,fun x u e=>by
 obtain⟨a,b,c⟩:=h.kp x u e
 refine⟨m.1 _ _ a (b.imp (fun b z=>z.elim b c) id),b.imp (fun b z=>m.out a (fun z=>z.elim b c) (.inl z)) id,c⟩⟩
def Mu.same (h:Mu P F H o l vs)(g:Same H H'):Mu P F H' o l vs:=⟨g _ _ h.at_,h.no,h.nF⟩
def Mu.nP (h:Mu P F H o l vs)(j:J51 C A P F H r R o):l≠P:=fun z=>by
 obtain⟨ps,e⟩:=j.pt
 have:=h.at_
 rw[z,e]at this;cases this
def Mu.turn (h:Mu P F H o l vs)(j:J51 C A P F H r R o)(m:MvP P o H o' H'):Mu P F H' o' l vs:=⟨m.1 _ _ h.at_ (.inl fun z=>z.elim h.no (h.nP j)),fun z=>m.out h.at_ (fun z=>z.elim h.no (h.nP j)) (.inl z),h.nF⟩
def Mu.put (h:Mu P F H o l vs):Mu P F (upd H l (.lst vs')) o l vs':=⟨aB,h.no,h.nF⟩
def Mu.other (h:Mu P F H o l vs)(n:l≠l'):Mu P F (upd H l' v) o l vs:=⟨by rw[aH n];exact h.at_,h.no,h.nF⟩
def J51.put (h:J51 C A P F H r R o)(u:Mu P F H o l vs):J51 C A P F (upd H l (.lst vs')) r R o:=by
 have kt:∀y w,H y=some w->¬ y=l->upd H l (.lst vs') y=some w:=fun y w z q=>by rw[aH q];exact z
 refine⟨let ⟨w,x⟩:=h.rl;⟨w,x.move fun y w e z=>kt y w e fun q=>?_⟩,?_,fun x w e=>⟨kt _ _ (h.kp x w e).1 fun q=>(by rw[q,u.nF]at e;cases e),(h.kp x w e).2⟩⟩
 ·subst q
  rcases z with z | ⟨vs,rfl⟩
  ·exact u.no z
  ·rw[u.at_]at e;cases e
 ·obtain⟨n,ps,h1,h2,h3⟩:=h.tb
  exact⟨n,ps,kt _ _ h1 (fun q=>u.nP h q.symm),h2,h3.imp id fun ⟨c',a,b,c⟩=>⟨c',a,kt _ _ b fun q=>(by rw[q,u.at_]at b;cases b),c⟩⟩
def J51.new (h:J51 C A P F H r R o)(n:H l=none):J51 C A P F (upd H l (.lst vs)) r R o/\Mu P F (upd H l (.lst vs)) o l vs:=by
 obtain⟨w,hR⟩:=h.rl
 refine⟨h.same (aK n _),aB,fun z=>hR.al _ z n,?_⟩
 cases e:F l with
 |none=>rfl
 |some u=>rw[(h.kp l u e).1]at n;cases n
end
structure J2 (C:Addr)(A:Cs)(F H:Hp)(r:Addr)(R:RS)(o:Own)(r':Addr)(R':RS)(o':Own):Prop where
 a:bK C A H r R o
 b:bK C A H r' R' o'
 dj:∀x,o x->¬ o' x
 kp:∀x u,F x=some u->H x=some u/\(¬ o x\/isT u)/\(¬ o' x\/isT u)
section
variable {r' l:Addr}{R S:RS}{q:Own}
def J2.symm (h:J2 C A F H r R o r' R' o'):J2 C A F H r' R' o' r R o:=⟨h.b,h.a,fun x a b=>h.dj x b a,fun x u e=>let ⟨a,b,c⟩:=h.kp x u e;⟨a,c,b⟩⟩
def J2.sm (h:J2 C A F H r R o r' R' o'):Same F H:=fun x u e=>(h.kp x u e).1
def bK.same51 (h:bK C A H r R o)(g:Same H H1):bK C A H1 r R o:=let ⟨w,x⟩:=h;⟨w,x.same g⟩
def J2.same (h:J2 C A F H r R o r' R' o')(g:Same H H1):J2 C A F H1 r R o r' R' o':=⟨bK.same51 h.a g,bK.same51 h.b g,h.dj,fun x u e=>⟨g _ _ (h.kp x u e).1,(h.kp x u e).2⟩⟩
def J2.mv (h:J2 C A F H r R o r' R' o')(hR:bK C A H1 r S q)(m:Mv o H q H1):J2 C A F H1 r S q r' R' o':=by
 obtain⟨w,hb⟩:=h.b
 refine⟨hR,⟨w,hb.move fun x v e z=>m.1 x v e (z.imp (fun z y=>h.dj x y z) id)⟩,fun x hx z=>?_,fun x u e=>?_⟩
 ·rcases m.2 x hx with y | y
  ·exact h.dj x y z
  ·exact hb.al x z y
 ·obtain⟨a,b,c⟩:=h.kp x u e
  exact⟨m.1 x u a b,b.imp (fun b=>m.out a b) id,c⟩
def J2.put (h:J2 C A F H r R o r' R' o')(e:H l=some (.lst vs))(n1:¬ o l)(n2:¬ o' l)(nF:F l=none)(ws:List V):J2 C A F (upd H l (.lst ws)) r R o r' R' o':=by
 have kt:∀y w,H y=some w->¬ y=l->upd H l (.lst ws) y=some w:=fun y w z q=>by rw[aH q];exact z
 have mv:∀{r:Addr}{R:RS}{o:Own},bK C A H r R o->¬ o l->bK C A (upd H l (.lst ws)) r R o:=fun {r R o} ⟨w,x⟩ n=>⟨w,x.move fun y w e' z=>kt y w e' fun q=>by
  subst q
  rcases z with z | ⟨vs,rfl⟩
  ·exact n z
  ·rw[e]at e';cases e'⟩
 exact⟨mv h.a n1,mv h.b n2,h.dj,fun x u z=>⟨kt _ _ (h.kp x u z).1 fun q=>(by rw[q,nF]at z;cases z),(h.kp x u z).2⟩⟩
def J2.one (h:J2 C A F H r R o r' R' o'){P:Addr}(hP:H P=some (.tbl #[]))(n1:¬ o P)(n2:¬ o' P):∃F1,J51 C A P F1 H r R o/\bK C A F1 r' R' o'/\(∀x u,F x=some u->x≠P->F1 x=some u)/\∀x u,H x=some u->(¬ o x\/isT u)->x≠P->F1 x=some u:=by
 classical
 obtain ⟨F1,e1⟩:∃F1:Hp,∀x u,F1 x=some u↔H x=some u/\(¬ o x\/isT u)/\x≠P:=by
  refine⟨fun x=>if (∃u,H x=some u/\(¬ o x\/isT u))/\x≠P then H x else none,fun x u=>⟨fun z=>?_,fun ⟨a,b,c⟩=>?_⟩⟩
  ·dsimp only at z
   split at z
   ·rename_i q
    obtain⟨⟨v,a,b⟩,c⟩:=q
    rw[z]at a
    cases a
    exact⟨z,b,c⟩
   ·cases z
  ·dsimp only
   rw[if_pos ⟨⟨u,a,b⟩,c⟩];exact a
 refine⟨F1,⟨h.a,⟨n1, #[],hP,trivial,.inl rfl⟩,fun x u e=>(e1 x u).mp e⟩,?_,fun x u e n=>?_,fun x u a b c=>(e1 x u).mpr ⟨a,b,c⟩⟩
 ·obtain⟨w,hb⟩:=h.b
  refine⟨w,hb.move fun x v e z=>(e1 x v).mpr ⟨e,z.imp (fun z y=>h.dj x y z) id,fun q=>?_⟩⟩
  subst q
  rcases z with z | ⟨vs,rfl⟩
  ·exact n2 z
  ·rw[hP]at e;cases e
 ·obtain⟨a,b,c⟩:=h.kp x u e
  exact(e1 x u).mpr ⟨a,b,n⟩
end
def frT (f:Nat×Nat×List Int)(d:Addr):HO:= .tup [.int ((f.1:Nat):Int),.int ((f.2.1:Nat):Int),.ref d]
structure c1G (H:Hp)(fl:Addr)(ts:List Addr)(fs:List (Nat×Nat×List Int)):Prop where
 at_:H fl=some (.lst (ts.map V.ref))
 ln:ts.length=fs.length
 tp:∀(i:Nat)(t:Addr)(f:Nat×Nat×List Int),ts[i]? =some t->fs[i]? =some f->∃d,H t=some (frT f d)/\H d=some (.lst (f.2.2.map V.int))
def F51 (m:Nat)(fs:List (Nat×Nat×List Int)):Prop:=∀f∈fs,f.1=f.2.1 % m/\f.2.1<256/\f.2.2.length<=1/\f.2.2.all byt=true
structure vH (H:Hp)(wl:Addr)(as:List Addr)(ws:List (List Int)):Prop where
 at_:H wl=some (.lst (as.map V.ref))
 ln:as.length=ws.length
 row:∀(i:Nat)(a:Addr)(w:List Int),as[i]? =some a->ws[i]? =some w->H a=some (.lst (w.map V.int))
def vH.same (h:vH H wl as ws)(g:Same H H'):vH H' wl as ws:=⟨g _ _ h.at_,h.ln,fun i a w x y=>g _ _ (h.row i a w x y)⟩
def W51 (m:Nat)(ws:List (List Int)):Prop:=∀w∈ws,w.length<=2/\∀x∈w,0<=x/\x<((m:Nat):Int)
def a9L (K:W.Frag):Sp:=fun vs H Q _=>∃(a:Addr)(ss:List Int)(m:Nat),vs= [.ref a,.int ((m:Nat):Int)]/\SqL K H a (ss.map V.int)/\ss.length<=63/\m<=5/\∀(l:Addr)(cs:List (Int×Int)) H',H l=none->Same H H'->iI H' l cs->cs.length=m->(∀c∈cs,byt c.1=true/\byt c.2=true)->Q (.ref l) H'
def b3V (K:W.Frag):Sp:=fun vs H Q _=>∃(a:Addr)(ss:List Int)(m:Nat),vs= [.ref a,.int ((m:Nat):Int),.int 5]/\SqL K H a (ss.map V.int)/\ss.length<=63/\1<=m/\m<=5/\∀(l:Addr)(ts:List Addr)(fs:List (Nat×Nat×List Int)) H',H l=none->Same H H'->H' l=some (.lst (ts.map V.ref))->ts.length=fs.length->(∀(i:Nat)(t:Addr)(f:Nat×Nat×List Int),ts[i]? =some t->fs[i]? =some f->∃d,H d=none/\H' t=some (frT f d)/\H' d=some (.lst (f.2.2.map V.int)))->F51 m fs->fs.length<=5->Q (.ref l) H'
def b3P (K:W.Frag):Sp:=fun vs H Q _=>∃(a:Addr)(ss:List Int)(m:Nat),vs= [.ref a,.int ((m:Nat):Int)]/\SqL K H a (ss.map V.int)/\ss.length<=63/\1<=m/\m<=5/\∀(l:Addr)(as:List Addr)(ws:List (List Int)) H',H l=none->Same H H'->vH H' l as ws->W51 m ws->ws.length=60->Q (.ref l) H'
def a5P:Sp:=fun vs H Q _=>∃(l:Addr)(bs:List Int)(n:Nat),vs= [.ref l,.int ((n:Nat):Int)]/\H l=some (.lst (bs.map V.int))/\bs.length=n/\bU bs/\∀H',Same H H'->Q (.bl true) H'
def xP {w:List Int}(h:i<w.length):atI (w.map V.int) ((i:Nat):Int)=some (.int (w.getD i 0)):=fC (by rw[Yl,Yb h,Yn,Yb h];rfl)
def xT (H:Hp)(sl:List Addr)(xs:List (List Int)):Prop:=∀(i:Nat)(a:Addr),sl[i]? =some a->∃x,xs[i]? =some x/\H a=some (.lst (x.map V.int))
def xT.same {sl:List Addr}(h:xT H sl xs)(g:Same H H'):xT H' sl xs:=fun i a e=>let ⟨x,a1,a2⟩:=h i a e;⟨x,a1,g _ _ a2⟩
def xT.snoc {sl:List Addr}{l:Addr}{x:List Int}(h:xT H sl xs)(e1:xs[sl.length]? =some x)(e2:H l=some (.lst (x.map V.int))):xT H (sl++[l]) xs:=fun k a e=>by
 by_cases c:k<sl.length
 ·rw[YC c]at e
  exact h k a e
 ·rw [YA (by omega)]at e
  cases ek:k-sl.length with
  | zero=>
   rw[ek]at e
   cases e
   rw[show k=sl.length by omega]
   exact⟨x,e1,e2⟩
  |succ k=>rw[ek]at e;cases e
def a4U (C:Addr)(A:Cs):Sp:=fun vs H Q _=>∃(r:Addr)(R:RS)(o:Own)(w:Rw)(m:Nat)(wl:Addr)(as:List Addr)(ws:List (List Int)),vs= [.ref r,.int ((m:Nat):Int),.ref wl]/\bY C A H r R o w/\I51 m 60 ws R/\vH H wl as ws/\1<=m/\m<=5/\∀H',Same H H'->Q (.bl true) H'
theorem gM.get:∀{vs:List V}{es:List (Nat×Nat×Str)},gM H vs es->∀{i:Nat}{v:V},vs[i]? =some v->∃t e,v= .ref t/\es[i]? =some e/\H t=some (.tup [.int ((e.1:Nat):Int),.int ((e.2.1:Nat):Int),.str e.2.2])
 |_,_,.cons a _,0,_,rfl=>⟨_,_,rfl,rfl,a⟩
 |_,_,.cons _ q,i+1,_,h=>q.get (i:=i) h
mutual
theorem DV.same (g:Same H H'):∀{v:V}{d:PyData},DV K H v d->DV K H' v d
 |_,_,.non=> .non
 |_,_,.bl b=> .bl b
 |_,_,.int i=> .int i
 |_,_,.str s=> .str s
 |_,_,.lst h r=> .lst (g.seq h) (DVs.same g r)
 |_,_,.tup h r=> .tup (g.seqT h) (DVs.same g r)
theorem DVs.same (g:Same H H'):∀{vs:List V}{ds:List PyData},DVs K H vs ds->DVs K H' vs ds
 |_,_,.nil=> .nil
 |_,_,.cons h r=> .cons (DV.same g h) (DVs.same g r)
end
def a9J (C:Addr)(A:Cs):Sp:=fun vs H Q _=>∃(r:Addr)(R:RS)(o:Own)(w:Rw)(m:Nat),vs= [.ref r,.int ((m:Nat):Int),.int 60]/\bY C A H r R o w/\EvI 60 0 m R.ev/\∀H',Same H H'->Q (.bl true) H'
def a0A (d:PyData):Prop:=d.canLay0=true/\d.depth<=8
def b5C {n:Nat}{ds:List PyData}(h:∀d∈ds,d.canLay0=true/\d.depth<=n):(PyData.list ds).canLay0=true/\(PyData.list ds).depth<=n+1:=by
 have all:PyData.canLayAll0 ds=true/\PyData.depthAll ds<=n:=by
  induction ds with
  |nil=>exact⟨rfl,YO _⟩
  | cons d r ih=>
   have h1:=h d YH
   have h2:=ih fun z hz=>h z (Yz _ hz)
   simp only[PyData.canLayAll0,PyData.depthAll,h1.1,h2.1,Bool.and_self,true_and]
   have:=h1.2;have:=h2.2;omega
 refine⟨by simp only[PyData.canLay0];exact all.1,?_⟩
 simp only[PyData.depth]
 have:=all.2
 omega
def uF (i:Int):(PyData.int i).canLay0=true/\(PyData.int i).depth<=1:=⟨rfl,by simp only[PyData.depth];omega⟩
def mF (ns:List Int):(PyData.list (ns.map .int)).canLay0=true/\(PyData.list (ns.map .int)).depth<=2:=b5C fun d hd=>by
 obtain⟨i,_,rfl⟩:=YD.mp hd
 exact uF i
def a0A.of {n:Nat}{d:PyData}(h:d.canLay0=true/\d.depth<=n)(hn:n<=8):a0A d:=⟨h.1,YN h.2 hn⟩
def a7J (fs:List Fr):(PyData.list (fs.map frD)).canLay0=true/\(PyData.list (fs.map frD)).depth<=6:=b5C fun d hd=>by
 obtain⟨f,_,rfl⟩:=YD.mp hd
 have h:=mF f.2
 have h1:=h.1
 have h2:=h.2
 unfold frD
 simp only[PyData.canLay0]at h1
 refine⟨by simp only[PyData.canLay0,PyData.canLayAll0,Bool.true_and,Bool.and_true];exact h1,?_⟩
 simp only[PyData.depth,PyData.depthAll]at h2 ⊢
 omega
def a7K (es:List (Nat×Nat×Str))(h:∀e∈es,PyData.strOk e.2.2=true):(PyData.list (es.map evD)).canLay0=true/\(PyData.list (es.map evD)).depth<=6:=b5C fun d hd=>by
 obtain⟨e,he,rfl⟩:=YD.mp hd
 have:=h e he
 unfold evD
 refine⟨by simp only[PyData.canLay0,PyData.canLayAll0,this,Bool.true_and,Bool.and_true],?_⟩
 simp only[PyData.depth,PyData.depthAll]
 decide
def pK {ds:List PyData}(h:∀d∈ds,a0A d):SeqAt.shaped (.list ds)=true:=a9R fun d hd=>⟨(h d hd).1,YN (h d hd).2 (by decide)⟩
def wC (S:PS)(sa he:List Int):List PyData:=[.list (sa.map .int),.list (he.map .int),.tuple [.str S.now.shown.1,.int ((S.now.shown.2:Nat):Int)],.list (S.wt.map frD),.list (S.up.map frD)]++[.int S.tot,.bool (decide (12<=S.tot)),.bool (decide (18<=S.tot))]
def nY (R:RS):Nat->List PyData
 |0=>[.int ((R.bo.length:Nat):Int),.list (R.bo.map .int),.list (R.ev.map evD)]
 |n+1=>nY R n++((R.ps[n]?).map fun S=>wC S (R.sa.getD n []) (R.he.getD n [])).getD []
theorem rW {R:RS}(h:∀e∈R.ev,PyData.strOk e.2.2=true):∀n,∀d∈nY R n,a0A d
 | 0,d,hd=>by
  rcases Yt.mp hd with rfl | hd
  ·exact .of (uF _) (by decide)
  rcases Yt.mp hd with rfl | hd
  ·exact .of (mF _) (by decide)
  rw[Yj.mp hd]
  exact .of (a7K _ h) (by decide)
 | n + 1, d,hd=>by
  rcases YB.mp (show d∈nY R n++_ from hd) with hd | hd
  ·exact rW h n d hd
  cases e:R.ps[n]? with
  |none=>rw[e]at hd;cases hd
  | some S=>
   rw[e]at hd
   have hd':d∈wC S (R.sa.getD n []) (R.he.getD n []):=hd
   unfold wC at hd'
   simp only[List.cons_append,List.nil_append,Yt,XM,or_false]at hd'
   rcases hd' with rfl | rfl | rfl | rfl | rfl | rfl | rfl | rfl
   ·exact .of (mF _) (by decide)
   ·exact .of (mF _) (by decide)
   ·refine⟨?_,?_⟩
    ·simp only[PyData.canLay0,PyData.canLayAll0,a5R S.now,Bool.true_and,Bool.and_true]
    ·simp only[PyData.depth,PyData.depthAll]
     decide
   ·exact .of (a7J _) (by decide)
   ·exact .of (a7J _) (by decide)
   ·exact .of (uF _) (by decide)
   ·exact⟨rfl,by simp only[PyData.depth];decide⟩
   ·exact⟨rfl,by simp only[PyData.depth];decide⟩
theorem DVs.app:∀{xs ys:List V}{ds es:List PyData},DVs K H xs ds->DVs K H ys es->DVs K H (xs++ys) (ds++es)
 |_,_,_,_,.nil,h=>h
 |_,_,_,_,.cons a r,h=> .cons a (DVs.app r h)
def a1Y (K:W.Frag)(C:Addr)(A:Cs):Sp:=fun vs H Q _=>∃(r:Addr)(R:RS)(o:Own)(w:Rw)(m:Nat)(ws:List (List Int)),vs= [.ref r,.int ((m:Nat):Int)]/\bY C A H r R o w/\I51 m 60 ws R/\1<=m/\m<=5/\∀l xs H',H l=none->Same H H'->H' l=some (.lst xs)->DVs K H' xs (nY R m)->Q (.ref l) H'
section
variable {P:Addr}{l:Addr}{R:RS}
def J51.frz (h:J51 C A P F H r R o)(u:Mu P F H o l vs):J51 C A P (upd F l (.lst vs)) H r R o/\Same F (upd F l (.lst vs)):=by
 refine⟨⟨h.rl,h.tb,fun x w e=>?_⟩,aK u.nF _⟩
 by_cases c:x=l
 ·rw[c,aB]at e
  cases e
  rw[c]
  exact⟨u.at_,.inl u.no,u.nP h⟩
 ·rw[aH c]at e
  exact h.kp x w e
def J51.frzL (h:J51 C A P F H r R o)(ls:List (Addr×List V))(u:∀p∈ls,Mu P F H o p.1 p.2):∃F',J51 C A P F' H r R o/\Same F F'/\(∀p∈ls,F' p.1=some (.lst p.2))/\∀x,x∉ls.map (·.1)->F x=none->F' x=none:=by
 classical
 obtain⟨F',e1,e2⟩:∃F':Hp,(∀x,x∈ls.map (·.1)->F' x=H x)/\∀x,x∉ls.map (·.1)->F' x=F x:=⟨fun x=>if x∈ls.map (·.1) then H x else F x,fun x c=>if_pos c,fun x c=>if_neg c⟩
 refine⟨F',⟨h.rl,h.tb,fun x w e=>?_⟩,fun x w e=>?_,fun p hp=>?_,fun x n e=>(e2 x n).trans e⟩
 ·by_cases c:x∈ls.map (·.1)
  ·rw[e1 x c]at e
   obtain⟨p,hp,rfl⟩:=YD.mp c
   exact⟨e,.inl (u p hp).no,(u p hp).nP h⟩
  ·rw[e2 x c]at e
   exact h.kp x w e
 ·by_cases c:x∈ls.map (·.1)
  ·rw[e1 x c];exact h.sm _ _ e
  ·rw[e2 x c];exact e
 ·rw[e1 _ (YD.mpr ⟨p,hp,rfl⟩)];exact(u p hp).at_
def J51.allT (h:J51 C A P F H r R o):∃F',J51 C A P F' H r R o/\Same F F'/\(∀x xs,H x=some (.tup xs)->F' x=some (.tup xs))/\∀x vs,H x=some (.lst vs)->F x=none->F' x=none:=by
 classical
 refine⟨fun x=>if ∃xs,H x=some (.tup xs) then H x else F x,⟨h.rl,h.tb,fun x u e=>?_⟩,fun x u e=>?_,fun x xs e=>?_,fun x vs e n=>?_⟩
 ·split at e
  ·rename_i c
   obtain⟨xs,c⟩:=c
   refine⟨e,.inr ?_,fun z=>?_⟩
   ·rw[c]at e;cases e;exact⟨_,rfl⟩
   ·obtain⟨ps,ep⟩:=h.pt
    rw[z,ep]at c;cases c
  ·exact h.kp x u e
 ·dsimp only
  split
  ·exact(h.kp x u e).1
  ·exact e
 ·dsimp only
  rw[if_pos ⟨xs,e⟩];exact e
 ·dsimp only
  rw[if_neg fun ⟨xs,z⟩=>(by rw[e]at z;cases z)];exact n
end
def Mu.up {P:Addr}{l:Addr}(h:Mu P F H o l vs)(n:F' l=none):Mu P F' H o l vs:=⟨h.at_,h.no,n⟩
def tld (R:RS)(ws:List (List Int))(n:Nat):List Int:=(List.range n).map fun t=>iH (cA R ws t)
open Classical in
noncomputable def Rst (ob:Own)(F:Hp):Hp:=fun x=>if ob x/\¬ ∃xs,F x=some (.tup xs) then none else F x
section
variable {u:HO}
def Rst.of (e:F x=some u)(h:¬ ob x\/isT u):Rst ob F x=some u:=by
 unfold Rst
 rw[if_neg]
 ·exact e
 ·rintro ⟨a,b⟩
  rcases h with h | ⟨vs,rfl⟩
  ·exact h a
  ·exact b ⟨_,e⟩
def Rst.to (e:Rst ob F x=some u):F x=some u/\(¬ ob x\/isT u):=by
 unfold Rst at e
 split at e
 ·cases e
 ·rename_i c
  refine⟨e,?_⟩
  by_cases z:ob x
  ·have:∃xs,F x=some (.tup xs):=Classical.not_not.mp fun n=>c ⟨z,n⟩
   obtain⟨xs,y⟩:=this
   rw[e]at y
   cases y
   exact .inr ⟨_,rfl⟩
  ·exact .inl z
def Rst.same (g:Same F F'):Same (Rst ob F) (Rst ob F'):=fun x u e=>let ⟨a,b⟩:=Rst.to e;Rst.of (g _ _ a) b
end
def yH (K:W.Frag)(C:Addr)(A:Cs):Sp:=fun vs H Q _=>∃(r:Addr)(F:Hp)(R:RS)(o:Own)(m:Nat)(wl hl kl:Addr)(as:List Addr)(ws:List (List Int))(ob:Own),vs= [.ref r,.int ((m:Nat):Int),.ref wl,.ref hl,.ref kl]/\J51 C A 958 F H r R o/\Mu 958 F H o hl []/\Mu 958 F H o kl []/\hl≠kl/\vH F wl as ws/\ws.length=60/\W51 m ws/\I51 m 0 [] R/\1<=m/\m<=5/\(∀x,ob x->F x≠none)/\
 ∀l F' H' o' ds,Same F F'->J51 C A 958 F' H' r (cA R ws 60) o'->Rst ob F' l=some (.lst ((tld R ws 60).map V.int))->DV K (Rst ob F') (.ref hl) (.list ds)->DV K (Rst ob F') (.ref kl) (.list ds)->SeqAt.shaped (.list ds)=true->Q (.ref l) H'
def FnE.fn {c':Addr}{st:Stmt}{cl:List (Str×Addr)}(h:H f=some (FnO f st q cl c')):FnE K H f:= .inr ⟨_,h,fun _ ⟨_,_,_,e⟩=>⟨_,_,_,_,e⟩⟩
def jH (H:Hp)(g:Addr)(ps:List (Int×Int))(o:Own):Prop:=∃c c' d,(H g=some (FnO g sH iqH [("kept",c)] c')/\H c'=some (dW c' iqH)/\H c=some (cI c (.ref d))/\H d=some (.dT (kvP ps)))/\¬ o g/\¬ o c'/\¬ o c/\¬ o d
section
variable {g al:Addr}
def jH.heard (h:jH H g ps o):b2Z H g ps:=let ⟨c,c',d,a,_⟩:=h;⟨c,c',d,a⟩
def jH.same (h:jH H g ps o)(k:Same H H'):jH H' g ps o:=let ⟨c,c',d,⟨a1,a2,a3,a4⟩,b⟩:=h;⟨c,c',d,⟨k _ _ a1,k _ _ a2,k _ _ a3,k _ _ a4⟩,b⟩
def jH.mv (h:jH H g ps o)(m:Mv o H o' H'):jH H' g ps o':=let ⟨c,c',d,⟨a1,a2,a3,a4⟩,b1,b2,b3,b4⟩:=h;⟨c,c',d,⟨m.1 _ _ a1 (.inl b1),m.1 _ _ a2 (.inl b2),m.1 _ _ a3 (.inl b3),m.1 _ _ a4 (.inl b4)⟩,m.out a1 b1,m.out a2 b2,m.out a3 b3,m.out a4 b4⟩
def jH.fn (h:jH H g ps o):FnE K H g:=let ⟨_,_,_,a,_⟩:=h;FnE.fn a.1
def gW (H:Hp)(g al pl:Addr)(ps:List (Int×Int))(cl:List Addr)(o:Own):Prop:=∃c1 c2 c' qs,cl= [c2,c1]/\c1≠c2/\(H g=some (FnO g sN iqN [("_law_pairs",c2),("_law_asked",c1)] c')/\H c'=some (dW c' iqN)/\H c1=some (cI c1 (.ref al))/\H c2=some (cI c2 (.ref pl))/\H pl=some (.lst (qs.map V.ref)))/\PrT H qs ps/\pl≠al/\¬ o g/\¬ o c'/\¬ o c1/\¬ o c2/\¬ o pl
variable {cl:List Addr}{pl:Addr}
def gW.n (h:gW H g al pl ps cl o):b2Y H g al ps:=let ⟨c1,c2,c',qs,_,n,⟨a1,a2,a3,a4,a5⟩,b,d,_⟩:=h;⟨c1,c2,c',pl,qs,n,a1,a2,a3,a4,a5,b,d⟩
def gW.keep (h:gW H g al pl ps cl o){as:List V}(ea:H al=some (.lst as))(k:∀y u,y≠al->H y=some u->H' y=some u):gW H' g al pl ps cl o:=by
 obtain⟨c1,c2,c',qs,e,n,⟨a1,a2,a3,a4,a5⟩,b,d,r⟩:=h
 have nx:∀{y φ},H y=some (.ext φ)->y≠al:=fun {y φ} z q=>by rw[q,ea]at z;cases z
 exact⟨c1,c2,c',qs,e,n,⟨k _ _ (nx a1) a1,k _ _ (nx a2) a2,k _ _ (nx a3) a3,k _ _ (nx a4) a4,k _ _ d a5⟩,b.mono fun y xs z=>k y _ (fun q=>by rw[q,ea]at z;cases z) z,d,r⟩
def gW.same (h:gW H g al pl ps cl o)(k:Same H H'):gW H' g al pl ps cl o:=by
 obtain⟨c1,c2,c',qs,e,n,⟨a1,a2,a3,a4,a5⟩,b,d⟩:=h
 exact⟨c1,c2,c',qs,e,n,⟨k _ _ a1,k _ _ a2,k _ _ a3,k _ _ a4,k _ _ a5⟩,b.same k,d⟩
def gW.mv (h:gW H g al pl ps cl o)(m:Mv o H o' H'):gW H' g al pl ps cl o':=by
 obtain⟨c1,c2,c',qs,e,n,⟨a1,a2,a3,a4,a5⟩,b,d,r1,r2,r3,r4,r5⟩:=h
 exact⟨c1,c2,c',qs,e,n,⟨m.1 _ _ a1 (.inl r1),m.1 _ _ a2 (.inl r2),m.1 _ _ a3 (.inl r3),m.1 _ _ a4 (.inl r4),m.1 _ _ a5 (.inl r5)⟩,b.mono fun y xs z=>m.1 _ _ z (.inr ⟨_,rfl⟩),d,m.out a1 r1,m.out a2 r2,m.out a3 r3,m.out a4 r4,m.out a5 r5⟩
end
def uZ (R:RS):iH R=0\/iH R=1:=by
 unfold iH
 by_cases c:(0:Int)∈R.ps.map bQ
 ·rw[if_pos c];exact .inl rfl
 ·rw[if_neg c];exact .inr rfl
def Prs (ps:List (Int×Int))(ws:List (List Int)):Prop:=∀i t:Nat,t<60->((((i:Nat):Int),((t:Nat):Int))∈ps↔((i:Nat):Int)∈ws.getD t [])
section
variable {aw:Addr}{R:RS}{t0 n:Nat}
def vX (hp:Prs ps ws)(hb:(cA R ws t0).bo.length=t0)(h60:t0+n<=60):a8U K (qF aw) f (cA R ws t0) n (hsW R ws t0) (fun _=>False) (fun _ H o=>jH H f ps o) (fun _ _ H o=>jH H f ps o):=by
 refine⟨fun t H o _ x hx=>hx.elim,fun t H o H1 h g=>h.same g,fun t ht i hi H o h=>⟨h.fn,fun Q1 k=> .inr (.inl ⟨_,_,_,ps,rfl,h.heard,fun H' g=>?_⟩)⟩,fun t i=>pW (uZ _),fun t H1 H2 H o o' h g m=>(h.same g).mv m⟩
 have:=k H' (h.same g) (Mv.of g)
 rw[iJ,hb]
 unfold hsW wrB at this
 by_cases c:((i:Nat):Int)∈ws.getD (t0+t) []
 ·rw[if_pos c]at this
  rw[if_pos ((hp i (t0+t) (by omega)).mpr c)]
  exact this
 ·rw[if_neg c]at this
  rw[if_neg fun z=>c ((hp i (t0+t) (by omega)).mp z)]
  exact this
def a2M (hf:∃oc od fd sl,K.lookup aw=some ⟨oc,od,.func fd,sl⟩)(hp:Prs [] ws)(h60:t0+n<=60):a8U K (qF aw) aw (cA R ws t0) n (hsW R ws t0) (fun _=>False) (fun _ _ _=>True) (fun _ _ _ _=>True):=by
 refine⟨fun t H o _ x hx=>hx.elim,fun t H o H1 h g=>trivial,fun t ht i hi H o h=>⟨.inl hf,fun Q1 k=> .inr (.inr (.inl ⟨rfl,_,_,_,rfl,?_⟩))⟩,fun t i=>pW (uZ _),fun t H1 H2 H o o' h g m=>trivial⟩
 have:=k H trivial Mv.refl
 rw[iJ]
 unfold hsW wrB at this
 rw[if_neg fun z=>(by have:=(hp i (t0+t) (by omega)).mpr z;cases this)]at this
 exact this
def vC (R:RS)(ws:List (List Int))(m k:Nat):Int×Int×Int:=(((k % m:Nat):Int),((20+k / m:Nat):Int),iH (cA R ws (20+k / m)))
def vK (H:Hp)(al:Addr)(R:RS)(ws:List (List Int))(m k:Nat)(o:Own):Prop:=∃vs,H al=some (.lst vs)/\gY H vs ((List.range k).map (vC R ws m))/\¬ o al
def vK.same {al:Addr}(h:vK H al R ws m k o)(g:Same H H'):vK H' al R ws m k o:=let ⟨vs,a,b,c⟩:=h;⟨vs,g _ _ a,b.imp fun x xs z=>g _ _ z,c⟩
def vK.mv {al:Addr}(h:vK H al R ws m k o)(g:Mv o H o' H'):vK H' al R ws m k o':=let ⟨vs,a,b,c⟩:=h;⟨vs,g.1 _ _ a (.inl c),b.imp fun x xs z=>g.1 _ _ z (.inr ⟨_,rfl⟩),g.out a c⟩
def a5V {al pl:Addr}{cl:List Addr}(hp:Prs ps ws)(hb:(cA R ws 20).bo.length=20)(hm:(cA R ws 20).ps.length=m)(m1:1<=m)(m5:m<=5):a8U K (qF aw) f (cA R ws 20) 25 (hsW R ws 20) (fun x=>x=al) (fun t H o=>gW H f al pl ps cl o/\vK H al R ws m (t*m) o) (fun t i H o=>gW H f al pl ps cl o/\vK H al R ws m (t*m+i) o):=by
 refine⟨fun t H o ⟨_,vs,a,_,c⟩ x hx=>?_,fun t H o H1 ⟨h,k⟩ g=>⟨h.same g,k.same g⟩,fun t ht i hi H o ⟨h,vs,a,b,c⟩=>⟨?_,fun Q1 k=>?_⟩,fun t i=>pW (uZ _),fun t H1 H2 H o o' ⟨h,k⟩ g mv=>?_⟩
 ·rw[hx]
  exact⟨c,by rw[a];simp⟩
 ·obtain⟨_,_,_,_,_,_,a1,_⟩:=h
  exact FnE.fn a1.1
 ·rw [hm]at hi
  have lv:=b.len
  rw[Ya,YK]at lv
  have tm:t*m<=25*5:=Nat.mul_le_mul (by omega) m5
  refine .inr (.inr (.inr ⟨_,_,_,al,vs,ps,rfl,uZ _,h.n,a,by omega,fun t1 H' ht1 kp et1 ea1=>?_⟩))
  have kt:∀x xs,H x=some (.tup xs)->H' x=some (.tup xs):=fun x xs z=>kp x _ (fun q=>by rw[q,a]at z;cases z) z
  have q:=k H' ⟨h.keep a kp,_,ea1,?_,c⟩ ⟨fun x v z y=>kp x v (fun q=>y.elim (fun n=>n q) fun ⟨vs,n⟩=>by rw[q,a]at z;cases z;cases n) z,fun x hx=> .inl hx⟩
  ·rw [iJ,hb]at *
   unfold hsW wrB at q
   by_cases cc:((i:Nat):Int)∈ws.getD (20+t) []
   ·rw[if_pos cc]at q
    rw[if_pos ((hp i (20+t) (by omega)).mpr cc)]
    exact q
   ·rw[if_neg cc]at q
    rw[if_neg fun z=>cc ((hp i (20+t) (by omega)).mp z)]
    exact q
  ·rw[<-Nat.add_assoc,Xr,Yk]
   refine(b.imp kt).snoc ?_
   have e1:(t*m+i) % m=i:=by rw[Nat.mul_comm,Nat.mul_add_mod,Nat.mod_eq_of_lt hi]
   have e2:(t*m+i) / m=t:=by rw[Nat.mul_comm,Nat.mul_add_div (by omega),Nat.div_eq_of_lt hi,Nat.add_zero]
   unfold vC
   rw[e1,e2]
   rw[iJ,hb]at et1
   exact et1
 ·rw[hm]at k
  rw[show (t+1)*m=t*m+m from Nat.succ_mul t m]
  exact⟨(h.same g).mv mv,(k.same g).mv mv⟩
end
def a9F (C:Addr)(A:Cs):Sp:=fun vs H Q _=>∃(r:Addr)(R:RS)(o:Own)(w:Rw)(m:Nat)(wl al:Addr)(as:List Addr)(ws:List (List Int)),vs= [.ref r,.int ((m:Nat):Int),.ref wl,.ref al]/\bY C A H r R o w/\I51 m 0 [] R/\vH H wl as ws/\ws.length=60/\W51 m ws/\H al=some (.lst [])/\¬ o al/\H 1073=some (.tbl #[])/\¬ o 1073/\H 1134=some (.tbl #[])/\¬ o 1134/\1<=m/\m<=5/\
 ∀l H' o' vs,bK C A H' r (cA R ws 60) o'->(∀x u,H x=some u->(¬ o x\/isT u)->x≠1073->x≠1134->x≠al->H' x=some u)->H' al=some (.lst vs)->gY H' vs ((List.range (25*m)).map (vC R ws m))->H' l=some (.lst ((tld R ws 60).map V.int))->Q (.ref l) H'
def mL (al:Addr)(o:Own)(H:Hp)(o':Own)(H':Hp):Prop:=∀x u,H x=some u->(¬ o x\/isT u)->x≠1073->x≠1134->x≠al->H' x=some u/\(¬ o' x\/isT u)
section
variable {al l:Addr}
def mL.same (h:mL al o H o' H')(g:Same H' H2):mL al o H o' H2:=fun x u e a b c d=>let ⟨p,q⟩:=h x u e a b c d;⟨g _ _ p,q⟩
def mL.tab (h:mL al o H o' H'){P:Addr}(hP:P=1073\/P=1134)(g:∀b u,b≠P->H' b=some u->H2 b=some u):mL al o H o' H2:=fun x u e a b c d=>let ⟨p,q⟩:=h x u e a b c d;⟨g _ _ (fun z=>hP.elim (fun y=>b (z.trans y)) fun y=>c (z.trans y)) p,q⟩
def mL.put (h:mL al o H o' H')(n:H l=none):mL al o H o' (upd H' l v):=fun x u e a b c d=>let ⟨p,q⟩:=h x u e a b c d;⟨by rw[aH (aJ e n)];exact p,q⟩
def mL.mv (h:mL al o H o' H')(hx:∀x,ox x->x=al)(m:Mv (Or2 o' ox) H' (Or2 o2 ox) H2):mL al o H o2 H2:=fun x u e a b c d=>by
 obtain⟨p,q⟩:=h x u e a b c d
 have q':¬ Or2 o' ox x\/isT u:=q.imp (fun q z=>z.elim q fun y=>d (hx x y)) id
 exact⟨m.1 _ _ p q',q'.imp (fun q' z=>m.out p q' (.inl z)) id⟩
end
def tR (R:RS)(ws:List (List Int))(t0 n:Nat):tld R ws t0++((List.range n).map fun k=>iH (jN (cA R ws t0) (hsW R ws t0) k))=tld R ws (t0+n):=by
 unfold tld
 rw[List.range_add,Yk,List.map_map]
 congr 1
 exact List.map_congr_left fun k _=>by rw[iJ];rfl
def J2.mk51 {r':Addr}{R:RS}(a:bK C A H r R o)(b:bK C A H r' R' o')(dj:∀x,o x->¬ o' x):∃F,J2 C A F H r R o r' R' o'/\(∀x u,H x=some u->¬ o x->¬ o' x->F x=some u)/\∀x vs,H x=some (.tup vs)->F x=some (.tup vs):=by
 refine⟨Rst (Or2 o o') H,⟨a,b,dj,fun x u e=>?_⟩,fun x u e n1 n2=>Rst.of e (.inl fun z=>z.elim n1 n2),fun x vs e=>Rst.of e (.inr ⟨_,rfl⟩)⟩
 obtain⟨p,q⟩:=Rst.to e
 exact⟨p,q.imp (fun q z=>q (.inl z)) id,q.imp (fun q z=>q (.inr z)) id⟩
def iI.dv {l:Addr}{cs:List (Int×Int)}(h:iI H l cs):DV K H (.ref l) (.list (cs.map prD)):=by
 obtain⟨ts,e,ln,tp⟩:=h
 refine .lst (Vb e) ?_
 clear e
 induction ts generalizing cs with
 | nil=>
  cases cs with
  |nil=>exact .nil
  |cons c cs=>cases ln
 | cons t ts ih=>
  cases cs with
  |nil=>cases ln
  |cons c cs=>exact .cons (.tup (Vc (tp 0 t c rfl rfl)) (.cons (.int _) (.cons (.int _) .nil))) (ih (Nat.succ.inj ln) fun i t c a b=>tp (i+1) t c a b)
def a2J (cs:List (Int×Int)):SeqAt.shaped (.list (cs.map prD))=true:=pK fun d hd=>by
 obtain⟨c,_,rfl⟩:=YD.mp hd
 exact⟨rfl,by unfold prD;simp only[PyData.depth,PyData.depthAll];decide⟩
def b6F (p:Int×Int×Int):PyData:= .tuple [.int p.1,.int p.2.1,.int p.2.2]
theorem gY.dvs:∀{vs:List V}{ps:List (Int×Int×Int)},gY H vs ps->DVs K H vs (ps.map b6F)
 |_,_,.nil=> .nil
 |_,_,.cons h t=> .cons (.tup (Vc h) (.cons (.int _) (.cons (.int _) (.cons (.int _) .nil)))) t.dvs
def yP (ps:List (Int×Int×Int)):SeqAt.shaped (.list (ps.map b6F))=true:=pK fun d hd=>by
 obtain⟨c,_,rfl⟩:=YD.mp hd
 exact⟨rfl,by unfold b6F;simp only[PyData.depth,PyData.depthAll];decide⟩
structure a0B (m i:Nat)(R:RS):Prop where
 I:I51 m 0 [] R
 wt:∀S∈R.ps,S.wt.length<=i
 ol:R.ow.length<=i
 ow:∀(n:Nat)(v:V),gZ R.ow (.inl ((n:Nat):Int))=some v->v= .int ((n % m:Nat):Int)
def iZ (R:RS)(f:Nat×Nat×List Int)(S:PS):RS:={ R with ps:=R.ps.set f.1 { S with wt:=S.wt++[(f.2.1,f.2.2)] },ow:=putK R.ow (.inl ((f.2.1:Nat):Int)) (.int ((f.1:Nat):Int)) }
def a0B.hand {R:RS}{f:Nat×Nat×List Int}(h:a0B m i R)(hi:i<=4)(eS:R.ps[f.1]? =some S)(hf:f.1=f.2.1 % m)(wf:∀S'∈(iZ R f S).ps,Wf S'):a0B m (i+1) (iZ R f S):=by
 have old:∀T∈(iZ R f S).ps,T∈R.ps\/T={ S with wt:=S.wt++[(f.2.1,f.2.2)] }:=fun T hT=>List.mem_or_eq_of_mem_set hT
 have sm:=Yi eS
 have I:=h.I
 have w1:∀T∈(iZ R f S).ps,T.wt.length<=i+1:=fun T hT=>by
  rcases old T hT with z | rfl
  ·exact Nat.le_succ_of_le (h.wt T z)
  ·show (S.wt++[_]).length<=_
   rw[Yc]
   exact Nat.succ_le_succ (h.wt S sm)
 refine⟨⟨(Xq ..).trans I.ln,I.l2,I.l4,I.bo,I.bb,I.sb,I.hb,I.sl,I.hl,I.ls,I.hr,I.lw,I.ev,I.el,fun T hT=>?_,fun T hT=>YN (w1 T hT) (by omega),wf⟩,w1,?_,fun n v e=>?_⟩
 ·rcases old T hT with z | rfl
  ·exact I.up T z
  ·exact I.up S sm
 ·have h1:=a9X (kvs:=R.ow) (k:= .inl ((f.2.1:Nat):Int)) (v:= .int ((f.1:Nat):Int))
  have h2:=h.ol
  show (putK _ _ _).length<=_
  omega
 ·have e':gZ (putK R.ow (.inl ((f.2.1:Nat):Int)) (.int ((f.1:Nat):Int))) (.inl ((n:Nat):Int))=some v:=e
  rw[vO]at e'
  split at e'
  ·rename_i z
   cases e'
   have:f.2.1=n:=by have:=Sum.inl.inj z;omega
   rw[hf,this]
  ·exact h.ow n v e'
def a0B.start {cs:List (Int×Int)}{v:Int}(lc:cs.length=m)(wf:∀S∈(R0 cs v).ps,Wf S):a0B m 0 (R0 cs v):=by
 have ps:∀S∈(R0 cs v).ps,S.up= []/\S.wt= []:=fun S hS=>by
  obtain⟨c,_,rfl⟩:=YD.mp (show S∈cs.map _ from hS)
  exact⟨rfl,rfl⟩
 have rp:∀x∈List.replicate cs.length ([]:List Int),x= []:=fun x hx=>List.eq_of_mem_replicate hx
 refine⟨⟨by show (cs.map _).length=m;rw[Ya,lc],by show (List.replicate _ _).length=m;rw[YX,lc],by show (List.replicate _ _).length=m;rw[YX,lc],rfl,fun b hb=>(by cases hb),fun x hx=>?_,fun x hx=>?_,fun x hx=>(by rw[rp x hx];rfl),fun x hx=>(by rw[rp x hx];rfl),fun k hk=>absurd hk (Nat.not_lt_zero _),fun i he _ k w e=>(by simp at e),rfl,⟨.nil,fun e he=>(by cases he)⟩,YO _,fun S hS=>(by rw[(ps S hS).1];exact YO _),fun S hS=>(by rw[(ps S hS).2];exact YO _),wf⟩,fun S hS=>(by rw[(ps S hS).2];exact YO _),YO _,fun n u e=>by cases e⟩
 ·rw[rp x hx];exact fun b hb=>by cases hb
 ·rw[rp x hx];exact fun b hb=>by cases hb
theorem a8Q {R:RS}(h:R.bo= []):∀t,(cA R ws t).bo=tld R ws t
 |0=>h
 | t+1=>by
  show (cA R ws t).bo++[iH (cA R ws t)]=_
  rw[a8Q h t]
  unfold tld
  rw[Xr,Yk]
  rfl
def pJ (K:W.Frag):Sp:=fun vs H Q _=>∃(a:Addr)(ns:List Int),vs= [.ref a]/\SqL K H a (ns.map V.int)/\ns.length<=63/\(H 958=some (.tbl #[])/\H 1073=some (.tbl #[])/\H 1134=some (.tbl #[]))/\∀H',Q (.bl true) H'
variable (Zd:FB P w K mg base (CX0) 1 "_law_draw" ZgA Zju ["_law_script","_law_k","_law_many"] (b3X K))
include ZL in
theorem Zni (F0:GFm K mg "_law_draw" ZjQ ZgA Zju):type_of% Zd:=by
 refine fbK ["_law_script","_law_k","_law_many","_law_cell","_law_seed"] F0 fun H Q nd hr h=>?_
 obtain⟨a,ns,k,m,rfl,hS,h63,k0,k1,m0,q⟩:=h
 refine⟨_,(aD (aX (i:=3) nd rfl (Or.inl rfl) (cD (dC (bA a4A (bG fZ rfl ZL dM (aA (dv 0) aC)) aG (aV _)) (bH cT (dv 0) (aZ oW (dv 1) (bG fZ rfl ZL dM (aA (dv 0) aC))) (fun _ _=>rfl)) aG))) (aD (aX (i:=4) nd rfl (Or.inl rfl) (aZ dN (aZ dN (aZ oW (dv 3) aG) (aZ oU (aZ oU aG (dv 1)) (dv 1))) aG)) (aF (aN (aZ oW (aZ oW (aZ oU (aZ oW (aZ oU (dv 4) aG) aG) aG) aG) (dv 2)))))),?_⟩
 refine⟨fun x H'=>(∃v,x= .int v)/\H'=H,?_,?_⟩
 ·have hlen:(ns.map V.int).length=ns.length:=Ya _
  refine⟨_,.inl hS,?_⟩
  conv=>whnf
  refine cC (fun c=>?_) (fun c=>⟨⟨_,rfl⟩,rfl⟩)
  have c1:(0:Int)<(((ns.map V.int).length:Nat):Int):=dec_true c
  obtain⟨v,hv⟩:=b6E (ns:=ns) (k:=k) (by rw[hlen]at c1;omega)
  exact⟨_,.inl hS,c1,_,_,hS,hv,⟨v,rfl⟩,rfl⟩
 rintro x H' ⟨⟨v,rfl⟩,rfl⟩
 have k2:31*k*k<=31*100000*100000:=Int.mul_le_mul (by omega) k1 k0 (by decide)
 have k3:0<=31*k*k:=Int.mul_nonneg (by omega) k0
 refine⟨(by show (0:Int)<_;decide),⟨kW (by decide) (by decide),kW (by omega) (by omega)⟩,⟨kW (by omega) (by omega),kW (by omega) (by omega)⟩,?_⟩
 have s0:0<=v % 1000003:=Int.emod_nonneg _ (by decide)
 have s1:v % 1000003<1000003:=X1 _ (by decide)
 refine⟨⟨kW (by omega) (by omega),kW (by decide) (by decide)⟩,(by show (0:Int)<_;decide),?_⟩
 have t0:0<=(v % 1000003+31*k*k+1)*48271 % 999983:=Int.emod_nonneg _ (by decide)
 have t1:(v % 1000003+31*k*k+1)*48271 % 999983<999983:=X1 _ (by decide)
 refine⟨⟨kW (by omega) (by omega),kW (by decide) (by decide)⟩,(by show (0:Int)<_;decide),m0,?_⟩
 exact q _ (Int.emod_nonneg _ (by omega)) (X1 _ m0)
variable (Zbg:FB P w K mg base (CX0) 2 "_law_choices" Zfg ZgS ["_law_script","_law_many"] (a9L K))
include ZD Zd in
theorem ZkG (F0:GFm K mg "_law_choices" Zg9 Zfg ZgS):type_of% Zbg:=by
 refine fbK ["_law_script","_law_many","_law_some","_law_k","_law_mask"] F0 fun H Q nd hr h=>?_
 obtain⟨a,ss,m,rfl,hS,h63,m5,Qq⟩:=h
 refine⟨_,(aD (aX (i:=2) nd rfl (Or.inl rfl) (cB aC)) (aD (dH YF rfl (cO rfl ZD (aA (dv 1) aC)) (cL (i:=3) nd rfl (Or.inl rfl)) (aD (aX (i:=4) nd rfl (Or.inl rfl) (aQ Zd.1 hr.mo rfl Zd.2.2.2 Zd.2.2.1 Zd.2.1 .nil aM (aA (dv 0) (aA (aZ dN aG (dv 3)) (aA aG aC))))) (aF (aW (bR (dv 2) (aA (bN (aA (dv 4) (aA (aZ a4C (dv 4) (aQ Zd.1 hr.mo rfl Zd.2.2.2 Zd.2.2.1 Zd.2.1 .nil aM (aA (dv 0) (aA (aZ dN aG (dv 3)) (aA aG aC))))) aC))) aC)))))) (aF (aN (dv 2))))),?_⟩
 refine⟨aL rfl,fun l hl=>?_⟩
 generalize eU:upd H l _=H1
 have g1:=nS hl eU
 have el:=nE eU
 clear eU
 refine⟨⟨by omega,by omega⟩,?_⟩
 rw[YR]
 refine gP (lo:=0) (n:=m) (fun i σ H2=>(∃x3 x4,σ= [some (.ref a),some (.int ((m:Nat):Int)),some (.ref l),x3,x4])/\Same H H2/\∃(ts:List Addr)(cs:List (Int×Int)),H2 l=some (.lst (ts.map V.ref))/\ts.length=cs.length/\cs.length=i/\(∀(j:Nat)(t:Addr)(c:Int×Int),ts[j]? =some t->cs[j]? =some c->H2 t=some (.tup [.int c.1,.int c.2]))/\∀c∈cs,byt c.1=true/\byt c.2=true) ⟨⟨_,_,rfl⟩,g1, [], [],el,rfl,rfl,fun j t f h=>by simp at h,fun f hf=>(by cases hf)⟩ ?_ ?_
 ·rintro i σ H2 hi ⟨⟨x3,x4,rfl⟩,g2,ts,cs,e2,lt,lf,hts,hok⟩
  rw[Y8]
  have hS2:=g2.seq hS
  refine⟨a,ss,_,_,rfl,hS2,h63,(by show 0<=410+((i:Nat):Int);omega),(by show 410+((i:Nat):Int)<=100000;omega),by decide,fun p p0 p1=>?_⟩
  obtain⟨p,rfl⟩:=Xa p0
  refine⟨⟨_,Vb e2⟩,a,ss,_,256,rfl,hS2,h63,(by show 0<=420+((i:Nat):Int);omega),(by show 420+((i:Nat):Int)<=100000;omega),by decide,fun n n0 n1=>?_⟩
  obtain⟨n,rfl⟩:=Xa n0
  have le:p &&& n<=p:=Nat.and_le_left
  refine b5B (x:= .int ((p &&& n:Nat):Int)) (YJ V.int (band p n)) ?_
  refine⟨aL rfl,fun t ht=>?_⟩
  generalize eU:upd H2 t _=H5
  have g5:=nS ht eU
  have et:=nE eU
  clear eU
  have e5:=g5 _ _ e2
  have kl:∀x u,x≠l->H5 x=some u->upd H5 l (.lst (ts.map V.ref++[.ref t])) x=some u:=fun x u n e=>by rw[aH n];exact e
  have tl:∀{x xs},H5 x=some (.tup xs)->x≠l:=fun {x xs} e z=>by rw[z,e5]at e;cases e
  refine⟨_,e5,bI (by rw[Ya];omega),⟨_,_,rfl⟩,(g2.trans g5).put hl,ts++[t],cs++[(((p:Nat):Int),((p &&& n:Nat):Int))],by rw[aB,Yk];rfl,by rw[Yc,Yc,lt];rfl,by rw[Yc,lf];rfl,fun j t' c h1 h2=>?_,fun c hc=>?_⟩
  ·by_cases z:j<cs.length
   ·rw[YC (by omega)]at h1 h2
    have:=g5 _ _ (hts j t' c h1 h2)
    exact kl _ _ (tl this) this
   ·rw [YA (by omega)]at h1 h2
    rw[lt]at h1
    cases ej:j-cs.length with
    | zero=>
     rw[ej]at h1 h2
     cases h1
     cases h2
     exact kl _ _ (tl et) et
    |succ k=>rw[ej]at h1;cases h1
  ·rcases YB.mp hc with z | z
   ·exact hok c z
   ·rw[Yj.mp z]
    exact⟨iR.mpr ⟨by omega,by omega⟩,iR.mpr ⟨by omega,by omega⟩⟩
 rintro σ H2 ⟨⟨x3,x4,rfl⟩,g2,ts,cs,e2,lt,lf,hts,hok⟩
 exact Qq l cs H2 hl g2 ⟨ts,e2,lt,hts⟩ lf hok
variable (Zbu:FB P w K mg base (CX0) 2 "_law_frames" ZfG ZhI ["_law_script","_law_many","_law_most"] (b3V K))
include ZD Zd in
theorem Zlr (F0:GFm K mg "_law_frames" Zh8 ZfG ZhI):type_of% Zbu:=by
 refine fbK ["_law_script","_law_many","_law_most","_law_some","_law_k","_law_name","_law_data"] F0 fun H Q nd hr h=>?_
 obtain⟨a,ss,m,rfl,hS,h63,m1,m5,Qq⟩:=h
 refine⟨_,(aD (aX (i:=3) nd rfl (Or.inl rfl) (cB aC)) (aD (dH YF rfl (cO rfl ZD (aA (aZ dN aG (aQ Zd.1 hr.mo rfl Zd.2.2.2 Zd.2.2.1 Zd.2.1 .nil aM (aA (dv 0) (aA aG (aA (dv 2) aC))))) aC)) (cL (i:=4) nd rfl (Or.inl rfl)) (aD (aX (i:=5) nd rfl (Or.inl rfl) (aQ Zd.1 hr.mo rfl Zd.2.2.2 Zd.2.2.1 Zd.2.1 .nil aM (aA (dv 0) (aA (aZ dN aG (dv 4)) (aA aG aC))))) (aD (aX (i:=6) nd rfl (Or.inl rfl) (cB (aA (aQ Zd.1 hr.mo rfl Zd.2.2.2 Zd.2.2.1 Zd.2.1 .nil aM (aA (dv 0) (aA (aZ dN aG (dv 4)) (aA aG aC)))) aC))) (aF (aW (bR (dv 3) (aA (bN (aA (aZ oW (dv 5) (dv 1)) (aA (dv 5) (aA (mV a0D (dv 6) b0H (jX (aQ Zd.1 hr.mo rfl Zd.2.2.2 Zd.2.2.1 Zd.2.1 .nil aM (aA (dv 0) (aA (aZ dN aG (dv 4)) (aA aG aC)))))) aC)))) aC))))))) (aF (aN (dv 3))))),?_⟩
 refine⟨aL rfl,fun l hl=>?_⟩
 generalize eU:upd H l _=H1
 have g1:=nS hl eU
 have el:=nE eU
 clear eU
 refine⟨a,ss,430,5,rfl,g1.seq hS,h63,by decide,by decide,by decide,fun z z0 z1=>?_⟩
 obtain⟨z,rfl⟩:=Xa z0
 conv=>whnf
 rw[show (1:Int)+((z:Nat):Int)=((1+z:Nat):Int) by omega]
 refine⟨⟨by omega,by omega⟩,?_⟩
 rw[YR]
 refine gP (lo:=0) (n:=1+z) (fun i σ H2=>(∃x3 x4 x5,σ= [some (.ref a),some (.int ((m:Nat):Int)),some (.int 5),some (.ref l),x3,x4,x5])/\Same H H2/\(∀x,H2 x=none->H1 x=none)/\∃(ts:List Addr)(fs:List (Nat×Nat×List Int)),H2 l=some (.lst (ts.map V.ref))/\ts.length=fs.length/\fs.length=i/\(∀(j:Nat)(t:Addr)(f:Nat×Nat×List Int),ts[j]? =some t->fs[j]? =some f->∃d,H1 d=none/\H2 t=some (frT f d)/\H2 d=some (.lst (f.2.2.map V.int)))/\F51 m fs) ⟨⟨_,_,_,rfl⟩,g1,fun x z=>z, [], [],el,rfl,rfl,fun j t f h=>by simp at h,fun f hf=>(by cases hf)⟩ ?_ ?_
 ·rintro i σ H2 hi ⟨⟨x3,x4,x5,rfl⟩,g2,nn,ts,fs,e2,lt,lf,hts,hok⟩
  rw[Y8]
  have hS2:=g2.seq hS
  refine⟨a,ss,_,256,rfl,hS2,h63,(by show 0<=440+((i:Nat):Int);omega),(by show 440+((i:Nat):Int)<=100000;omega),by decide,fun n n0 n1=>?_⟩
  obtain⟨n,rfl⟩:=Xa n0
  refine⟨a,ss,_,256,rfl,hS2,h63,(by show 0<=460+((i:Nat):Int);omega),(by show 460+((i:Nat):Int)<=100000;omega),by decide,fun b b0 b1=>?_⟩
  refine⟨aL rfl,fun d0 hd0=>?_⟩
  have g3:=aK hd0 (.lst [.int b])
  have ed0:=aB (H:=H2) (a:=d0) (o:= .lst [.int b])
  have nn3:∀y,upd H2 d0 (.lst [.int b]) y=none->H1 y=none:=fun y z=>nn y (g3.none z)
  generalize upd H2 d0 _=H3 at g3 ed0 nn3
  refine⟨⟨_,Vb (g3 _ _ e2)⟩,by omega,?_⟩
  refine⟨a,ss,_,2,rfl,g3.seq hS2,h63,(by show 0<=470+((i:Nat):Int);omega),(by show 470+((i:Nat):Int)<=100000;omega),by decide,fun u u0 u1=>?_⟩
  obtain⟨u,rfl⟩:=Xa u0
  obtain⟨ds,hd1,hd2,hd3⟩:∃ds:List Int,pH [V.int b] none (some ((u:Nat):Int))=ds.map V.int/\ds.length<=1/\ds.all byt=true:=by
   rcases (by omega:u=0\/u=1) with rfl | rfl
   ·exact⟨[],rfl,YO _,rfl⟩
   ·exact⟨[b],rfl,Yf _,by show (byt b && true)=true;rw[iR.mpr ⟨b0,by omega⟩];rfl⟩
  refine⟨_,Vb ed0,fun s2 hs2=>?_⟩
  rw[hd1]
  have g4:=aK hs2 (.lst (ds.map V.int))
  have es2:=aB (H:=H3) (a:=s2) (o:= .lst (ds.map V.int))
  have d1:=nn3 _ hs2
  have nn4:∀y,upd H3 s2 (.lst (ds.map V.int)) y=none->H1 y=none:=fun y z=>nn3 y (g4.none z)
  generalize upd H3 s2 _=H4 at g4 es2 nn4
  refine⟨aL rfl,fun t ht=>?_⟩
  generalize eU:upd H4 t _=H5
  have g5:Same H4 H5:=by rw[<-eU];exact aK ht _
  have et:H5 t=some (frT (n % m,n,ds) s2):=by rw[<-eU];exact aB
  have nn5:∀x,H5 x=none->H1 x=none:=fun x z=>nn4 x (g5.none z)
  have k25:=(g3.trans g4).trans g5
  have e5:=k25 _ _ e2
  have kl:∀x u,x≠l->H5 x=some u->upd H5 l (.lst (ts.map V.ref++[.ref t])) x=some u:=fun x u n e=>by rw[aH n];exact e
  have tl:∀{x xs},H5 x=some (.tup xs)->x≠l:=fun {x xs} e z=>by rw[z,e5]at e;cases e
  have dl:∀{x},H1 x=none->x≠l:=fun {x} e z=>by rw[z,el]at e;cases e
  refine⟨_,e5,bI (by rw[Ya];omega),⟨_,_,_,rfl⟩,(g2.trans k25).put hl,fun x z=>?_,ts++[t],fs++[(n % m,n,ds)],by rw[aB,Yk];rfl,by rw[Yc,Yc,lt];rfl,by rw[Yc,lf];rfl,fun j t' f h1 h2=>?_,fun f hf=>?_⟩
  ·by_cases c:x=l
   ·rw[c,aB]at z;cases z
   ·rw[aH c]at z;exact nn5 x z
  ·by_cases c:j<fs.length
   ·rw[YC (by omega)]at h1 h2
    obtain⟨d,a1,a2,a3⟩:=hts j t' f h1 h2
    exact⟨d,a1,kl _ _ (tl (k25 _ _ a2)) (k25 _ _ a2),kl _ _ (dl a1) (k25 _ _ a3)⟩
   ·rw [YA (by omega)]at h1 h2
    rw[lt]at h1
    cases ej:j-fs.length with
    | zero=>
     rw[ej]at h1 h2
     cases h1
     cases h2
     exact⟨s2,d1,kl _ _ (tl et) et,kl _ _ (dl d1) (g5 _ _ es2)⟩
    |succ k=>rw[ej]at h1;cases h1
  ·rcases YB.mp hf with z | z
   ·exact hok f z
   ·rw[Yj.mp z]
    exact⟨rfl,by show n<256;omega,hd2,hd3⟩
 rintro σ H2 ⟨⟨x3,x4,x5,rfl⟩,g2,nn,ts,fs,e2,lt,lf,hts,hok⟩
 exact Qq l ts fs H2 hl g2 e2 lt (fun i t f h1 h2=>let ⟨d,a1,a2,a3⟩:=hts i t f h1 h2;⟨d,g1.none a1,a2,a3⟩) hok (by omega)
variable (ZbS:FB P w K mg base (CX0) 2 "_law_wrong" ZfW ZiA ["_law_script","_law_many"] (b3P K))
include ZD Zd in
theorem Zmo (F0:GFm K mg "_law_wrong" ZiX ZfW ZiA):type_of% ZbS:=by
 refine fbK ["_law_script","_law_many","_law_rare","_law_rows","_law_k","_law_row"] F0 fun H Q nd hr h=>?_
 obtain⟨a,ss,m,rfl,hS,h63,m1,m5,Qq⟩:=h
 refine⟨_,(aD (aX (i:=2) nd rfl (Or.inl rfl) (bH cT (cB (aA aG (aA aG (aA aG aC)))) (aQ Zd.1 hr.mo rfl Zd.2.2.2 Zd.2.2.1 Zd.2.1 .nil aM (aA (dv 0) (aA aG (aA aG aC)))) (fun _ _=>rfl))) (aD (aX (i:=3) nd rfl (Or.inl rfl) (cB aC)) (aD (dH YF rfl (cO rfl ZD (aA aG aC)) (cL (i:=4) nd rfl (Or.inl rfl)) (aD (aX (i:=5) nd rfl (Or.inl rfl) (cB aC)) (aD (qJ (bM (bA fW (aQ Zd.1 hr.mo rfl Zd.2.2.2 Zd.2.2.1 Zd.2.1 .nil aM (aA (dv 0) (aA (aZ dN aG (dv 4)) (aA (dv 2) aC)))) aG (aV _)) (aD (aX (i:=5) nd rfl (Or.inl rfl) (cB (aA (aQ Zd.1 hr.mo rfl Zd.2.2.2 Zd.2.2.1 Zd.2.1 .nil aM (aA (dv 0) (aA (aZ dN aG (dv 4)) (aA (dv 1) aC)))) aC))) (aF (bM (bA fW (aQ Zd.1 hr.mo rfl Zd.2.2.2 Zd.2.2.1 Zd.2.1 .nil aM (aA (dv 0) (aA (aZ dN aG (dv 4)) (aA aG aC)))) aG (aV _)) (aF (aW (bR (dv 5) (aA (aQ Zd.1 hr.mo rfl Zd.2.2.2 Zd.2.2.1 Zd.2.1 .nil aM (aA (dv 0) (aA (aZ dN aG (dv 4)) (aA (dv 1) aC)))) aC)))) aU))) aU)) (aF (aW (bR (dv 3) (aA (dv 5) aC))))))) (aF (aN (dv 3)))))),?_⟩
 refine⟨aL rfl,fun l0 hl0=>?_⟩
 generalize eU:upd H l0 _=H0
 have g0:=nS hl0 eU
 have el0:=nE eU
 clear eU
 refine⟨a,ss,2,3,rfl,g0.seq hS,h63,by decide,by decide,by decide,fun z z0 z1=>?_⟩
 obtain⟨rr,hr1,hr2,hr3⟩:∃rr:Int,atI [V.int 9999,V.int 25,V.int 6] z=some (V.int rr)/\1<=rr/\rr<=9999:=by
  rcases (by omega:z=0\/z=1\/z=2) with rfl | rfl | rfl
  ·exact⟨9999,rfl,by decide,by decide⟩
  ·exact⟨25,rfl,by decide,by decide⟩
  ·exact⟨6,rfl,by decide,by decide⟩
 refine⟨_,.int rr,Vb el0,hr1,?_⟩
 refine⟨aL rfl,fun l hl=>?_⟩
 have hl':=g0.none hl
 generalize eU:upd H0 l _=H1
 have g1:=nS hl eU
 have el:=nE eU
 clear eU
 refine⟨⟨by decide,by decide⟩,gP (lo:=0) (n:=60) (fun i σ H2=>(∃x3 x4,σ= [some (.ref a),some (.int ((m:Nat):Int)),some (.int rr),some (.ref l),x3,x4])/\Same H H2/\(∀x,H2 x=none->H1 x=none)/\∃(as:List Addr)(ws:List (List Int)),H2 l=some (.lst (as.map V.ref))/\as.length=ws.length/\ws.length=i/\(∀(j:Nat)(t:Addr)(w:List Int),as[j]? =some t->ws[j]? =some w->H1 t=none/\H2 t=some (.lst (w.map V.int)))/\W51 m ws) ⟨⟨_,_,rfl⟩,g0.trans g1,fun x z=>z, [], [],el,rfl,rfl,fun j t f h=>by simp at h,fun f hf=>(by cases hf)⟩ ?_ ?_⟩
 ·rintro i σ H2 hi ⟨⟨x3,x4,rfl⟩,g2,nn,as,ws,e2,lt,lf,hts,hok⟩
  rw[Y8]
  have hS2:=g2.seq hS
  refine⟨aL rfl,fun r hr=>?_⟩
  have g3:=aK hr (.lst [])
  have er:=aB (H:=H2) (a:=r) (o:= .lst [])
  have hr':=nn _ hr
  have nn3:∀y,upd H2 r (.lst []) y=none->H1 y=none:=fun y z=>nn y (g3.none z)
  generalize upd H2 r _=H3 at g3 er nn3
  refine⟨fun σ H4=>∃(r:Addr)(w:List Int),σ= [some (.ref a),some (.int ((m:Nat):Int)),some (.int rr),some (.ref l),some (.int ((i:Nat):Int)),some (.ref r)]/\Same H2 H4/\(∀x,H4 x=none->H1 x=none)/\H1 r=none/\H4 r=some (.lst (w.map V.int))/\w.length<=2/\∀x∈w,0<=x/\x<((m:Nat):Int),?_,?_⟩
  ·refine ⟨a,ss,_,_,rfl,g3.seq hS2,h63,(by show 0<=100+((i:Nat):Int);omega),(by show 100+((i:Nat):Int)<=100000;omega),by omega,fun p p0 p1=>cC (fun c=>?_) (fun c=>?_)⟩
   ·refine⟨a,ss,_,_,rfl,g3.seq hS2,h63,(by show 0<=170+((i:Nat):Int);omega),(by show 170+((i:Nat):Int)<=100000;omega),by omega,fun q q0 q1=>?_⟩
    refine⟨aL rfl,fun r2 hr2=>?_⟩
    have g4:=aK hr2 (.lst [.int q])
    have er2:=aB (H:=H3) (a:=r2) (o:= .lst [.int q])
    have hr2':=nn3 _ hr2
    have nn4:∀y,upd H3 r2 (.lst [.int q]) y=none->H1 y=none:=fun y z=>nn3 y (g4.none z)
    have hr2n:=g3.none hr2
    generalize upd H3 r2 _=H4 at g4 er2 nn4
    refine⟨a,ss,_,2,rfl,(g3.trans g4).seq hS2,h63,(by show 0<=240+((i:Nat):Int);omega),(by show 240+((i:Nat):Int)<=100000;omega),by decide,fun p2 _ _=>cC (fun c=>?_) (fun c=>?_)⟩
    ·refine⟨⟨_,Vb er2⟩,a,ss,_,_,rfl,(g3.trans g4).seq hS2,h63,(by show 0<=310+((i:Nat):Int);omega),(by show 310+((i:Nat):Int)<=100000;omega),by omega,fun q2 q20 q21=>?_⟩
     refine⟨_,er2,aL rfl,r2, [q,q2],rfl,(g3.trans g4).put hr2n,fun x z=>?_,hr2',aB,Yf _,fun x hx=>?_⟩
     ·by_cases c:x=r2
      ·rw[c,aB]at z;cases z
      ·rw[aH c]at z;exact nn4 x z
     ·rcases Yt.mp hx with rfl | hx
      ·exact⟨q0,q1⟩
      ·rw[Yj.mp hx];exact⟨q20,q21⟩
    ·exact⟨r2, [q],rfl,g3.trans g4,nn4,hr2',er2,Xv 1,fun x hx=>by rw[Yj.mp hx];exact⟨q0,q1⟩⟩
   ·exact⟨r, [],rfl,g3,nn3,hr',er,by decide,fun x hx=>(by cases hx)⟩
  rintro σ H4 ⟨r,w,rfl,g4,nn4,nr,er4,lw,hw⟩
  have e4:=g4 _ _ e2
  have dl:∀{x},H1 x=none->x≠l:=fun {x} e z=>by rw[z,el]at e;cases e
  have kl:∀x u,x≠l->H4 x=some u->upd H4 l (.lst (as.map V.ref++[.ref r])) x=some u:=fun x u n e=>by rw[aH n];exact e
  refine⟨⟨_,Vb e4⟩,_,e4,bI (by rw[Ya];omega),⟨_,_,rfl⟩,(g2.trans g4).put hl',fun x z=>?_,as++[r],ws++[w],by rw[aB,Yk];rfl,by rw[Yc,Yc,lt];rfl,by rw[Yc,lf];rfl,fun j t' f h1 h2=>?_,fun f hf=>?_⟩
  ·by_cases c:x=l
   ·rw[c,aB]at z;cases z
   ·rw[aH c]at z;exact nn4 x z
  ·by_cases c:j<ws.length
   ·rw[YC (by omega)]at h1 h2
    obtain⟨a1,a2⟩:=hts j t' f h1 h2
    exact⟨a1,kl _ _ (dl a1) (g4 _ _ a2)⟩
   ·rw [YA (by omega)]at h1 h2
    rw[lt]at h1
    cases ej:j-ws.length with
    | zero=>
     rw[ej]at h1 h2
     cases h1
     cases h2
     exact⟨nr,kl _ _ (dl nr) er4⟩
    |succ k=>rw[ej]at h1;cases h1
  ·rcases YB.mp hf with z | z
   ·exact hok f z
   ·rw[Yj.mp z]
    exact⟨lw,hw⟩
 rintro σ H2 ⟨⟨x3,x4,rfl⟩,g2,nn,as,ws,e2,lt,lf,hts,hok⟩
 exact Qq l as ws H2 hl' g2 ⟨e2,lt,fun i t f h1 h2=>(hts i t f h1 h2).2⟩ hok lf
variable (Zaa:FB P w K mg base (CX0) 1 "_law_bits" Zgz Zjt ["_law_found","_law_many"] (a5P))
include ZK ZL Zdb ZaK Zf9 in
theorem Znh (F0:GFm K mg "_law_bits" ZjP Zgz Zjt):type_of% Zaa:=by
 refine fbK ["_law_found","_law_many","_law_bit"] F0 fun H Q nd hr h=>?_
 obtain⟨l,bs,n,rfl,el,hl,hb,q⟩:=h
 refine⟨_,(aD (bM (PW.pt (iK (dY (bV (bG xW rfl ZaK dZ (aA (dv 0) (aA (jU (v:= .ty "list") rfl ZK eN rfl) aC))))) (jT (bA rH (bG fZ rfl ZL dM (aA (dv 0) aC)) (dv 1) (aV _))))) (aF (aN fQ)) aU) (aD (dH YF rfl (cY (dv 0)) (cL (i:=2) nd rfl (Or.inl rfl)) (aF (bM (PW.pt (iK (dY (bV (bG rT rfl ZaK dZ (aA (dv 2) (aA (jU (v:= .ty "int") rfl Zdb uX rfl) aC))))) (iK (bV (bG pU rfl ZaK dZ (aA (dv 2) (aA (jU (v:= .ty "bool") rfl Zf9 a1M rfl) aC)))) (jT (bA vL (dv 2) (bN (aA aG (aA aG aC))) rfl))))) (aF (aN fQ)) aU))) (aF (aN fQ)))),?_⟩
 refine⟨rfl,⟨_,el⟩,?_⟩
 conv=>whnf
 refine⟨_,.inl (Vb el),?_⟩
 rw[Ya,hl]
 refine qT rfl ?_
 refine⟨⟨_,Vb el⟩,eO (xs:=bs.map V.int) (fun i σ H'=>(∃x,σ= [some (.ref l),some (.int ((n:Nat):Int)),x])/\Same H H') ⟨⟨_,rfl⟩,Vd _⟩ (fun i σ H' _ z=>Vb (z.2 _ _ el)) ?_ ?_⟩
 ·rintro i x σ H' hx ⟨⟨y,rfl⟩,g⟩
  obtain⟨hi,rfl⟩:=lV hx
  refine⟨rfl,rfl,?_⟩
  refine⟨aL rfl,fun t ht=>⟨[0,1],.inr (Vc aB),?_⟩⟩
  have hin:decide (bs[i]∈ [(0:Int),1])=true:=Yp (by rcases hb _ (YV hi) with e | e <;> rw[e] <;> simp)
  rw[hin]
  exact⟨⟨_,rfl⟩,g.trans (aK ht _)⟩
 rintro σ H5 ⟨⟨y,rfl⟩,g5⟩
 exact q _ g5
variable (Zcw:FB P w K mg base (CX0) 10 "_law_tape" ZgB Zjv ["_law_rail","_law_many","_law_wrong_here"] (a4U Zg CA))
include Zw Zz ZD ZL Zhm Zdb Za ZI Zab Z5 ZaG ZaC Zaq Za5 Z9 Zaa in
theorem Znj (F0:GFm K mg "_law_tape" ZjR ZgB Zjv):type_of% Zcw:=by
 refine fbK ["_law_rail","_law_many","_law_wrong_here","_law_bits_here","_law_said","_law_heard","_law_row","_law_k","_law_post"] F0 fun H Q nd hr h=>?_
 obtain⟨r,R,o,w,m,wl,as,ws,rfl,hR,hI,hW,m1,m5,q⟩:=h
 refine⟨_,(aD (aX (i:=3) nd rfl (Or.inl rfl) (bD Za ZI Z9.1 hr.mo Z9.2 .nil aM (dv 0))) (aD (iB (j:=4) nd rfl rfl rfl (ix:=[0]) (cO rfl ZD (aA (dv 1) aC)) (fun C fp s0 H0 at0=>eV) (fun C fp s0 H0 at0=>(bB Za Zab ZaC.1 hr.mo ZaC.2 .nil aM (dv 1) (aA (dv 0) aC))) rfl rfl (by rfl) (show ([".0","_law_post","_law_rail"]:List Str).Nodup by decide +kernel)) (aD (iB (j:=5) nd rfl rfl rfl (ix:=[0]) (cO rfl ZD (aA (dv 1) aC)) (fun C fp s0 H0 at0=>eV) (fun C fp s0 H0 at0=>(bB Za Z5 Zaq.1 hr.mo Zaq.2 .nil aM (dv 1) (aA (dv 0) aC))) rfl rfl (by rfl) (show ([".0","_law_post","_law_rail"]:List Str).Nodup by decide +kernel)) (aD (dH YF rfl (cY (aZ mD (aZ mD (cB (aA (dv 3) aC)) (dv 4)) (dv 5))) (cL (i:=6) nd rfl (Or.inl rfl)) (aF (bM (dY (bV (aQ Zaa.1 hr.mo rfl Zaa.2.2.2 Zaa.2.2.1 Zaa.2.1 .nil aM (aA (dv 6) (aA (bG fZ rfl ZL dM (aA (dv 2) aC)) aC))))) (aF (aN fQ)) aU))) (aD (dH YF rfl (cO rfl ZD (aA (bG fZ rfl ZL dM (aA (dv 2) aC)) aC)) (cL (i:=7) nd rfl (Or.inr rfl)) (aD (bM (bA rH (bH cT (dv 3) (dv 7) (fun _ _=>rfl)) (bG (a3X rfl) rfl Zhm a8P (aA (iM rfl (ix:=[7]) (cY (dv 4)) (fun C fp s0 H0 at0=>eV) (fun C fp s0 H0 at0=>(bH (a3Z (K:=K)) (dv 0) (dv 1) (fun _ _=>rfl))) rfl rfl (by rfl) (show ([".0","_law_row","_law_k"]:List Str).Nodup by decide +kernel)) aC)) (aV _)) (aF (aN fQ)) aU) (aF (dH YF rfl (cO rfl ZD (aA (dv 1) aC)) (cL (i:=8) nd rfl (Or.inl rfl)) (aF (bM (bA rH (bH cT (bH cT (dv 5) (dv 8) (fun _ _=>rfl)) (dv 7) (fun _ _=>rfl)) (aZ b1Z (bH cT (dv 3) (dv 7) (fun _ _=>rfl)) (cH b2D rfl Zdb uX (aA (dG b2E (dv 8) (bH cT (dv 2) (dv 7) (fun _ _=>rfl)) rfl) aC))) (aV _)) (aF (aN fQ)) aU)))))) (aF (aN (dG fW (bD Za ZaG Za5.1 hr.mo Za5.2 .nil aM (dv 0)) (bG fZ rfl ZL dM (aA (dv 2) aC)) (aV _))))))))),?_⟩
 refine⟨⟨w.dx,_,hR.er,rfl⟩,r,R,o,w,rfl,hR,fun bl hbl=>?_⟩
 generalize eU:upd H bl _=H0
 have gH0:=nS hbl eU
 have ebl:=nE eU
 clear eU
 have hRH0:=hR.same gH0
 refine⟨⟨by omega,by omega⟩,?_⟩
 rw[YR]
 refine gO (lo:=0) (n:=m) (fun j ys H'=>∃sl:List Addr,ys=sl.map V.ref/\sl.length=j/\Same H0 H'/\xT H' sl R.sa) ?_ ?_ ?_ ?_
 ·rintro j ys H' hj ⟨sl,rfl,hl,_⟩
  rw[Ya]
  exact bI (by omega)
 ·exact⟨[],rfl,rfl,Vd _,fun i a h=>by simp at h⟩
 ·rintro j ys H1 hj ⟨sl,rfl,hl,g1,hs⟩
  rw[Y8]
  conv=>whnf
  have hR1:=hRH0.same g1
  refine⟨⟨w.dx,_,hR1.er,rfl⟩,r,R,o,w,_,rfl,hR1,fun i xs ei ex l hl2=>?_,fun no=>absurd ⟨by omega,by rw[hI.ln];omega⟩ no⟩
  have ij:i=j:=by omega
  subst ij
  generalize eU:upd H1 l _=H2
  have g2:=nS hl2 eU
  have e2:=nE eU
  clear eU
  exact⟨sl++[l],by rw[Yk];rfl,by rw[Yc,hl];rfl,g1.trans g2,(hs.same g2).snoc (by rw[hl];exact ex) e2⟩
 rintro ys H1 ⟨sl,rfl,nsl,gA,hsl⟩ slL hrl
 generalize eU:upd H1 slL _=H3
 have gB:=nS hrl eU
 have esl:=nE eU
 have hsl:=hsl.same gB
 have gH3:=gA.trans gB
 clear eU
 clear gA gB hrl
 have hRH3:=hRH0.same gH3
 refine⟨⟨by omega,by omega⟩,?_⟩
 rw[YR]
 refine gO (lo:=0) (n:=m) (fun j ys H'=>∃sl:List Addr,ys=sl.map V.ref/\sl.length=j/\Same H3 H'/\xT H' sl R.he) ?_ ?_ ?_ ?_
 ·rintro j ys H' hj ⟨sl,rfl,hl,_⟩
  rw[Ya]
  exact bI (by omega)
 ·exact⟨[],rfl,rfl,Vd _,fun i a h=>by simp at h⟩
 ·rintro j ys H1 hj ⟨sl,rfl,hl,g1,hs⟩
  rw[Y8]
  conv=>whnf
  have hR1:=hRH3.same g1
  refine⟨⟨w.dx,_,hR1.er,rfl⟩,r,R,o,w,_,rfl,hR1,fun i xs ei ex l hl2=>?_,fun no=>absurd ⟨by omega,by rw[hI.ln];omega⟩ no⟩
  have ij:i=j:=by omega
  subst ij
  generalize eU:upd H1 l _=H2
  have g2:=nS hl2 eU
  have e2:=nE eU
  clear eU
  exact⟨sl++[l],by rw[Yk];rfl,by rw[Yc,hl];rfl,g1.trans g2,(hs.same g2).snoc (by rw[hl];exact ex) e2⟩
 rintro ys H1 ⟨hl,rfl,nhl,gA,hhl⟩ hlL hrl
 generalize eU:upd H1 hlL _=H6
 have gB:=nS hrl eU
 have ehl:=nE eU
 have hhl:=hhl.same gB
 have gH6:=gA.trans gB
 clear eU
 clear gA gB hrl
 have g06:=gH0.trans (gH3.trans gH6)
 have ebl6:=gH6 _ _ (gH3 _ _ ebl)
 have esl6:=gH6 _ _ esl
 have hsl6:=hsl.same gH6
 have ewl6:=g06 _ _ hW.at_
 have hW6:=hW.same g06
 have lws:ws.length=60:=hI.lw
 have las:as.length=60:=hW.ln.trans lws
 refine⟨aL rfl,fun c1 hc1=>?_⟩
 generalize eU:upd H6 c1 _=H7
 have g7:=nS hc1 eU
 have ec1:=nE eU
 clear eU
 refine⟨_,_,ec1,g7 _ _ esl6,Y6 (bI (by rw[Ya];show 1+sl.length<=1000;omega)),fun c2 hc2=>?_⟩
 generalize eU:upd H7 c2 _=H8
 have g8:=nS hc2 eU
 have ec2:=nE eU
 clear eU
 refine⟨_,_,ec2,g8 _ _ (g7 _ _ ehl),Y6 (bI (by rw[Yc,Ya,Ya];show (1+sl.length)+hl.length<=1000;omega)),fun c3 hc3=>?_⟩
 generalize eU:upd H8 c3 _=H9
 have g9:=nS hc3 eU
 have ec3:=nE eU
 clear eU
 have g69:=g7.trans (g8.trans g9)
 have g09:=g06.trans g69
 have hall:∀x∈ [V.ref bl]++sl.map V.ref++hl.map V.ref,∃a bs,x= .ref a/\H9 a=some (.lst (List.map V.int bs))/\bs.length=60/\bU bs:=fun x hx=>by
  rcases YB.mp hx with hx | hx
  ·rcases YB.mp hx with hx | hx
   ·rw[Yj.mp hx]
    exact⟨bl,_,rfl,g69 _ _ ebl6,hI.bo,hI.bb⟩
   ·obtain⟨a,ha,rfl⟩:=YD.mp hx
    obtain⟨i,hi,e⟩:=YT ha
    obtain⟨x,e1,e2⟩:=hsl6 i a (by rw[Yb hi,e])
    exact⟨a,x,rfl,g69 _ _ e2,hI.sl x (Yi e1),hI.sb x (Yi e1)⟩
  ·obtain⟨a,ha,rfl⟩:=YD.mp hx
   obtain⟨i,hi,e⟩:=YT ha
   obtain⟨x,e1,e2⟩:=hhl i a (by rw[Yb hi,e])
   exact⟨a,x,rfl,g69 _ _ e2,hI.hl x (Yi e1),hI.hb x (Yi e1)⟩
 refine⟨⟨_,Vb ec3⟩,eO (xs:=[.ref bl]++sl.map V.ref++hl.map V.ref) (fun j σ H'=>(∃x6 x7 x8,σ= [some (.ref r),some (.int ((m:Nat):Int)),some (.ref wl),some (.ref bl),some (.ref slL),some (.ref hlL),x6,x7,x8])/\Same H9 H') ⟨⟨_,_,_,rfl⟩,Vd _⟩ (fun i σ H' _ z=>Vb (z.2 _ _ ec3)) ?_ ?_⟩
 ·rintro j x σ H' hx ⟨⟨x6,x7,x8,rfl⟩,g⟩
  obtain⟨a,bs,rfl,ea,lb,hb⟩:=hall x (Yi hx)
  refine⟨_,.inl (Vb ((g69.trans g) _ _ ewl6)),?_⟩
  rw[Ya,las]
  refine⟨a,bs,60,rfl,g _ _ ea,lb,hb,fun H'' g''=>?_⟩
  conv=>whnf
  exact⟨⟨_,_,_,rfl⟩,g.trans g''⟩
 rintro σ H10 ⟨⟨x6,x7,x8,rfl⟩,g10⟩
 have gA:=g69.trans g10
 refine⟨_,.inl (Vb (gA _ _ ewl6)),⟨by rw[Ya,las];decide,by rw[Ya,las];decide⟩,?_⟩
 rw[Ya,las]
 refine gP (lo:=0) (n:=60) (fun k σ H'=>(∃x6 x7 x8,σ= [some (.ref r),some (.int ((m:Nat):Int)),some (.ref wl),some (.ref bl),some (.ref slL),some (.ref hlL),x6,x7,x8])/\Same H6 H') ⟨⟨_,_,_,rfl⟩,gA⟩ ?_ ?_
 ·rintro k σ H11 hk ⟨⟨x6,x7,x8,rfl⟩,g11⟩
  rw[Y8]
  have er:=g11 _ _ esl6
  refine⟨_,_,Vb (g11 _ _ ebl6),xP (by rw[hI.bo];exact hk),⟨_,Vb er⟩,gQ (xs:=sl.map V.ref) (fun j ys H4=>H4=H11/\ys=((R.sa.take j).map fun x=>x.getD k 0).map V.int) ?_ ?_ ?_ ?_ ?_⟩
  ·rintro j ys H4 hj ⟨_,rfl⟩
   rw[Ya,Ya,Yx]
   have:=hI.l2
   exact bI (by omega)
  ·exact⟨rfl,rfl⟩
  ·rintro j ys H4 hj ⟨rfl,_⟩
   exact Vb er
  ·rintro j x ys H4 hx ⟨rfl,rfl⟩
   rw[Yl]at hx
   obtain⟨a,ha,rfl⟩:=YM.mp hx
   obtain⟨x,e1,e2⟩:=hsl6 j a ha
   obtain⟨hj,ex⟩:=Yd.mp e1
   conv=>whnf
   refine⟨_,_,Vb (g11 _ _ e2),xP (by rw[hI.sl x (Yi e1)];exact hk),rfl,?_⟩
   rw[Yh hj,ex,Yk,Yk]
   rfl
  rintro ys H4 ⟨rfl,rfl⟩ nl hnl
  rw[Ya,nsl,Ys (by rw[hI.l2];exact Yf _)]
  generalize eU:upd H4 nl _=H5
  have g4:=nS hnl eU
  have e4:=nE eU
  clear eU
  refine⟨_,Vb e4,fun z=>?_,fun n0 hn0 le0=>?_⟩
  ·have:=YJ List.length z
   rw[Ya,hI.l2]at this
   have:m=0:=this
   omega
  have en:R.bo.getD k 0=n0:=(hI.ls k hk).uniq ⟨hn0,le0⟩
  rw[<-en]
  refine qT rfl ?_
  have g65:=g11.trans g4
  refine⟨⟨by omega,by omega⟩,?_⟩
  rw[YR]
  refine gP (lo:=0) (n:=m) (fun i σ H'=>(∃x8,σ= [some (.ref r),some (.int ((m:Nat):Int)),some (.ref wl),some (.ref bl),some (.ref slL),some (.ref hlL),x6,some (.int ((k:Nat):Int)),x8])/\H'=H5) ⟨⟨_,rfl⟩,rfl⟩ ?_ ?_
  ·rintro i σ H' hi ⟨⟨x8,rfl⟩,rfl⟩
   rw[Y8]
   obtain⟨a,ha⟩:∃a,hl[i]? =some a:=⟨_,Yb (by rw[nhl];exact hi)⟩
   obtain⟨x,e1,e2⟩:=hhl i a ha
   obtain⟨wa,hwa⟩:∃a,as[k]? =some a:=⟨_,Yb (by rw[las];exact hk)⟩
   obtain⟨wk,hwk⟩:∃w,ws[k]? =some w:=⟨_,Yb (by rw[lws];exact hk)⟩
   have ew:=g65 _ _ (hW6.row k wa wk hwa hwk)
   refine⟨_,.ref a,Vb (g65 _ _ ehl),fC (v:=V.ref a) (by rw[Yl,ha];rfl),_,.int _,Vb (g65 _ _ e2),xP (by rw[hI.hl x (Yi e1)];exact hk),_,.int _,Vb (g65 _ _ ebl6),xP (by rw[hI.bo];exact hk),_,.ref wa,Vb (g65 _ _ ewl6),fC (v:=V.ref wa) (by rw[Yl,hwa];rfl),wk,.inl (Vb ew),?_⟩
   have hh:=hI.hr i x e1 k wk hwk
   have bx:R.bo.getD k 0=0\/R.bo.getD k 0=1:=by
    have hk':k<R.bo.length:=by rw[hI.bo];exact hk
    rw[Yn,Yb hk']
    exact hI.bb _ (YV hk')
   have hx:=b2F bx (decide (((i:Nat):Int)∈wk))
   conv=>whnf
   refine qT (hh.trans (Eq.trans ?_ hx.symm)) ⟨⟨_,rfl⟩,rfl⟩
   unfold wrB
   by_cases c:((i:Nat):Int)∈wk <;> simp[c]
  rintro σ H' ⟨⟨x8,rfl⟩,rfl⟩
  exact⟨⟨_,_,_,rfl⟩,g65⟩
 rintro σ H11 ⟨⟨x6,x7,x8,rfl⟩,g11⟩
 have gE:=g06.trans g11
 have hR2:=hR.same gE
 refine⟨⟨w.dx,_,hR2.er,rfl⟩,r,R,o,w,rfl,hR2,_,.inl (Vb (g11 _ _ ewl6)),?_⟩
 rw[Ya,las,hI.bo]
 conv=>whnf
 exact q _ gE
variable (Zbt:FB P w K mg base (CX0) 10 "_law_events" ZfF ZhH ["_law_rail","_law_many","_law_turns"] (a9J Zg CA))
include Zz ZL Zdb ZaK Zf9 ZmB Zi5 Za ZX Zai in
theorem Zlq (F0:GFm K mg "_law_events" Zh7 ZfF ZhH):type_of% Zbt:=by
 refine fbK ["_law_rail","_law_many","_law_turns","_law_last","_law_one","_law_number"] F0 fun H Q nd hr h=>?_
 obtain⟨r,R,o,w,m,rfl,hR,hE,q⟩:=h
 refine⟨_,(aD (aX (i:=3) nd rfl (Or.inl rfl) (bN (aA aG (aA (b2R b2B aG) aC)))) (aD (dH YF rfl (cY (bD Za ZX Zai.1 hr.mo Zai.2 .nil aM (dv 0))) (cL (i:=4) nd rfl (Or.inl rfl)) (aD (bM (PW.pt (iK (dY (bV (bG vM rfl ZaK dZ (aA (dv 4) (aA (jU (v:= .ty "tuple") rfl Zi5 a8O rfl) aC))))) (iK (bA rH (bG fZ rfl ZL dM (aA (dv 4) aC)) aG (aV _)) (iK (dY (bV (bG a1U rfl ZaK dZ (aA (bH fK (dv 4) aG (fun _ _=>rfl)) (aA (jU (v:= .ty "str") rfl ZmB b5Z rfl) aC))))) (jT (bA fW (bH fK (dv 4) aG (fun _ _=>rfl)) bF (aV _))))))) (aF (aN fQ)) aU) (aD (dH YF rfl (cY (cB (aA (bH fK (dv 4) aG (fun _ _=>rfl)) (aA (bH fK (dv 4) aG (fun _ _=>rfl)) aC)))) (cL (i:=5) nd rfl (Or.inl rfl)) (aF (bM (PW.pt (iK (dY (bV (bG rT rfl ZaK dZ (aA (dv 5) (aA (jU (v:= .ty "int") rfl Zdb uX rfl) aC))))) (jT (bV (bG pU rfl ZaK dZ (aA (dv 5) (aA (jU (v:= .ty "bool") rfl Zf9 a1M rfl) aC))))))) (aF (aN fQ)) aU))) (aD (bM (PW.pt (iK (bA (b6M hr.units1) (bN (aA (bH fK (dv 4) aG (fun _ _=>rfl)) (aA (bH fK (dv 4) aG (fun _ _=>rfl)) aC))) (dv 3) (aV _)) (iK (bA xX (bH fK (dv 4) aG (fun _ _=>rfl)) (dv 2) (aV _)) (iK (bA a1S (bH fK (dv 4) aG (fun _ _=>rfl)) aG (aV _)) (jT (bA xX (bH fK (dv 4) aG (fun _ _=>rfl)) (dv 1) (aV _))))))) (aF (aN fQ)) aU) (aF (aX (i:=3) nd rfl (Or.inl rfl) (bN (aA (bH fK (dv 4) aG (fun _ _=>rfl)) (aA (bH fK (dv 4) aG (fun _ _=>rfl)) aC))))))))) (aF (aN fQ)))),?_⟩
 refine⟨aL rfl,fun t0 ht0=>?_⟩
 generalize eU:upd H t0 _=H1
 have g1:=nS ht0 eU
 have e0:=nE eU
 clear eU
 have hR1:=hR.same g1
 refine⟨⟨w.dx,_,hR1.er,rfl⟩,r,R,o,w,rfl,hR1,fun l hl=>?_⟩
 generalize eU:upd H1 l _=H2
 have g2:=nS hl eU
 have el:=nE eU
 clear eU
 have E2:=(hR1.same g2).ev
 refine⟨⟨_,Vb el⟩,eO (xs:=w.evs) (fun i σ H'=>Same H2 H'/\∃(t:Addr)(a b:Int)(x4 x5:Option V),σ= [some (.ref r),some (.int ((m:Nat):Int)),some (.int 60),some (.ref t),x4,x5]/\H' t=some (.tup [.int a,.int b])/\∀e,R.ev[i]? =some e->a<((e.1:Nat):Int)\/(a=((e.1:Nat):Int)/\b<((e.2.1:Nat):Int))) ⟨Vd _,t0,0, -1,_,_,rfl,g2 _ _ e0,fun e _=>by omega⟩ (fun i σ H' _ z=>Vb (z.1 _ _ el)) ?_ ?_⟩
 ·rintro i x σ H' hx ⟨g,t,a,b,x4,x5,rfl,et,lt⟩
  obtain⟨te,e,rfl,ee,ete⟩:=E2.get hx
  obtain⟨k1,k2,k3,k4⟩:=hE.ok e (Yi ee)
  have ete':=g _ _ ete
  refine⟨rfl,⟨_,ete'⟩,?_⟩
  conv=>whnf
  refine⟨_,.inr (Vc ete'),?_⟩
  conv=>whnf
  refine⟨_,.str e.2.2,Vc ete',rfl,rfl,?_⟩
  conv=>whnf
  refine⟨_,.str e.2.2,Vc ete',rfl,?_⟩
  conv=>whnf
  refine cC (fun c=>absurd (YL c) k2) (fun c=>?_)
  refine⟨_,.int ((e.1:Nat):Int),Vc ete',rfl,_,.int ((e.2.1:Nat):Int),Vc ete',rfl,aL rfl,fun nl hnl=>?_⟩
  generalize eU:upd H' nl _=H3
  have g3:=nS hnl eU
  have enl:=nE eU
  clear eU
  refine⟨⟨_,Vb enl⟩,eO (xs:=[.int ((e.1:Nat):Int),.int ((e.2.1:Nat):Int)]) (fun j σ H'=>(∃x5,σ= [some (.ref r),some (.int ((m:Nat):Int)),some (.int 60),some (.ref t),some (.ref te),x5])/\H'=H3) ⟨⟨_,rfl⟩,rfl⟩ (fun j σ H' _ z=>z.2▸Vb enl) ?_ ?_⟩
  ·rintro j y σ H'' hy ⟨⟨x5,rfl⟩,rfl⟩
   obtain⟨z,rfl⟩:∃z:Int,y= .int z:=by
    rcases Yt.mp (Yi hy) with z | z
    ·exact⟨_,z⟩
    ·exact⟨_,Yj.mp z⟩
   exact⟨rfl,rfl,⟨_,rfl⟩,rfl⟩
  rintro σ H'' ⟨⟨x5,rfl⟩,rfl⟩
  have et3:=g3 _ _ ete'
  refine⟨_,.int ((e.1:Nat):Int),Vc et3,rfl,_,.int ((e.2.1:Nat):Int),Vc et3,rfl,aL rfl,fun tp htp=>?_⟩
  generalize eU:upd H'' tp _=H4
  have g4:=nS htp eU
  have etp:=nE eU
  clear eU
  have et4:=g4 _ _ et3
  refine⟨_,_,_,_,Vc etp,Vc (g4 _ _ (g3 _ _ et)),(lt e ee).imp id fun z=>z,?_⟩
  conv=>whnf
  refine⟨_,.int ((e.1:Nat):Int),Vc et4,rfl,?_⟩
  conv=>whnf
  refine cC (fun c=>absurd (YL c) (by omega)) (fun c=>?_)
  refine⟨_,.int ((e.2.1:Nat):Int),Vc et4,rfl,?_⟩
  conv=>whnf
  refine⟨_,.int ((e.2.1:Nat):Int),Vc et4,rfl,?_⟩
  conv=>whnf
  refine cC (fun c=>absurd (YL c) (by omega)) (fun c=>?_)
  refine⟨_,.int ((e.1:Nat):Int),Vc et4,rfl,_,.int ((e.2.1:Nat):Int),Vc et4,rfl,aL rfl,fun tq htq=>?_⟩
  generalize eU:upd H4 tq _=H5
  have g5:=nS htq eU
  have etq:=nE eU
  clear eU
  refine⟨g.trans (g3.trans (g4.trans g5)),tq,_,_,_,_,rfl,etq,fun e' ee'=>?_⟩
  have p:=List.pairwise_iff_getElem.mp hE.pw i (i+1) (Yd.mp ee).1 (Yd.mp ee').1 (Xl _)
  rw[(Yd.mp ee).2,(Yd.mp ee').2]at p
  rcases p with p | p <;> omega
 rintro σ H3 ⟨g,t,a,b,x4,x5,rfl,et,lt⟩
 exact q _ (g1.trans (g2.trans g))
variable (ZaI:FB P w K mg base (CX0) 10 "_law_whole" ZfV Ziz ["_law_rail","_law_many"] (a1Y K Zg CA))
include Zw Zz ZD Za ZI Zab Z5 ZaG ZX Zda Zcq Zce Zcd Zbz Zcc Zai ZcW Zdj Zd6 ZcU Zb2 ZcV ZaC Zaq Za5 Z9 in
theorem Zmn (F0:GFm K mg "_law_whole" ZiW ZfV Ziz):type_of% ZaI:=by
 refine fbK ["_law_rail","_law_many","_law_row","_law_post"] F0 fun H Q nd hr h=>?_
 obtain⟨r,R,o,w,m,ws,rfl,hR,hI,m1,m5,q⟩:=h
 refine⟨_,(aD (aX (i:=2) nd rfl (Or.inl rfl) (cB (aA (bD Za ZaG Za5.1 hr.mo Za5.2 .nil aM (dv 0)) (aA (bD Za ZI Z9.1 hr.mo Z9.2 .nil aM (dv 0)) (aA (bD Za ZX Zai.1 hr.mo Zai.2 .nil aM (dv 0)) aC))))) (aD (dH YF rfl (cO rfl ZD (aA (dv 1) aC)) (cL (i:=3) nd rfl (Or.inl rfl)) (aD (aX (i:=2) nd rfl (Or.inl rfl) (aZ mD (dv 2) (cB (aA (bB Za Zab ZaC.1 hr.mo ZaC.2 .nil aM (dv 0) (aA (dv 3) aC)) (aA (bB Za Z5 Zaq.1 hr.mo Zaq.2 .nil aM (dv 0) (aA (dv 3) aC)) (aA (bB Za Zce ZcW.1 hr.mo ZcW.2 .nil aM (dv 0) (aA (dv 3) aC)) (aA (bB Za Zcq Zdj.1 hr.mo Zdj.2 .nil aM (dv 0) (aA (dv 3) aC)) (aA (bB Za Zda Zd6.1 hr.mo Zd6.2 .nil aM (dv 0) (aA (dv 3) aC)) aC)))))))) (aF (aX (i:=2) nd rfl (Or.inl rfl) (aZ mD (dv 2) (cB (aA (bB Za Zcc ZcU.1 hr.mo ZcU.2 .nil aM (dv 0) (aA (dv 3) aC)) (aA (bB Za Zbz Zb2.1 hr.mo Zb2.2 .nil aM (dv 0) (aA (dv 3) aC)) (aA (bB Za Zcd ZcV.1 hr.mo ZcV.2 .nil aM (dv 0) (aA (dv 3) aC)) aC))))))))) (aF (aN (dv 2))))),?_⟩
 refine⟨⟨w.dx,_,hR.er,rfl⟩,r,R,o,w,rfl,hR,?_⟩
 refine⟨⟨w.dx,_,hR.er,rfl⟩,r,R,o,w,rfl,hR,fun bl hbl=>?_⟩
 generalize eU:upd H bl _=H1
 have g1:=nS hbl eU
 have ebl:=nE eU
 clear eU
 have hR1:=hR.same g1
 refine⟨⟨w.dx,_,hR1.er,rfl⟩,r,R,o,w,rfl,hR1,fun vl hvl=>?_⟩
 generalize eU:upd H1 vl _=H2
 have g2:=nS hvl eU
 have evl:=nE eU
 clear eU
 have hR2:=hR1.same g2
 refine⟨aL rfl,fun l0 hl0=>?_⟩
 generalize eU:upd H2 l0 _=H3
 have g3:=nS hl0 eU
 have el0:=nE eU
 have hl0':=g1.none (g2.none hl0)
 clear eU
 have hR3:=hR2.same g3
 have g13:=(g1.trans g2).trans g3
 refine⟨⟨by omega,by omega⟩,?_⟩
 rw[YR]
 refine gP (lo:=0) (n:=m) (fun i σ H'=>Same H H'/\∃(l:Addr)(xs:List V)(x3:Option V),σ= [some (.ref r),some (.int ((m:Nat):Int)),some (.ref l),x3]/\H l=none/\H' l=some (.lst xs)/\xs.length=3+8*i/\DVs K H' xs (nY R i)) ⟨g13,l0,_,_,rfl,hl0',el0,rfl,.cons (.int _) (.cons (DV.ints (Vb (g3 _ _ (g2 _ _ ebl)))) (.cons (.lst (Vb (g3 _ _ evl)) hR3.ev.dvs) .nil))⟩ ?_ ?_
 ·rintro i σ H4 hi ⟨g4,l,xs,x3,rfl,hln,el,lx,dv⟩
  rw[Y8]
  have hin:¬ ¬ (0<=((i:Nat):Int)/\((i:Nat):Int)<((R.ps.length:Nat):Int)):=fun no=>no ⟨by omega,by rw[hI.ln];omega⟩
  obtain⟨S,eS⟩:∃S,R.ps[i]? =some S:=⟨_,Yb (by rw[hI.ln];exact hi)⟩
  have hR4:=hR.same g4
  refine⟨⟨w.dx,_,hR4.er,rfl⟩,r,R,o,w,_,rfl,hR4,fun i1 xs1 ei ex a1 ha1=>?_,fun no=>absurd no hin⟩
  have ij:i1=i:=by omega
  subst ij
  generalize eU:upd H4 a1 _=H5
  have g5:=nS ha1 eU
  have ea1:=nE eU
  clear eU
  have hR5:=hR4.same g5
  refine⟨⟨w.dx,_,hR5.er,rfl⟩,r,R,o,w,_,rfl,hR5,fun i2 xs2 ei2 ex2 a2 ha2=>?_,fun no=>absurd no hin⟩
  have ij:i2=i1:=by omega
  subst ij
  generalize eU:upd H5 a2 _=H6
  have g6:=nS ha2 eU
  have ea2:=nE eU
  clear eU
  have hR6:=hR5.same g6
  refine⟨⟨w.dx,_,hR6.er,rfl⟩,r,R,o,w,_,rfl,hR6,fun i3 S3 ei3 eS3=>?_,fun no=>absurd no hin⟩
  have ij:i3=i2:=by omega
  subst ij
  rw[eS]at eS3
  cases eS3
  intro t H7 ht g7 et
  have hR7:=hR6.same g7
  refine⟨⟨w.dx,_,hR7.er,rfl⟩,r,R,o,w,_,rfl,hR7,fun i4 S4 ei4 eS4=>?_,fun no=>absurd no hin⟩
  have ij:i4=i3:=by omega
  subst ij
  rw[eS]at eS4
  cases eS4
  refine⟨YN (hI.wt S (Yi eS)) (by decide),fun l8 xs8 H8 hl8 g8 el8 f8=>?_⟩
  have hR8:=hR7.same g8
  refine⟨⟨w.dx,_,hR8.er,rfl⟩,r,R,o,w,_,rfl,hR8,fun i5 S5 ei5 eS5=>?_,fun no=>absurd no hin⟩
  have ij:i5=i4:=by omega
  subst ij
  rw[eS]at eS5
  cases eS5
  refine⟨YN (hI.up S (Yi eS)) (by decide),fun l9 xs9 H9 hl9 g9 el9 f9=>⟨aL rfl,fun c1 hc1=>?_⟩⟩
  generalize eU:upd H9 c1 _=HA
  have gA:=nS hc1 eU
  have ec1:=nE eU
  clear eU
  have k9:=g9.trans gA
  have k8:=g8.trans k9
  have k7:=g7.trans k8
  have k6:=g6.trans k7
  have k5:=g5.trans k6
  refine⟨_,_,k5 _ _ el,ec1,Y6 (bI (by rw[lx];show 3+8*i5+5<=1000;omega)),fun c2 hc2=>?_⟩
  generalize eU:upd HA c2 _=HB
  have gB:=nS hc2 eU
  have ec2:=nE eU
  clear eU
  have hRB:=(hR8.same k9).same gB
  refine⟨⟨w.dx,_,hRB.er,rfl⟩,r,R,o,w,_,rfl,hRB,fun i6 S6 ei6 eS6=>?_,fun no=>absurd no hin⟩
  have ij:i6=i5:=by omega
  subst ij
  rw[eS]at eS6
  cases eS6
  refine⟨⟨w.dx,_,hRB.er,rfl⟩,r,R,o,w,_,rfl,hRB,fun i7 S7 ei7 eS7=>?_,fun no=>absurd no hin⟩
  have ij:i7=i6:=by omega
  subst ij
  rw[eS]at eS7
  cases eS7
  refine⟨⟨w.dx,_,hRB.er,rfl⟩,r,R,o,w,_,rfl,hRB,fun i8 S8 ei8 eS8=>?_,fun no=>absurd no hin⟩
  have ij:i8=i7:=by omega
  subst ij
  rw[eS]at eS8
  cases eS8
  refine⟨aL rfl,fun c3 hc3=>?_⟩
  generalize eU:upd HB c3 _=HC
  have gC:=nS hc3 eU
  have ec3:=nE eU
  clear eU
  refine⟨_,_,gC _ _ ec2,ec3,Y6 (bI (by rw[Yc,lx];show 3+8*i8+5+3<=1000;omega)),fun c4 hc4=>?_⟩
  generalize eU:upd HC c4 _=HD
  have gD:=nS hc4 eU
  have ec4:=nE eU
  clear eU
  have kB:=gB.trans (gC.trans gD)
  have k4D:=k5.trans kB
  refine⟨g4.trans k4D,c4,_,_,rfl,g4.none (k5.none (gB.none (gC.none hc4))),ec4,by rw[Yc,Yc,lx];show 3+8*i8+5+3=_;omega,?_⟩
  have e1:R.sa.getD i8 []=xs1:=by rw[Yn,ex];rfl
  have e2:R.he.getD i8 []=xs2:=by rw[Yn,ex2];rfl
  show DVs K HD _ (nY R i8++((R.ps[i8]?).map fun S=>wC S (R.sa.getD i8 []) (R.he.getD i8 [])).getD [])
  rw[eS,e1,e2,Xg]
  refine DVs.app (DVs.same k4D dv) ?_
  show DVs K HD _ (wC S xs1 xs2)
  exact .cons (DV.ints (Vb (kB _ _ (k6 _ _ ea1)))) (.cons (DV.ints (Vb (kB _ _ (k7 _ _ ea2)))) (.cons (b1K (kB _ _ (k8 _ _ et))) (.cons (.lst (Vb (kB _ _ (k9 _ _ el8))) (f8.same (k9.trans kB)).at_.dvs) (.cons (.lst (Vb (kB _ _ (gA _ _ el9))) (f9.same (gA.trans kB)).at_.dvs) (.cons (.int _) (.cons (.bl _) (.cons (.bl _) .nil)))))))
 rintro σ H4 ⟨g4,l,xs,x3,rfl,hln,el,lx,dv⟩
 exact q l xs H4 hln g4 el dv
variable (Zc3:FB P w K mg base (CX0) 14 "_law_ran" Zhf Zhj ["_law_rail","_law_many","_law_wrong_here","_law_asked"] (a9F Zg CA))
include Zz ZD ZK ZL Ze7 Za Zbi ZdM Zhk hc__law_ran ZbJ Zgg in
theorem ZnY (F0:GFm K mg "_law_ran" ZfU Zhf Zhj):type_of% Zc3:=by
 refine fbM ["_law_rail","_law_many","_law_wrong_here","_law_asked","_law_pairs","_law_turn","_law_post","_law_hearing","_law_handed","_law_hearing_here","_law_told"] F0 fun Sc0=>Fun.okC F0.F hc__law_ran Sc0 (fun vs H Q E h=>?_) fun A outer s H vs Q E hr h=>?_
 ·obtain⟨r,R,o,w,m,wl,al,as,ws,rfl,_⟩:=h
  rfl
 obtain⟨r,R,o,w,m,wl,al,as,ws,rfl,hR,hI,hW,lws,hw,eal,nal0,eEA,nEA,eRN,nRN,m1,m5,q⟩:=h
 have nd:=Sc0.nd
 refine⟨_,(aD (aX (i:=4) nd rfl (Or.inr rfl) (cB aC)) (aD (dH YF rfl (cO rfl ZD (aA (bG fZ rfl ZL dM (aA (dv 2) aC)) aC)) (cL (i:=5) nd rfl (Or.inl rfl)) (aF (dH YF rfl (cY (bH cT (dv 2) (dv 5) (fun _ _=>rfl))) (cL (i:=6) nd rfl (Or.inl rfl)) (aF (aW (bR (dv 4) (aA (bN (aA (dv 6) (aA (dv 5) aC))) aC))))))) (aD (b0B (c0:=1138) (P:=1134) (bm:=4) (iq:=iqN) (im:=7) (ys:=["_law_pairs","_law_asked"]) rfl Zhk ZdM rfl nd rfl rfl rfl rfl rfl rfl) (aD (aX (i:=8) nd rfl (Or.inl rfl) (cH dF rfl ZK eN (aA (dv 4) aC))) (aD (aX (i:=9) nd rfl (Or.inl rfl) (aQ Zgg.1 hr.mo rfl Zgg.2.2.2 Zgg.2.2.1 Zgg.2.1 .nil aM (aA (dv 8) aC))) (aD (aW (wO (dv 8))) (aD (aX (i:=10) nd rfl (Or.inl rfl) (bB Za Zbi ZbJ.1 hr.mo ZbJ.2 .nil aM (dv 0) (aA aG (aA (dv 9) aC)))) (aD (aX (i:=10) nd rfl (Or.inl rfl) (aZ mD (dv 10) (a7D (ys:=["_law_pairs","_law_asked"]) (js:=[4,3]) Za Zbi ZbJ.1 hr.mo ZbJ.2 (dv 0) (aA aG (aA (dv 7) aC)) (fun _=>rfl) nd (by decide) c0S rfl))) (aD (qJ (bM (bA fW (bG fZ rfl ZL dM (aA (dv 4) aC)) aG (aV _)) (aF (aX (i:=9) nd rfl (Or.inl rfl) oF)) aU)) (aF (aN (aZ mD (dv 10) (bB Za Zbi ZbJ.1 hr.mo ZbJ.2 .nil aM (dv 0) (aA aG (aA (dv 9) aC))))))))))))))),?_⟩
 have las:as.length=60:=hW.ln.trans lws
 refine⟨aL rfl,fun pl hpl=>?_⟩
 generalize eU:upd H pl _=H1
 have gp:=nS hpl eU
 have ep:=nE eU
 clear eU
 refine⟨_,.inl (Vb (gp _ _ hW.at_)),⟨by rw[Ya,las];decide,by rw[Ya,las];decide⟩,?_⟩
 rw[Ya,las]
 refine gP (lo:=0) (n:=60) (fun k σ H'=>∃(qs:List Addr)(ps:List (Int×Int)),(∃x5 x6,σ= [some (.ref r),some (.int ((m:Nat):Int)),some (.ref wl),some (.ref al),some (.ref pl),x5,x6,none,none,none,none])/\Same H H'/\H' pl=some (.lst (qs.map V.ref))/\PrT H' qs ps/\(∀i t:Nat,((((i:Nat):Int),((t:Nat):Int))∈ps↔t<k/\((i:Nat):Int)∈ws.getD t []))/\ps.length<=2*k) ⟨[], [],⟨_,_,rfl⟩,gp,ep,.nil,fun i t=>⟨fun z=>(by cases z),fun z=>absurd z.1 (Nat.not_lt_zero _)⟩,YO _⟩ ?_ ?_
 ·rintro k σ H2 hk ⟨qs,ps,⟨x5,x6,rfl⟩,g2,e2,p2,hp,lp⟩
  rw[Y8]
  obtain⟨ra,hra⟩:∃a,as[k]? =some a:=⟨_,Yb (by rw[las];exact hk)⟩
  obtain⟨wk,hwk⟩:∃w,ws[k]? =some w:=⟨_,Yb (by rw[lws];exact hk)⟩
  have ew:ws.getD k []=wk:=by rw[Yn,hwk];rfl
  have lw:=(hw wk (Yi hwk)).1
  have er:=hW.row k ra wk hra hwk
  refine⟨_,V.ref ra,Vb (g2 _ _ hW.at_),fC (v:=V.ref ra) (by rw[Yl,hra];rfl),⟨_,Vb (g2 _ _ er)⟩,eO (xs:=wk.map V.int) (fun j σ H'=>∃(qs:List Addr)(ps:List (Int×Int)),(∃x6,σ= [some (.ref r),some (.int ((m:Nat):Int)),some (.ref wl),some (.ref al),some (.ref pl),some (.int ((k:Nat):Int)),x6,none,none,none,none])/\Same H H'/\H' pl=some (.lst (qs.map V.ref))/\PrT H' qs ps/\(∀i t:Nat,((((i:Nat):Int),((t:Nat):Int))∈ps↔(t<k/\((i:Nat):Int)∈ws.getD t [])\/(t=k/\((i:Nat):Int)∈wk.take j)))/\ps.length<=2*k+j) ⟨qs,ps,⟨_,rfl⟩,g2,e2,p2,fun i t=>(hp i t).trans ⟨.inl,fun z=>z.elim id fun y=>(by rw[X2]at y;cases y.2)⟩,lp⟩ (fun j σ H' _ z=>by obtain⟨_,_,_,g,_⟩:=z;exact Vb (g _ _ er)) ?_ ?_⟩
  ·rintro j x σ H3 hx ⟨qs,ps,⟨x6,rfl⟩,g3,e3,p3,hp,lp⟩
   obtain⟨hj,rfl⟩:=lV hx
   refine⟨⟨_,Vb e3⟩,aL rfl,fun t ht=>?_⟩
   generalize eU:upd H3 t _=H4
   have g4:=nS ht eU
   have et:=nE eU
   clear eU
   have e4:=g4 _ _ e3
   have lq:=p3.len
   refine⟨_,e4,bI (by rw[Ya];omega),qs++[t],ps++[(wk[j],((k:Nat):Int))],⟨_,rfl⟩,(g3.trans g4).put hpl,by rw[aB,Yk];rfl,(((p3.same g4).append (.cons et .nil)).put e4),fun i t'=>?_,by rw[Yc];show _+1<=_;omega⟩
   rw[YB,hp,Yh hj,YB,Yj,Yj]
   constructor
   ·rintro ((z | z) | z)
    ·exact .inl z
    ·exact .inr ⟨z.1,.inl z.2⟩
    ·obtain⟨z1,z2⟩:=Prod.mk.inj z
     exact .inr ⟨by omega,.inr z1⟩
   ·rintro (z | ⟨z1,z | z⟩)
    ·exact .inl (.inl z)
    ·exact .inl (.inr ⟨z1,z⟩)
    ·exact .inr (by rw[z,z1])
  rintro σ H3 ⟨qs,ps,⟨x6,rfl⟩,g3,e3,p3,hp,lp⟩
  rw[Ya]at hp lp
  refine⟨qs,ps,⟨_,_,rfl⟩,g3,e3,p3,fun i t=>(hp i t).trans ?_,by omega⟩
  rw[Ys (Yf _)]
  constructor
  ·rintro (⟨z1,z2⟩ | ⟨rfl,z⟩)
   ·exact⟨by omega,z2⟩
   ·exact⟨Xl _,by rw[ew];exact z⟩
  ·rintro ⟨z1,z2⟩
   by_cases c:t=k
   ·subst c;rw[ew]at z2;exact .inr ⟨rfl,z2⟩
   ·exact .inl ⟨by omega,z2⟩
 rintro σ H2 ⟨qs,ps,⟨x5,x6,rfl⟩,g2,e2,p2,hp0,lp⟩
 have hp:Prs ps ws:=fun i t ht=>(hp0 i t).trans ⟨fun z=>z.2,fun z=>⟨ht,z⟩⟩
 have fr2:mL al o H o H2:=fun x u e a _ _ _=>⟨g2 _ _ e,a⟩
 have nw:∀{x},H x=none->¬ o x:=fun {x} e z=>hR.al x z e
 have nal:=g2 _ _ eal
 refine⟨⟨#[],g2 _ _ eRN,trivial,.inl rfl⟩,?_⟩
 generalize ecl:cellsOf _ _=cl
 obtain⟨c2,c1,rfl⟩:∃c2 c1:Addr,cl= [(("_law_pairs":Str),c2),("_law_asked",c1)]:=⟨_,_,ecl.symm⟩
 clear ecl
 intro g c' H3 hg hfr hsm hT3 hc' hg3
 have hfr:=hfr (g2 _ _ eRN)
 have nt:∀{H:Hp}{P:Addr}{x u},H P=some (.tbl #[])->H x=some u->u≠ .tbl #[]->x≠P:=fun {H P x u} a b n z=>by rw[z,a]at b;exact n (Yo b).symm
 have fr3:=fr2.tab (.inr rfl) hsm
 have s3:∀{x u},H2 x=some u->u≠ .tbl #[]->H3 x=some u:=fun {x u} e n=>hsm _ _ (nt (g2 _ _ eRN) e n) e
 have eal3:=s3 nal (by simp)
 have ep3:=s3 e2 (by simp)
 have p3:PrT H3 qs ps:=p2.mono fun b xs e=>s3 e (by simp)
 have eEA3:=hsm _ _ (by decide) (g2 _ _ eEA)
 have hR3:bY Zg CA H3 r R o w:=(hR.same g2).move fun x v e z=>hsm x v (fun y=>by
  subst y
  rcases z with z | ⟨vs,rfl⟩
  ·exact nRN z
  ·rw[g2 _ _ eRN]at e;cases e) e
 have ng:¬ o g:=nw (g2.none hg)
 have nc':¬ o c':=nw (g2.none hfr)
 have npl:¬ o pl:=nw hpl
 have nn3:∀x,H3 x=none->H x=none:=fun x e=>by
  cases z:H x with
  |none=>rfl
  | some u=>
   by_cases c:x=1134
   ·obtain⟨ps,t,_⟩:=hT3
    rw[c,t]at e;cases e
   ·rw[hsm _ _ c (g2 _ _ z)]at e;cases e
 refine⟨_,.inl (Vb ep3),fun hd hhd=>?_⟩
 generalize eU:upd H3 hd _=H4
 have g4:=nS hhd eU
 have ehd:=nE eU
 clear eU
 have hdn:=nn3 _ hhd
 have nn4:∀x,H4 x=none->H x=none:=fun x e=>nn3 x (g4.none e)
 have fr4:=fr3.same g4
 have hR4:=hR3.same g4
 refine⟨hd,qs,ps,rfl,ehd,p3.same g4,by omega,g4 _ _ eEA3,fun g2 c c'' d H5 hsm5 hg2 hc hc'' hd2 e1 e2' e3' e4'=>?_⟩
 have fr5:=fr4.tab (.inl rfl) hsm5
 have s5:∀{x u},H4 x=some u->u≠ .tbl #[]->H5 x=some u:=fun {x u} e n=>hsm5 _ _ (nt (g4 _ _ eEA3) e n) e
 have eal5:=s5 (g4 _ _ eal3) (by simp)
 have ep5:=s5 (g4 _ _ ep3) (by simp)
 have p5:PrT H5 qs ps:=(p3.same g4).mono fun b xs e=>s5 e (by simp)
 have hc5:=s5 (g4 _ _ hc') (by simp[dW])
 have hg5:=s5 (g4 _ _ hg3) (by simp[FnO])
 have ehd5:=s5 ehd (by simp)
 have hR5:bY Zg CA H5 r R o w:=hR4.move fun x v e z=>hsm5 x v (fun y=>by
  subst y
  rcases z with z | ⟨vs,rfl⟩
  ·exact nEA z
  ·rw[g4 _ _ eEA3]at e;cases e) e
 have hr5:jH H5 g2 ps o:=⟨c,c'',d,⟨e1,e2',e3',e4'⟩,nw (nn4 _ hg2),nw (nn4 _ hc''),nw (nn4 _ hc),nw (nn4 _ hd2)⟩
 have nhp:hd≠pl:=fun z=>by rw[z,ep3]at hhd;cases hhd
 have nha:hd≠al:=fun z=>by rw[z,eal3]at hhd;cases hhd
 refine⟨_,ehd5,?_⟩
 have kx:∀{x u},x≠hd->H5 x=some u->upd H5 hd (.lst []) x=some u:=fun {x u} n e=>by rw[aH n];exact e
 have nx:∀{x φ},H5 x=some (.ext φ)->x≠hd:=fun {x φ} e z=>by rw[z,ehd5]at e;cases e
 have fr6:mL al o H o (upd H5 hd (.lst [])):=fr5.put hdn
 have eal6:=kx (Va nha) eal5
 have ep6:=kx (Va nhp) ep5
 have p6:=p5.put (ys:=[]) ehd5
 have hc6:=kx (nx hc5) hc5
 have hg6:=kx (nx hg5) hg5
 have hR6:bY Zg CA (upd H5 hd (.lst [])) r R o w:=hR5.move fun x v e z=>kx (fun y=>by
  subst y
  rcases z with z | ⟨vs,rfl⟩
  ·exact nw hdn z
  ·rw[ehd5]at e;cases e) e
 have hr6:jH (upd H5 hd (.lst [])) g2 ps o:=by
  obtain⟨c,c'',d,⟨a1,a2,a3,a4⟩,b⟩:=hr5
  exact⟨c,c'',d,⟨kx (nx a1) a1,kx (nx a2) a2,kx (nx a3) a3,kx (fun z=>by rw[z,ehd5]at a4;cases a4) a4⟩,b⟩
 generalize upd H5 hd (.lst [])=H6 at fr6 eal6 ep6 p6 hc6 hg6 hR6 hr6
 have ne0:∀t,(cA R ws t).ps≠ []:=fun t z=>by have:=mR R ws t;rw[z,hI.ln]at this;have:0=m:=this;omega
 have It:∀t,t<=60->I51 m t (ws.take t) (cA R ws t):=fun t ht=>vZ (ws:=ws) hI m1 m5 t (by omega)
 refine⟨⟨w.dx,_,hR6.er,rfl⟩,r,cA R ws 0,o,w,20,.ref g2,g2,hsW R ws 0,fun _=>False,_,_,rfl,.inr rfl,hR6,ne0 0,by decide,fun k hk=>by rw[iJ];exact(It (0+k) (by omega)).szR (by omega),vX hp (It 0 (by decide)).bo (by decide),fun H7 g7=>hr6.same g7,fun l1 H7 o7 hR7 hr7 mv7 hl1=>?_⟩
 rw[iJ]at hR7
 have et1:((List.range 20).map fun k=>iH (jN (cA R ws 0) (hsW R ws 0) k))=tld R ws 20:=tR R ws 0 20
 rw[et1]
 have fr7:=fr6.mv (fun x hx=>hx.elim) mv7
 have kp7:∀{x u},H6 x=some u->¬ o x->H7 x=some u/\¬ o7 x:=fun {x u} e n=>⟨mv7.1 _ _ e (.inl fun z=>z.elim n id),fun z=>mv7.out e (fun z=>z.elim n id) (.inl z)⟩
 generalize eU:upd H7 l1 _=H8
 have g8:=nS hl1 eU
 have el1:=nE eU
 have nl1:¬ o7 l1:=fun z=>(by obtain⟨w7,h7⟩:=hR7;exact h7.al _ z hl1)
 have na1:l1≠al:=fun z=>by rw[z,(kp7 eal6 nal0).1]at hl1;cases hl1
 clear eU
 have eal8:=g8 _ _ (kp7 eal6 nal0).1
 have nal8:=(kp7 eal6 nal0).2
 have ep8:=g8 _ _ (kp7 ep6 npl).1
 have npl8:=(kp7 ep6 npl).2
 have hc8:=g8 _ _ (kp7 hc6 nc').1
 have nc8:=(kp7 hc6 nc').2
 have hg8:=g8 _ _ (kp7 hg6 ng).1
 have ng8:=(kp7 hg6 ng).2
 have p8:PrT H8 qs ps:=(p6.mono fun b xs e=>mv7.1 _ _ e (.inr ⟨_,rfl⟩)).same g8
 have hr8:=hr7.same g8
 have fr8:=fr7.same g8
 have npa:pl≠al:=fun z=>by rw[z,eal]at hpl;cases hpl
 obtain⟨w8,hR8⟩:=bK.same51 hR7 g8
 refine⟨⟨w8.dx,_,hR8.er,rfl⟩, [.ref pl,.ref al],rfl,fun hn hnd=>?_⟩
 have hn2:H8 c2=none:=hn (("_law_pairs":Str),c2) YH
 have hn1:H8 c1=none:=hn (("_law_asked":Str),c1) (Yz _ YH)
 have n12:c1≠c2:=fun z=>by
  have hnd':([c2,c1]:List Addr).Nodup:=hnd
  rw[z]at hnd'
  simp at hnd'
 generalize eA:lH H8 _ _=HA
 have eA':upd (upd H8 c1 (cI c1 (.ref al))) c2 (cI c2 (.ref pl))=HA:=eA
 have gA:Same H8 HA:=by
  rw[<-eA']
  exact(aK hn1 _).trans (aK (by rw[aH (Va n12)];exact hn2) _)
 have c1A:HA c1=some (cI c1 (.ref al)):=by rw[<-eA',aH n12,aB]
 have c2A:HA c2=some (cI c2 (.ref pl)):=by rw[<-eA',aB]
 have nhA:gW HA g al pl ps [c2,c1] o7:=⟨c1,c2,c',qs,rfl,n12,⟨gA _ _ hg8,gA _ _ hc8,c1A,c2A,gA _ _ ep8⟩,p8.same gA,npa,ng8,nc8,fun z=>hR8.al _ z hn1,fun z=>hR8.al _ z hn2,npl8⟩
 have asA:vK HA al R ws m (0*m) o7:=⟨[],gA _ _ eal8,by rw[Nat.zero_mul];exact .nil,nal8⟩
 refine⟨r,cA R ws 20,o7,w8,25,.ref g,g,hsW R ws 20,fun x=>x=al,_,_,rfl,.inr rfl,hR8.same gA,ne0 20,by decide,fun k hk=>by rw[iJ];exact(It (20+k) (by omega)).szR (by omega),a5V (pl:=pl) (cl:=[c2,c1]) hp (It 20 (by decide)).bo (It 20 (by decide)).ln m1 m5,fun H9 g9=>⟨nhA.same g9,asA.same g9⟩,fun l2 H9 o9 hR9 pS9 mv9 hl2=>?_⟩
 obtain⟨nh9,as9⟩:=pS9
 rw[iJ]at hR9
 have c19:H9 c1=some (cI c1 (.ref al))/\H9 c2=some (cI c2 (.ref pl)):=by
  obtain⟨_,_,_,_,e,_,⟨_,_,a3,a4,_⟩,_⟩:=nh9
  cases e
  exact⟨a3,a4⟩
 have nl2:∀{x u},H9 x=some u->x≠l2:=fun {x u} e=>aJ e hl2
 have ei2:∀x,x∈([c2,c1]:List Addr)->x=c2\/x=c1:=fun x z=>(Yt.mp z).imp id Yj.mp
 refine⟨fun i p w' h1 h2=>?_,?_⟩
 ·match i,h1,h2 with
  | 0,h1,h2=>
   cases h1
   cases h2
   show upd H9 l2 _ c2=_
   rw[aH (nl2 c19.2)]
   exact c19.2
  | 1,h1,h2=>
   cases h1
   cases h2
   show upd H9 l2 _ c1=_
   rw[aH (nl2 c19.1)]
   exact c19.1
  |i+2,h1,_=>cases h1
 generalize eX:fU _ _=HX
 have eX':fU (upd H9 l2 (.lst (((List.range 25).map fun k=>iH (jN (cA R ws 20) (hsW R ws 20) k)).map V.int))) [c2,c1]=HX:=eX
 have inX:∀{x u},H9 x=some u->x≠c1->x≠c2->HX x=some u:=fun {x u} e a b=>by
  rw[<-eX',bJ fun z=>(ei2 x z).elim b a,aH (nl2 e)]
  exact e
 have el2:HX l2=some (.lst (((List.range 25).map fun k=>iH (jN (cA R ws 20) (hsW R ws 20) k)).map V.int)):=by
  rw[<-eX',bJ fun z=>(ei2 l2 z).elim (fun y=>nl2 c19.2 y.symm) fun y=>nl2 c19.1 y.symm,aB]
 have kpx:∀{x u},H8 x=some u->(¬ o7 x\/isT u)->x≠al->HX x=some u/\(¬ o9 x\/isT u):=fun {x u} e a b=>by
  have a':¬ Or2 o7 (fun x=>x=al) x\/isT u:=a.imp (fun a z=>z.elim a b) id
  exact⟨inX (mv9.1 _ _ (gA _ _ e) a') (aJ e hn1) (aJ e hn2),a'.imp (fun a' z=>mv9.out (gA _ _ e) a' (.inl z)) id⟩
 have fr10:mL al o H o9 HX:=fun x u e a b c d=>let ⟨p,q⟩:=fr8 x u e a b c d;kpx p q d
 have hr10:jH HX g2 ps o9:=by
  obtain⟨c,c'',d,⟨a1,a2,a3,a4⟩,b1,b2,b3,b4⟩:=hr8
  have ne:∀{x u},H8 x=some u->(∀vs,u≠ .lst vs)->x≠al:=fun {x u} e n z=>by rw[z,eal8]at e;exact n _ (Yo e).symm
  have k1:=kpx a1 (.inl b1) (ne a1 (by simp[FnO]))
  have k2:=kpx a2 (.inl b2) (ne a2 (by simp[dW]))
  have k3:=kpx a3 (.inl b3) (ne a3 (by simp[cI]))
  have k4:=kpx a4 (.inl b4) (ne a4 (by simp))
  have f:∀{x:Addr}{u:HO},(¬ o9 x\/isT u)->(∀vs,u≠ .tup vs)->¬ o9 x:=fun {x u} z n=>z.resolve_right fun ⟨vs,e⟩=>n vs e
  exact⟨c,c'',d,⟨k1.1,k2.1,k3.1,k4.1⟩,f k1.2 (by simp[FnO]),f k2.2 (by simp[dW]),f k3.2 (by simp[cI]),f k4.2 (by simp)⟩
 have hR10:bK Zg CA HX r (cA R ws (20+25)) o9:=by
  obtain⟨w9,h9⟩:=hR9
  refine⟨w9,h9.move fun x v e z=>inX e (fun y=>?_) fun y=>?_⟩
  ·rw[y,c19.1]at e
   cases e
   rcases z with z | ⟨vs,z⟩
   ·exact hR8.al _ ((mv9.2 x (.inl z)).elim (fun q=>q.elim (fun q=>y▸q) fun q=>absurd (q▸y▸c1A) (by rw[gA _ _ eal8];simp[cI])) fun q=>absurd c1A (by rw[<-y,q];simp)) hn1
   ·simp[cI]at z
  ·rw[y,c19.2]at e
   cases e
   rcases z with z | ⟨vs,z⟩
   ·exact hR8.al _ ((mv9.2 x (.inl z)).elim (fun q=>q.elim (fun q=>y▸q) fun q=>absurd (q▸y▸c2A) (by rw[gA _ _ eal8];simp[cI])) fun q=>absurd c2A (by rw[<-y,q];simp)) hn2
   ·simp[cI]at z
 have as10:∃vs,HX al=some (.lst vs)/\gY HX vs ((List.range (25*m)).map (vC R ws m))/\¬ o9 al:=by
  obtain⟨vs,a,b,c⟩:=as9
  have tn:∀{x xs c w},H9 x=some (.tup xs)->H9 c=some (cI c w)->x≠c:=fun {x xs c w} e e' z=>by rw[z,e']at e;cases e
  exact⟨vs,inX a (fun z=>by rw[z,c19.1]at a;cases a) (fun z=>by rw[z,c19.2]at a;cases a),b.imp fun x xs z=>inX z (tn z c19.1) (tn z c19.2),c⟩
 have el1X:=kpx el1 (.inl nl1) na1
 have epX:=(kpx ep8 (.inl npl8) npa).1
 refine⟨_,_,el1X.1,el2,Y6 (bI (by unfold tld;rw[Ya,Ya,Ya,Ya,YK,YK];decide)),fun l3 hl3=>?_⟩
 rw[<-Yk,tR]
 generalize eU:upd HX l3 _=H11
 have g11:=nS hl3 eU
 have el3:=nE eU
 have nl3:¬ o9 l3:=fun z=>(by obtain⟨w7,h7⟩:=hR10;exact h7.al _ z hl3)
 clear eU
 have fr11:=fr10.same g11
 have hr11:=hr10.same g11
 obtain⟨w11,hR11⟩:=bK.same51 hR10 g11
 obtain⟨av,ea10,ak10,na10⟩:=as10
 have lq:=p2.len
 refine⟨fun σ' H'=>(∃fv,σ'= [some (.ref r),some (.int ((m:Nat):Int)),some (.ref wl),some (.ref al),some (.ref pl),x5,x6,some (.ref g),some (.ref hd),some fv,some (.ref l3)]/\((fv= .non/\ps= [])\/fv= .ref g2))/\H'=H11,?_,?_⟩
 ·refine⟨_,.inl (Vb (g11 _ _ epX)),?_⟩
  rw[Ya,lq]
  refine cC (fun c=>?_) (fun c=>?_)
  ·have c':((ps.length:Nat):Int)=0:=dec_true c
   exact⟨⟨_,rfl,.inl ⟨rfl,List.length_eq_zero_iff.mp (by omega)⟩⟩,rfl⟩
  ·exact⟨⟨_,rfl,.inr rfl⟩,rfl⟩
 rintro σ' H' ⟨⟨fv,rfl,hfv⟩,rfl⟩
 obtain⟨f,PS,Pv,hf,hH,p0⟩:∃(f:Addr)(PS:Nat->Hp->Own->Prop)(Pv:Nat->Nat->Hp->Own->Prop),((fv= .non/\f=Za6)\/fv= .ref f)/\a8U K (qF Za6) f (cA R ws 45) 15 (hsW R ws 45) (fun _=>False) PS Pv/\∀H1,Same H' H1->PS 0 H1 o9:=by
  rcases hfv with ⟨z1,z2⟩ | z
  ·exact⟨_,_,_,.inl ⟨z1,rfl⟩,a2M Ze7 (z2▸hp) (by decide),fun _ _=>trivial⟩
  ·exact⟨_,_,_,.inr z,vX hp (It 45 (by decide)).bo (by decide),fun H1 g1=>hr11.same g1⟩
 refine⟨⟨w11.dx,_,hR11.er,rfl⟩,r,cA R ws 45,o9,w11,15,fv,f,hsW R ws 45,fun _=>False,PS,Pv,rfl,hf,hR11,ne0 45,by decide,fun k hk=>by rw[iJ];exact(It (45+k) (by omega)).szR (by omega),hH,p0,fun l4 H12 o12 hR12 _ mv12 hl4=>?_⟩
 rw[iJ]at hR12
 have fr12:=fr11.mv (fun x hx=>hx.elim) mv12
 have kp12:∀{x u},H' x=some u->¬ o9 x->H12 x=some u:=fun {x u} e n=>mv12.1 _ _ e (.inl fun z=>z.elim n id)
 have ea12:=kp12 (g11 _ _ ea10) na10
 have el12:=kp12 el3 nl3
 have ak12:gY H12 av ((List.range (25*m)).map (vC R ws m)):=ak10.imp fun x xs z=>mv12.1 _ _ (g11 _ _ z) (.inr ⟨_,rfl⟩)
 generalize eU:upd H12 l4 _=H13
 have g13:=nS hl4 eU
 have el4:=nE eU
 clear eU
 refine⟨_,_,g13 _ _ el12,el4,Y6 (bI (by unfold tld;rw[Ya,Ya,Ya,Ya,YK,YK];decide)),fun l5 hl5=>?_⟩
 generalize eU:upd H13 l5 _=H14
 have g14:=nS hl5 eU
 have el5:=nE eU
 clear eU
 rw[<-Yk]at el5
 have g1314:=g13.trans g14
 have fr14:=fr12.same g1314
 exact q l5 H14 o12 av (bK.same51 hR12 g1314) (fun x u e a b c d=>(fr14 x u e a b c d).1) (g1314 _ _ ea12) (ak12.imp fun x xs z=>g1314 _ _ z) (by rw[el5];exact YJ (fun z=>some (HO.lst (List.map V.int z))) (tR R ws 45 15))
variable (Zbv:FB P w K mg base (CX0) 14 "_law_turned" ZfH ZhJ ["_law_rail","_law_many","_law_wrong_here","_law_held","_law_kept"] (yH K Zg CA))
include Zc2 Zw Zz ZD ZK Za ZI Zab Z5 ZX ZcO ZdJ Zai ZaC Zaq Z9 in
theorem Zls (F0:GFm K mg "_law_turned" Zh9 ZfH ZhJ):type_of% Zbv:=by
 refine fbK ["_law_rail","_law_many","_law_wrong_here","_law_held","_law_kept","_law_told","_law_k","_law_row","_law_some","_law_one"] F0 fun H Q nd hr h=>?_
 obtain⟨r,F,R,o,m,wl,hl,kl,as,ws,ob,rfl,J,mh,mk,nhk,hW,lws,hw,hI,m1,m5,hob,q⟩:=h
 refine⟨_,(aD (aX (i:=5) nd rfl (Or.inl rfl) (cB aC)) (aD (dH YF rfl (cO rfl ZD (aA aG aC)) (cL (i:=6) nd rfl (Or.inl rfl)) (aD (aX (i:=7) nd rfl (Or.inl rfl) (cH dF rfl ZK eN (aA (bH cT (dv 2) (dv 6) (fun _ _=>rfl)) aC))) (aD (aW (bR (dv 5) (aA (bB Za ZcO ZdJ.1 hr.mo ZdJ.2 .nil aM (dv 0) (aA (dv 7) aC)) aC))) (aD (bM (bA (a3W hr.units) (dv 7) (bH cT (dv 2) (dv 6) (fun _ _=>rfl)) (aV _)) (aF (aN (cB aC))) aU) (aD (aW (bR (dv 7) (aA aG aC))) (aF (bM (bA fW (aZ oW (dv 6) aG) aG (aV _)) (aD (aX (i:=8) nd rfl (Or.inl rfl) (cB (aA (bD Za ZI Z9.1 hr.mo Z9.2 .nil aM (dv 0)) (aA (bB Za Zab ZaC.1 hr.mo ZaC.2 .nil aM (dv 0) (aA aG aC)) (aA (bB Za Z5 Zaq.1 hr.mo Zaq.2 .nil aM (dv 0) (aA (aZ lZ (dv 1) aG) aC)) (aA (bD Za ZX Zai.1 hr.mo Zai.2 .nil aM (dv 0)) aC)))))) (aD (aW (bR (bH cT (dv 8) aG (fun _ _=>rfl)) (aA aG aC))) (aD (aW (bR (bH cT (dv 8) aG (fun _ _=>rfl)) (aA (bN (aA aG (aA aG (aA bF aC)))) aC))) (aF (dH YF rfl (cY (dv 8)) (cL (i:=9) nd rfl (Or.inl rfl)) (aD (aW (bR (dv 3) (aA (dv 9) aC))) (aF (aW (bR (dv 4) (aA (cH dF rfl ZK eN (aA (dv 9) aC)) aC)))))))))) aU))))))) (aF (aN (dv 5))))),?_⟩
 have las:as.length=60:=hW.ln.trans lws
 have nob:∀{G:Hp}{x:Addr},Same F G->G x=none->¬ ob x:=fun {G x} g e z=>by
  cases y:F x with
  |none=>exact hob x z y
  |some u=>rw[g _ _ y]at e;cases e
 refine⟨aL rfl,fun tl htl=>?_⟩
 obtain⟨j1,mt1⟩:=J.new (vs:=[]) htl
 have mh1:=mh.same (aK htl (.lst []))
 have mk1:=mk.same (aK htl (.lst []))
 have nth:=Va (aJ mh.at_ htl)
 have obt:=nob J.sm htl
 have obh:=nob (Vd F) mh.nF
 have obk:=nob (Vd F) mk.nF
 have ntk:=Va (aJ mk.at_ htl)
 generalize upd H tl _=H1 at j1 mt1 mh1 mk1
 refine⟨⟨by decide,by decide⟩,gP (lo:=0) (n:=60) (fun k σ H'=>∃(F':Hp)(o':Own)(xs ys:List V)(ds:List PyData),(∃x6 x7 x8 x9,σ= [some (.ref r),some (.int ((m:Nat):Int)),some (.ref wl),some (.ref hl),some (.ref kl),some (.ref tl),x6,x7,x8,x9])/\Same F F'/\J51 Zg CA 958 F' H' r (cA R ws k) o'/\Mu 958 F' H' o' tl ((tld R ws k).map V.int)/\Mu 958 F' H' o' hl xs/\Mu 958 F' H' o' kl ys/\DVs K (Rst ob F') xs ds/\DVs K (Rst ob F') ys ds/\(∀d∈ds,a0A d)/\xs.length<=4*k/\ys.length<=4*k) ⟨F,o, [], [], [],⟨_,_,_,_,rfl⟩,Vd _,j1,mt1,mh1,mk1,.nil,.nil,fun d hd=>(by cases hd),YO _,YO _⟩ ?_ ?_⟩
 ·rintro k σ H2 hk ⟨F2,o2,xs,ys,ds,⟨x6,x7,x8,x9,rfl⟩,g2,j2,mt2,mh2,mk2,dx,dy,hd,lx,ly⟩
  rw[Y8]
  obtain⟨ra,hra⟩:∃a,as[k]? =some a:=⟨_,Yb (by rw[las];exact hk)⟩
  obtain⟨wk,hwk⟩:∃w,ws[k]? =some w:=⟨_,Yb (by rw[lws];exact hk)⟩
  have eF:F ra=some (.lst (wk.map V.int)):=hW.row k ra wk hra hwk
  obtain⟨lk,bk⟩:=hw wk (Yi hwk)
  have I2:=vZ (ws:=ws) hI m1 m5 k (by omega)
  have ax:atI (as.map V.ref) ((k:Nat):Int)=some (V.ref ra):=fC (by rw[Yl,hra];rfl)
  refine⟨_,V.ref ra,Vb (j2.sm _ _ (g2 _ _ hW.at_)),ax,_,.inl (Vb (j2.sm _ _ (g2 _ _ eF))),fun rw hrw=>?_⟩
  have g3:=aK hrw (.lst (wk.map V.int))
  obtain⟨j3,mr3⟩:=j2.new (vs:=wk.map V.int) hrw
  have mt3:=mt2.same g3
  have mh3:=mh2.same g3
  have mk3:=mk2.same g3
  have nrt:=Va (aJ mt2.at_ hrw)
  have nrh:=Va (aJ mh2.at_ hrw)
  have nrk:=Va (aJ mk2.at_ hrw)
  generalize upd H2 rw _=H3 at g3 j3 mr3 mt3 mh3 mk3
  obtain⟨w3,hR3⟩:=j3.rl
  have ne3:(cA R ws k).ps≠ []:=fun z=>by have:=I2.ln;rw[z]at this;have:0=m:=this;omega
  refine⟨⟨_,Vb mt3.at_⟩,⟨w3.dx,_,hR3.er,rfl⟩,r,cA R ws k,o2,w3,rw,wk,fun _=>False,rfl,mr3.at_,by omega,hR3,ne3,I2.szR (by omega),j3.tb.own (fun x hx=>hx.elim id False.elim),fun x hx=>hx.elim,fun _ b H4 o4 hb hR4 hT4 m4=>?_,fun no=>absurd (fun x hx=>by have:=bk x hx;rw[I2.ln];exact this) no⟩
  have eb:b=iH (cA R ws k):=hb.uniq (tG I2.wf ne3)
  have ew:ws.getD k []=wk:=by rw[Yn,hwk];rfl
  have eR:kJ (cA R ws k) (wrL wk (cA R ws k).ps.length b) b=cA R ws (k+1):=by rw[eb,<-ew];rfl
  rw[eR]at hR4
  have j4:=j3.turn hR4 (hT4.own fun x hx=> .inl hx) m4
  have mt4:=mt3.turn j3 m4
  have mh4:=mh3.turn j3 m4
  have mk4:=mk3.turn j3 m4
  have mr4:=mr3.turn j3 m4
  refine⟨_,mt4.at_,bI (by unfold tld;rw[Ya,Ya,YK];omega),?_⟩
  have et:(tld R ws k).map V.int++[.int b]=(tld R ws (k+1)).map V.int:=by
   unfold tld
   rw[Xr,Yk,Yk,eb]
   rfl
  rw[et]
  have j5:=j4.put (vs':=(tld R ws (k+1)).map V.int) mt4
  have mt5:=mt4.put (vs':=(tld R ws (k+1)).map V.int)
  have mh5:=mh4.other (v:= .lst ((tld R ws (k+1)).map V.int)) (Va nth)
  have mk5:=mk4.other (v:= .lst ((tld R ws (k+1)).map V.int)) (Va ntk)
  have mr5:=mr4.other (v:= .lst ((tld R ws (k+1)).map V.int)) nrt
  generalize upd H4 tl _=H5 at j5 mt5 mh5 mk5 mr5
  refine⟨_,V.ref ra,Vb (j5.sm _ _ (g2 _ _ hW.at_)),ax,wk,wk,Vb mr5.at_,Vb (j5.sm _ _ (g2 _ _ eF)),qT rfl ?_⟩
  refine⟨⟨_,Vb mr5.at_⟩,_,mr5.at_,bI (by rw[Ya];omega),?_⟩
  have j6:=j5.put (vs':=wk.map V.int++[.int 0]) mr5
  have mt6:=mt5.other (v:= .lst (wk.map V.int++[.int 0])) (Va nrt)
  have mh6:=mh5.other (v:= .lst (wk.map V.int++[.int 0])) (Va nrh)
  have mk6:=mk5.other (v:= .lst (wk.map V.int++[.int 0])) (Va nrk)
  generalize upd H5 rw _=H6 at j6 mt6 mh6 mk6
  have I6:=vZ (ws:=ws) hI m1 m5 (k+1) (by omega)
  refine⟨(by show (0:Int)<20;decide),?_⟩
  conv=>whnf
  refine cC (fun c=>?_) (fun c=>⟨F2,o4,xs,ys,ds,⟨_,_,_,_,rfl⟩,g2,j6,mt6,mh6,mk6,dx,dy,hd,by omega,by omega⟩)
  obtain⟨w6,hR6⟩:=j6.rl
  refine⟨⟨w6.dx,_,hR6.er,rfl⟩,r,_,o4,w6,rfl,hR6,fun b1 hb1=>?_⟩
  have g7:=aK hb1 (.lst ((cA R ws (k+1)).bo.map V.int))
  obtain⟨j7,mb7⟩:=j6.new (vs:=(cA R ws (k+1)).bo.map V.int) hb1
  have mt7:=mt6.same g7
  have mh7:=mh6.same g7
  have mk7:=mk6.same g7
  have nbt:=Va (aJ mt6.at_ hb1)
  have obb:=nob (g2.trans j6.sm) hb1
  have nbh:=Va (aJ mh6.at_ hb1)
  have nbk:=Va (aJ mk6.at_ hb1)
  generalize upd H6 b1 _=H7 at g7 j7 mb7 mt7 mh7 mk7
  obtain⟨w7,hR7⟩:=j7.rl
  refine⟨⟨w7.dx,_,hR7.er,rfl⟩,r,_,o4,w7,_,rfl,hR7,fun i1 s1 ei1 es1 a1 ha1=>?_,fun no=>absurd ⟨by decide,by rw[I6.ln];omega⟩ no⟩
  have g8:=aK ha1 (.lst (s1.map V.int))
  obtain⟨j8,ms8⟩:=j7.new (vs:=s1.map V.int) ha1
  have mt8:=mt7.same g8
  have mh8:=mh7.same g8
  have mk8:=mk7.same g8
  have mb8:=mb7.same g8
  have nst:=Va (aJ mt7.at_ ha1)
  have obs:=nob (g2.trans j7.sm) ha1
  have nsh:=Va (aJ mh7.at_ ha1)
  have nsk:=Va (aJ mk7.at_ ha1)
  have nsb:=Va (aJ mb7.at_ ha1)
  generalize upd H7 a1 _=H8 at g8 j8 ms8 mt8 mh8 mk8 mb8
  obtain⟨w8,hR8⟩:=j8.rl
  refine⟨⟨w8.dx,_,hR8.er,rfl⟩,r,_,o4,w8,_,rfl,hR8,fun i2 s2 ei2 es2 a2 ha2=>?_,fun no=>absurd ⟨(by show (0:Int)<=((m:Nat):Int)-1;omega),(by show ((m:Nat):Int)-1<_;rw[I6.ln];omega)⟩ no⟩
  have g9:=aK ha2 (.lst (s2.map V.int))
  obtain⟨j9,mz9⟩:=j8.new (vs:=s2.map V.int) ha2
  have mt9:=mt8.same g9
  have mh9:=mh8.same g9
  have mk9:=mk8.same g9
  have mb9:=mb8.same g9
  have ms9:=ms8.same g9
  have nzt:=Va (aJ mt8.at_ ha2)
  have obz:=nob (g2.trans j8.sm) ha2
  have nzh:=Va (aJ mh8.at_ ha2)
  have nzk:=Va (aJ mk8.at_ ha2)
  have nzb:=Va (aJ mb8.at_ ha2)
  generalize upd H8 a2 _=H9 at g9 j9 mz9 mt9 mh9 mk9 mb9 ms9
  obtain⟨w9,hR9⟩:=j9.rl
  have E9:=hR9.ev
  refine⟨⟨w9.dx,_,hR9.er,rfl⟩,r,_,o4,w9,rfl,hR9,fun v1 hv1=>?_⟩
  have gA:=aK hv1 (.lst w9.evs)
  obtain⟨jA,mvA⟩:=j9.new (vs:=w9.evs) hv1
  have mtA:=mt9.same gA
  have mhA:=mh9.same gA
  have mkA:=mk9.same gA
  have mbA:=mb9.same gA
  have msA:=ms9.same gA
  have mzA:=mz9.same gA
  have EA:=E9.imp fun x xs z=>gA x _ z
  have nvt:=Va (aJ mt9.at_ hv1)
  have obv:=nob (g2.trans j9.sm) hv1
  have nvh:=Va (aJ mh9.at_ hv1)
  have nvk:=Va (aJ mk9.at_ hv1)
  have nvb:=Va (aJ mb9.at_ hv1)
  have nvs:=Va (aJ ms9.at_ hv1)
  have nvz:=Va (aJ mz9.at_ hv1)
  have lE:=E9.len
  have lE2:=I6.el
  generalize upd H9 v1 _=HA at gA jA mvA mtA mhA mkA mbA msA mzA EA
  refine⟨aL rfl,fun sm hsm=>?_⟩
  have gB:=aK hsm (.lst [.ref b1,.ref a1,.ref a2,.ref v1])
  have esm:=aB (H:=HA) (a:=sm) (o:= .lst [.ref b1,.ref a1,.ref a2,.ref v1])
  obtain⟨jB,mqB⟩:=jA.new (vs:=[.ref b1,.ref a1,.ref a2,.ref v1]) hsm
  have mtB:=mtA.same gB
  have mhB:=mhA.same gB
  have mkB:=mkA.same gB
  have mbB:=mbA.same gB
  have msB:=msA.same gB
  have mzB:=mzA.same gB
  have mvB:=mvA.same gB
  have EB:=EA.imp fun x xs z=>gB x _ z
  have nqb:=Va (aJ mbA.at_ hsm)
  have nqv:=Va (aJ mvA.at_ hsm)
  have nqh:=Va (aJ mhA.at_ hsm)
  have nqt:=Va (aJ mtA.at_ hsm)
  have nqk:=Va (aJ mkA.at_ hsm)
  generalize upd HA sm _=HB at gB esm jB mqB mtB mhB mkB mbB msB mzB mvB EB
  refine⟨_,V.ref b1,Vb mqB.at_,rfl,⟨_,Vb mbB.at_⟩,_,mbB.at_,bI (by rw[Ya,I6.bo];omega),?_⟩
  obtain⟨B6,eB6⟩:∃B6,(cA R ws (k+1)).bo.map V.int++[.int 0]=B6:=⟨_,rfl⟩
  rw[eB6]
  have jC:=jB.put (vs':=B6) mbB
  have mbC:=mbB.put (vs':=B6)
  have mtC:=mtB.other (v:= .lst (B6)) (Va nbt)
  have mhC:=mhB.other (v:= .lst (B6)) (Va nbh)
  have mkC:=mkB.other (v:= .lst (B6)) (Va nbk)
  have msC:=msB.other (v:= .lst (B6)) nsb
  have mzC:=mzB.other (v:= .lst (B6)) nzb
  have mvC:=mvB.other (v:= .lst (B6)) nvb
  have mqC:=mqB.other (v:= .lst (B6)) nqb
  have EC:gM (upd HB b1 (.lst (B6))) w9.evs (cA R ws (k+1)).ev:=EB.imp fun x xs z=>by rw[aH (fun y=>by rw[y,mbB.at_]at z;cases z)];exact z
  generalize upd HB b1 _=HC at jC mbC mtC mhC mkC msC mzC mvC mqC EC
  refine⟨_,V.ref v1,Vb mqC.at_,rfl,⟨_,Vb mvC.at_⟩,aL rfl,fun t ht=>?_⟩
  have gD:=aK ht (.tup [.int 0,.int 0,.str "x"])
  have etD:=aB (H:=HC) (a:=t) (o:= .tup [.int 0,.int 0,.str "x"])
  have jD:=jC.same gD
  have mtD:=mtC.same gD
  have mhD:=mhC.same gD
  have mkD:=mkC.same gD
  have mbD:=mbC.same gD
  have msD:=msC.same gD
  have mzD:=mzC.same gD
  have mvD:=mvC.same gD
  have mqD:=mqC.same gD
  have ED:=EC.imp fun x xs z=>gD x _ z
  generalize upd HC t _=HD at gD etD jD mtD mhD mkD mbD msD mzD mvD mqD ED
  refine⟨_,mvD.at_,bI (by rw[lE];omega),?_⟩
  have jE:=jD.put (vs':=w9.evs++[.ref t]) mvD
  have mvE:=mvD.put (vs':=w9.evs++[.ref t])
  have mtE:=mtD.other (v:= .lst (w9.evs++[.ref t])) (Va nvt)
  have mhE:=mhD.other (v:= .lst (w9.evs++[.ref t])) (Va nvh)
  have mkE:=mkD.other (v:= .lst (w9.evs++[.ref t])) (Va nvk)
  have mbE:=mbD.other (v:= .lst (w9.evs++[.ref t])) (Va nvb)
  have msE:=msD.other (v:= .lst (w9.evs++[.ref t])) (Va nvs)
  have mzE:=mzD.other (v:= .lst (w9.evs++[.ref t])) (Va nvz)
  have mqE:=mqD.other (v:= .lst (w9.evs++[.ref t])) nqv
  have EE:gM (upd HD v1 (.lst (w9.evs++[.ref t]))) (w9.evs++[.ref t]) ((cA R ws (k+1)).ev++[(0,0,("x":Str))]):=(ED.snoc (e:=(0,0,("x":Str))) etD).imp fun x xs z=>by rw[aH (fun y=>by rw[y,mvD.at_]at z;cases z)];exact z
  generalize upd HD v1 _=HE at jE mvE mtE mhE mkE mbE msE mzE mqE EE
  obtain⟨F3,j3,gF3,tF3,nF3⟩:=jE.allT
  have mt3:=mtE.up (nF3 _ _ mtE.at_ mtE.nF)
  have mh3:=mhE.up (nF3 _ _ mhE.at_ mhE.nF)
  have mk3:=mkE.up (nF3 _ _ mkE.at_ mkE.nF)
  have mb3:=mbE.up (nF3 _ _ mbE.at_ mbE.nF)
  have ms3:=msE.up (nF3 _ _ msE.at_ msE.nF)
  have mz3:=mzE.up (nF3 _ _ mzE.at_ mzE.nF)
  have mv3:=mvE.up (nF3 _ _ mvE.at_ mvE.nF)
  have mq3:=mqE.up (nF3 _ _ mqE.at_ mqE.nF)
  have E3:gM F3 (w9.evs++[.ref t]) ((cA R ws (k+1)).ev++[(0,0,("x":Str))]):=EE.imp tF3
  have nx:∀{F:Hp}{l l':Addr}{u:HO},F l'=none->l'≠l->upd F l u l'=none:=fun {F l l' u} e n=>by rw[aH n];exact e
  obtain⟨F8,j8,k38,eF8,nF8⟩:=j3.frzL [(b1,B6),(a1,s1.map V.int),(a2,s2.map V.int),(v1,w9.evs++[.ref t]),(sm, [.ref b1,.ref a1,.ref a2,.ref v1])] (Xb.mpr ⟨mb3,Xb.mpr ⟨ms3,Xb.mpr ⟨mz3,Xb.mpr ⟨mv3,List.forall_mem_singleton.mpr mq3⟩⟩⟩⟩)
  obtain⟨eb8,eF8⟩:=Xb.mp eF8
  obtain⟨es8,eF8⟩:=Xb.mp eF8
  obtain⟨ez8,eF8⟩:=Xb.mp eF8
  obtain⟨ev8,eF8⟩:=Xb.mp eF8
  have eq8:=List.forall_mem_singleton.mp eF8
  have mt8:=mt3.up (nF8 _ (by simp[Va nbt,Va nst,Va nzt,Va nvt,Va nqt]) mt3.nF)
  have mh8:=mh3.up (nF8 _ (by simp[Va nbh,Va nsh,Va nzh,Va nvh,Va nqh]) mh3.nF)
  have mk8:=mk3.up (nF8 _ (by simp[Va nbk,Va nsk,Va nzk,Va nvk,Va nqk]) mk3.nF)
  have k28:=gF3.trans k38
  have E8:gM (Rst ob F8) (w9.evs++[.ref t]) ((cA R ws (k+1)).ev++[(0,0,("x":Str))]):=E3.imp fun x xs z=>Rst.of (k38 _ _ z) (.inr ⟨_,rfl⟩)
  have hall:∀x∈ [V.ref b1,.ref a1,.ref a2,.ref v1],∃a vs ds',x= .ref a/\(F8 a=some (.lst vs)/\¬ ob a)/\DVs K (Rst ob F8) vs ds'/\a0A (.list ds')/\vs.length<=900:=fun x hx=>by
   rcases Yt.mp hx with rfl | hx
   ·refine⟨b1,_,((cA R ws (k+1)).bo++[0]).map .int,rfl,⟨eb8,obb⟩,?_,.of (mF _) (by decide),by rw[<-eB6,Yc,Ya,I6.bo];show k+1+1<=900;omega⟩
    rw[<-eB6]
    have:=DVs.ints (K:=K) (H:=Rst ob F8) ((cA R ws (k+1)).bo++[0])
    rw[Yk]at this
    exact this
   rcases Yt.mp hx with rfl | hx
   ·exact⟨a1,_,_,rfl,⟨es8,obs⟩,DVs.ints _,.of (mF _) (by decide),by rw[Ya,I6.sl s1 (Yi es1)];omega⟩
   rcases Yt.mp hx with rfl | hx
   ·exact⟨a2,_,_,rfl,⟨ez8,obz⟩,DVs.ints _,.of (mF _) (by decide),by rw[Ya,I6.hl s2 (Yi es2)];omega⟩
   rw[Yj.mp hx]
   refine⟨v1,_,_,rfl,⟨ev8,obv⟩,E8.dvs,.of (a7K _ fun e he=>?_) (by decide),by rw[Yc,lE];show _+1<=900;omega⟩
   rcases YB.mp he with z | z
   ·exact(I6.ev.ok e z).2.2.1
   ·rw[Yj.mp z]
    decide +kernel
  refine⟨⟨_,Vb (j8.sm _ _ eq8)⟩,eO (xs:=[.ref b1,.ref a1,.ref a2,.ref v1]) (fun j σ H'=>∃(F':Hp)(xs' ys':List V)(ds':List PyData),(∃x9,σ= [some (.ref r),some (.int ((m:Nat):Int)),some (.ref wl),some (.ref hl),some (.ref kl),some (.ref tl),some (.int ((k:Nat):Int)),some (.ref rw),some (.ref sm),x9])/\Same F8 F'/\J51 Zg CA 958 F' H' r (cA R ws (k+1)) o4/\Mu 958 F' H' o4 tl ((tld R ws (k+1)).map V.int)/\Mu 958 F' H' o4 hl xs'/\Mu 958 F' H' o4 kl ys'/\DVs K (Rst ob F') xs' ds'/\DVs K (Rst ob F') ys' ds'/\(∀d∈ds',a0A d)/\xs'.length<=4*k+j/\ys'.length<=4*k+j) ⟨F8,xs,ys,ds,⟨_,rfl⟩,Vd _,j8,mt8,mh8,mk8,DVs.same (Rst.same k28) dx,DVs.same (Rst.same k28) dy,hd,lx,ly⟩ (fun j σ H' _ z=>by obtain⟨F',_,_,_,_,g,jj,_⟩:=z;exact Vb (jj.sm _ _ (g _ _ eq8))) ?_ ?_⟩
  ·rintro j x σ H' hx ⟨F',xs',ys',ds',⟨x9',rfl⟩,g,jj,nt,nh,nk,dx',dy',hd',lx',ly'⟩
   obtain⟨a,vs,d1,rfl,⟨ea,oba⟩,dva,la,lv⟩:=hall x (Yi hx)
   have j4':j<4:=(Yd.mp hx).1
   refine⟨⟨_,Vb nh.at_⟩,_,nh.at_,bI (by omega),?_⟩
   have jp:=jj.put (vs':=xs'++[.ref a]) nh
   have nh2:=nh.put (vs':=xs'++[.ref a])
   have nt2:=nt.other (v:= .lst (xs'++[.ref a])) nth
   have nk2:=nk.other (v:= .lst (xs'++[.ref a])) (Va nhk)
   generalize upd H' hl _=Hp2 at jp nh2 nt2 nk2
   have eaF:=g _ _ ea
   refine⟨⟨_,Vb nk2.at_⟩,_,.inl (Vb (jp.sm _ _ eaF)),fun c hc=>?_⟩
   have gc:=aK hc (.lst vs)
   obtain⟨jn,nc⟩:=jp.new (vs:=vs) hc
   have nh3:=nh2.same gc
   have nt3:=nt2.same gc
   have nk3:=nk2.same gc
   have nch:=Va (aJ nh2.at_ hc)
   have obc:=nob (g2.trans (k28.trans (g.trans jp.sm))) hc
   have nct:=Va (aJ nt2.at_ hc)
   have nck:=Va (aJ nk2.at_ hc)
   generalize upd Hp2 c _=Hp3 at gc jn nc nh3 nt3 nk3
   obtain⟨jf,gf⟩:=jn.frz nc
   have ec:=aB (H:=F') (a:=c) (o:= .lst vs)
   have nh4:=nh3.up (nx (u:= .lst vs) nh3.nF (Va nch))
   have nt4:=nt3.up (nx (u:= .lst vs) nt3.nF (Va nct))
   have nk4:=nk3.up (nx (u:= .lst vs) nk3.nF (Va nck))
   generalize upd F' c _=G' at jf gf ec nh4 nt4 nk4
   refine⟨_,nk4.at_,bI (by omega),G',xs'++[.ref a],ys'++[.ref c],ds'++[.list d1],⟨_,rfl⟩,g.trans gf,jf.put (vs':=ys'++[.ref c]) nk4,nt4.other ntk,nh4.other nhk,nk4.put,DVs.app (DVs.same (Rst.same gf) dx') (.cons (.lst (Vb (Rst.of (gf _ _ eaF) (.inl oba))) (DVs.same (Rst.same (g.trans gf)) dva)) .nil),DVs.app (DVs.same (Rst.same gf) dy') (.cons (.lst (Vb (Rst.of ec (.inl obc))) (DVs.same (Rst.same (g.trans gf)) dva)) .nil),fun d hdd=>?_,by rw[Yc];show _+1<=_;omega,by rw[Yc];show _+1<=_;omega⟩
   rcases YB.mp hdd with z | z
   ·exact hd' d z
   ·rw[Yj.mp z];exact la
  rintro σ H' ⟨F',xs',ys',ds',⟨x9',rfl⟩,g,jj,nt,nh,nk,dx',dy',hd',lx',ly'⟩
  have l4:([V.ref b1,.ref a1,.ref a2,.ref v1]:List V).length=4:=rfl
  exact⟨F',o4,xs',ys',ds',⟨_,_,_,_,rfl⟩,g2.trans (k28.trans g),jj,nt,nh,nk,dx',dy',hd',by omega,by omega⟩
 rintro σ H2 ⟨F2,o2,xs,ys,ds,⟨x6,x7,x8,x9,rfl⟩,g2,j2,mt2,mh2,mk2,dx,dy,hd,lx,ly⟩
 obtain⟨j3,g3⟩:=j2.frz mt2
 have et:=aB (H:=F2) (a:=tl) (o:= .lst ((tld R ws 60).map V.int))
 have mh3:=mh2.up (F':=upd F2 tl (.lst ((tld R ws 60).map V.int))) (by rw[aH (Va nth)];exact mh2.nF)
 have mk3:=mk2.up (F':=upd F2 tl (.lst ((tld R ws 60).map V.int))) (by rw[aH (Va ntk)];exact mk2.nF)
 generalize upd F2 tl _=F3 at j3 g3 et mh3 mk3
 obtain⟨j4,g4⟩:=j3.frz mh3
 have eh:=aB (H:=F3) (a:=hl) (o:= .lst xs)
 have mk4:=mk3.up (F':=upd F3 hl (.lst xs)) (by rw[aH (Va nhk)];exact mk3.nF)
 generalize upd F3 hl _=F4 at j4 g4 eh mk4
 obtain⟨j5,g5⟩:=j4.frz mk4
 have ek:=aB (H:=F4) (a:=kl) (o:= .lst ys)
 generalize upd F4 kl _=F5 at j5 g5 ek
 have k25:=g3.trans (g4.trans g5)
 exact q tl F5 H2 o2 ds (g2.trans k25) j5 (Rst.of (g5 _ _ (g4 _ _ et)) (.inl obt)) (.lst (Vb (Rst.of (g5 _ _ eh) (.inl obh))) (DVs.same (Rst.same k25) dx)) (.lst (Vb (Rst.of ek (.inl obk))) (DVs.same (Rst.same k25) dy)) (pK hd)
variable (ZoL:FB P w K mg base (CX0) 15 "law" Zoj ZoE ["_law_script"] (pJ K))
include ZC Zc2 Zw Zz Zf8 ZD ZK Za Zd0 ZI ZcN Zcv ZdI Z9 Zd Zbg Zbu ZbS Zaa Zcw Zbt ZaI Zc3 Zbv in
theorem ZoI (F0:GFm K mg "law" ZoF Zoj ZoE):type_of% ZoL:=by
 refine fbK ["_law_script","_law_many","_law_votes","_law_choices_here","_law_wrong_here","_law_handed","_law_rails","_law_frame","_law_rail","_law_data","_law_held","_law_kept","_law_told","_law_asked","_law_found","_law_due"] F0 fun H Q nd hr h=>?_
 obtain⟨a,ns,rfl,hS,h63,⟨hT1,hT2,hT3⟩,q⟩:=h
 refine⟨_,(aD (aX (i:=1) nd rfl (Or.inr rfl) (bH cT (cB (aA aG (aA aG (aA aG (aA aG (aA aG (aA aG (aA aG (aA aG aC))))))))) (aQ Zd.1 hr.mo rfl Zd.2.2.2 Zd.2.2.1 Zd.2.1 .nil aM (aA (dv 0) (aA aG (aA aG aC)))) (fun _ _=>rfl))) (aD (aX (i:=2) nd rfl (Or.inl rfl) (bH cT (cB (aA aG (aA aG (aA aG aC)))) (aQ Zd.1 hr.mo rfl Zd.2.2.2 Zd.2.2.1 Zd.2.1 .nil aM (aA (dv 0) (aA aG (aA aG aC)))) (fun _ _=>rfl))) (aD (aX (i:=3) nd rfl (Or.inl rfl) (aQ Zbg.1 hr.mo rfl Zbg.2.2.2 Zbg.2.2.1 Zbg.2.1 .nil aM (aA (dv 0) (aA (dv 1) aC)))) (aD (aX (i:=4) nd rfl (Or.inl rfl) (aQ ZbS.1 hr.mo rfl ZbS.2.2.2 ZbS.2.2.1 ZbS.2.1 .nil aM (aA (dv 0) (aA (dv 1) aC)))) (aD (aX (i:=5) nd rfl (Or.inl rfl) (cH dF rfl ZK eN (aA (dv 3) aC))) (aD (aX (i:=6) nd rfl (Or.inl rfl) (cB (aA (cJ Zd0 Zcv.1 hr.mo rfl Zz Zcv.2 .nil aM (aA (dv 5) (aA (dv 2) aC))) (aA (cJ Zd0 Zcv.1 hr.mo rfl Zz Zcv.2 .nil aM (aA (cH dF rfl ZK eN (aA (dv 3) aC)) (aA (dv 2) aC))) aC)))) (aD (bM (bA (b6K hr.units) (dv 5) (dv 3) (aV _)) (aF (aN fQ)) aU) (aD (aW (wO (dv 5))) (aD (dH YF rfl (cY (aQ Zbu.1 hr.mo rfl Zbu.2.2.2 Zbu.2.2.1 Zbu.2.1 .nil aM (aA (dv 0) (aA (dv 1) (aA aG aC))))) (cL (i:=7) nd rfl (Or.inl rfl)) (aF (dH YF rfl (cY (dv 6)) (cL (i:=8) nd rfl (Or.inl rfl)) (aD (aX (i:=9) nd rfl (Or.inl rfl) (cH dF rfl ZK eN (aA (bH fK (dv 7) aG (fun _ _=>rfl)) aC))) (aD (aW (bB Za ZcN ZdI.1 hr.mo ZdI.2 .nil aM (dv 8) (aA (bH fK (dv 7) aG (fun _ _=>rfl)) (aA (bH fK (dv 7) aG (fun _ _=>rfl)) (aA (dv 9) aC))))) (aF (aW (bR (dv 9) (aA aG aC))))))))) (aD (aX (i:=10) nd rfl (Or.inl rfl) (cB aC)) (aD (aX (i:=11) nd rfl (Or.inl rfl) (cB aC)) (aD (aX (i:=12) nd rfl (Or.inr rfl) (aQ Zbv.1 hr.mo rfl Zbv.2.2.2 Zbv.2.2.1 Zbv.2.1 .nil aM (aA (bH cT (dv 6) aG (fun _ _=>rfl)) (aA (dv 1) (aA (dv 4) (aA (dv 10) (aA (dv 11) aC))))))) (aD (bM (PW.pt (iK (dY (bV (aQ Zaa.1 hr.mo rfl Zaa.2.2.2 Zaa.2.2.1 Zaa.2.1 .nil aM (aA (dv 12) (aA aG aC))))) (iK (bA (a3W hr.units) (dv 12) (bD Za ZI Z9.1 hr.mo Z9.2 .nil aM (bH cT (dv 6) aG (fun _ _=>rfl))) (aV _)) (jT (dY (bV (aQ Zcw.1 hr.mo rfl Zcw.2.2.2 Zcw.2.2.1 Zcw.2.1 .nil aM (aA (bH cT (dv 6) aG (fun _ _=>rfl)) (aA (dv 1) (aA (dv 4) aC)))))))))) (aF (aN fQ)) aU) (aD (aX (i:=13) nd rfl (Or.inl rfl) (cB aC)) (aD (aX (i:=14) nd rfl (Or.inl rfl) (aQ Zc3.1 hr.mo rfl Zc3.2.2.2 Zc3.2.2.1 Zc3.2.1 .nil aM (aA (bH cT (dv 6) aG (fun _ _=>rfl)) (aA (dv 1) (aA (dv 4) (aA (dv 13) aC)))))) (aD (bM (PW.pt (iK (dY (bV (aQ Zaa.1 hr.mo rfl Zaa.2.2.2 Zaa.2.2.1 Zaa.2.1 .nil aM (aA (dv 14) (aA aG aC))))) (iK (bA (a3W hr.units) (dv 14) (dv 12) (aV _)) (jT (dY (bV (aQ Zbt.1 hr.mo rfl Zbt.2.2.2 Zbt.2.2.1 Zbt.2.1 .nil aM (aA (bH cT (dv 6) aG (fun _ _=>rfl)) (aA (dv 1) (aA aG aC)))))))))) (aF (aN fQ)) aU) (aD (iB (j:=15) nd rfl rfl rfl (ix:=[1,12]) (cO rfl ZD (aA (aZ oU aG (dv 1)) aC)) (fun C fp s0 H0 at0=>eV) (fun C fp s0 H0 at0=>(bN (aA (aZ oW (dv 0) (dv 1)) (aA (aZ dN aG (aZ xY (dv 0) (dv 1))) (aA (bH (a3Z (K:=K)) (dv 2) (aZ dN aG (aZ xY (dv 0) (dv 1))) (fun _ _=>rfl)) aC))))) rfl rfl (by rfl) (show ([".0","_law_k","_law_many","_law_told"]:List Str).Nodup by decide +kernel)) (aF (aN (uE (dG (a4B hr.units) (dv 13) (dv 15) (aV _)) (uE (dG (a4B hr.units) (aQ ZaI.1 hr.mo rfl ZaI.2.2.2 ZaI.2.2.1 ZaI.2.1 .nil aM (aA (bH cT (dv 6) aG (fun _ _=>rfl)) (aA (dv 1) aC))) (aQ ZaI.1 hr.mo rfl ZaI.2.2.2 ZaI.2.2.1 ZaI.2.1 .nil aM (aA (bH cT (dv 6) aG (fun _ _=>rfl)) (aA (dv 1) aC))) (aV _)) (yV (dG (a4B hr.units) (dv 10) (dv 11) (aV _)))))))))))))))))))))))),?_⟩
 refine⟨aL rfl,fun l0 hl0=>?_⟩
 generalize eU:upd H l0 _=H0
 have g0:=nS hl0 eU
 have el0:=nE eU
 clear eU
 refine⟨a,ns,0,8,rfl,g0.seq hS,h63,by decide,by decide,by decide,fun z z0 z1=>?_⟩
 obtain⟨m,hm,m1,m5⟩:∃m:Nat,atI [V.int 1,V.int 2,V.int 2,V.int 2,V.int 3,V.int 3,V.int 4,V.int 5] z=some (V.int ((m:Nat):Int))/\1<=m/\m<=5:=by
  rcases (by omega:z=0\/z=1\/z=2\/z=3\/z=4\/z=5\/z=6\/z=7) with rfl | rfl | rfl | rfl | rfl | rfl | rfl | rfl
  ·exact⟨1,rfl,by decide,by decide⟩
  ·exact⟨2,rfl,by decide,by decide⟩
  ·exact⟨2,rfl,by decide,by decide⟩
  ·exact⟨2,rfl,by decide,by decide⟩
  ·exact⟨3,rfl,by decide,by decide⟩
  ·exact⟨3,rfl,by decide,by decide⟩
  ·exact⟨4,rfl,by decide,by decide⟩
  ·exact⟨5,rfl,by decide,by decide⟩
 refine⟨_,.int ((m:Nat):Int),Vb el0,hm,?_⟩
 refine⟨aL rfl,fun l1 hl1=>?_⟩
 generalize eU:upd H0 l1 _=H1
 have g1:=nS hl1 eU
 have el1:=nE eU
 clear eU
 have g01:=g0.trans g1
 refine⟨a,ns,1,3,rfl,g01.seq hS,h63,by decide,by decide,by decide,fun y y0 y1=>?_⟩
 obtain⟨v,hv,v135⟩:∃v:Int,atI [V.int 1,V.int 3,V.int 5] y=some (V.int v)/\(v=1\/v=3\/v=5):=by
  rcases (by omega:y=0\/y=1\/y=2) with rfl | rfl | rfl
  ·exact⟨1,rfl,by omega⟩
  ·exact⟨3,rfl,by omega⟩
  ·exact⟨5,rfl,by omega⟩
 refine⟨_,.int v,Vb el1,hv,?_⟩
 refine⟨a,ns,m,rfl,g01.seq hS,h63,m5,fun cl cs H2 hcl g2 hCh lcs hcb=>?_⟩
 have g02:=g01.trans g2
 refine⟨a,ns,m,rfl,g02.seq hS,h63,m1,m5,fun wl as ws H3 hwl g3 hW hw lws=>?_⟩
 have g03:=g02.trans g3
 have hC3:=hCh.keep fun x u _ e=>g3 x u e
 obtain⟨ts0,ec0,lt0,tp0⟩:=id hC3
 refine⟨_,.inl (Vb ec0),fun hd hhd=>?_⟩
 generalize eU:upd H3 hd _=H4
 have g4:=nS hhd eU
 have ehd:=nE eU
 clear eU
 have hC4:iI H4 cl cs:=hC3.keep fun x u _ e=>g4 x u e
 have hD4:iI H4 hd cs:=⟨ts0,ehd,lt0,fun i t c h1 h2=>g4 _ _ (tp0 i t c h1 h2)⟩
 have okc:(1<=cs.length/\cs.length<=5)/\∀c∈cs,a3U c.1 c.2 v:=⟨by omega,fun c hc=>⟨(hcb c hc).1,(hcb c hc).2,v135⟩⟩
 have c5:cs.length<=500:=by omega
 have kC:∀{G:Hp}{l r dr:Addr}{u1 u2:HO},iI G l cs->G r=none->G dr=none->iI (upd (upd G dr u1) r u2) l cs:=fun {G l r dr u1 u2} h hr hdr=>h.keep fun x u _ e=>by rw[aH (aJ e hr),aH (aJ e hdr)];exact e
 refine fun rA drA hrA hdrA hneA=>⟨rA,drA,hd,_,cs,rfl,aB,kC hD4 hrA hdrA,c5,fun _ H5 oA hRA hinA hkA=>⟨rfl,?_⟩,fun no=>absurd okc no⟩
 obtain⟨noA,g5⟩:=wR hrA hdrA hinA hkA
 have hC5:iI H5 cl cs:=hC4.keep fun x u _ e=>g5 x u e
 obtain⟨ts1,ec1,lt1,tp1⟩:=id hC5
 refine⟨_,.inl (Vb ec1),fun cp hcp=>?_⟩
 generalize eU:upd H5 cp _=H6
 have g6:=nS hcp eU
 have ecp:=nE eU
 clear eU
 have hP6:iI H6 cp cs:=⟨ts1,ecp,lt1,fun i t c h1 h2=>g6 _ _ (tp1 i t c h1 h2)⟩
 refine fun rB drB hrB hdrB hneB=>⟨rB,drB,cp,_,cs,rfl,aB,kC hP6 hrB hdrB,c5,fun _ H7 oB hRB hinB hkB=>⟨rfl,?_⟩,fun no=>absurd okc no⟩
 obtain⟨noB,g7⟩:=wR hrB hdrB hinB hkB
 refine⟨aL rfl,fun rl hrl=>?_⟩
 generalize eU:upd H7 rl _=H8
 have g8:=nS hrl eU
 have erl:=nE eU
 clear eU
 have k58:=g6.trans (g7.trans g8)
 have k48:=g5.trans k58
 have djAB:∀x,oA x->¬ oB x:=fun x ha hb=>by
  obtain⟨w,h⟩:=hRA
  exact h.al x ha (g6.none (noB x hb))
 have hA8:=bK.same51 hRA k58
 have hB8:=bK.same51 hRB g8
 have hD8:iI H8 hd cs:=hD4.keep fun x u _ e=>k48 x u e
 have hC8:iI H8 cl cs:=hC4.keep fun x u _ e=>k48 x u e
 refine⟨_,iI.dv hD8,iI.dv hC8,a2J cs,?_⟩
 conv=>whnf
 have nA4:∀{x u},H4 x=some u->¬ oA x:=fun {x u} e z=>by rw[noA x z]at e;cases e
 have nB6:∀{x u},H6 x=some u->¬ oB x:=fun {x u} e z=>by rw[noB x z]at e;cases e
 have nB4:∀{x u},H4 x=some u->¬ oB x:=fun {x u} e=>nB6 (g6 _ _ (g5 _ _ e))
 refine⟨_,k48 _ _ ehd,?_⟩
 have kx:∀{x u},H8 x=some u->x≠hd->upd H8 hd (.lst []) x=some u:=fun {x u} e n=>by rw[aH n];exact e
 have mvx:∀{r:Addr}{o:Own},bK Zg CA H8 r (R0 cs v) o->¬ o hd->bK Zg CA (upd H8 hd (.lst [])) r (R0 cs v) o:=fun {r o} ⟨w,x⟩ n=>⟨w,x.move fun y u e z=>kx e fun q=>by
  subst q
  rcases z with z | ⟨vs,rfl⟩
  ·exact n z
  ·rw[k48 _ _ ehd]at e;cases e⟩
 have hA9:=mvx hA8 (nA4 ehd)
 have hB9:=mvx hB8 (nB4 ehd)
 have erl9:upd H8 hd (.lst []) rl=some (.lst [.ref rA,.ref rB]):=kx erl fun z=>by rw[z,g7 _ _ (g6 _ _ (g5 _ _ ehd))]at hrl;cases hrl
 have nArl:¬ oA rl:=fun z=>by obtain⟨w,h⟩:=bK.same51 hRA (g6.trans g7);exact h.al _ z hrl
 have nBrl:¬ oB rl:=fun z=>by obtain⟨w,h⟩:=hRB;exact h.al _ z hrl
 have k39:∀{x u},H3 x=some u->upd H8 hd (.lst []) x=some u:=fun {x u} e=>kx (k48 _ _ (g4 _ _ e)) fun z=>by rw[z,hhd]at e;cases e
 have n3:∀{x u},H3 x=some u->¬ oA x/\¬ oB x:=fun {x u} e=>⟨nA4 (g4 _ _ e),nB4 (g4 _ _ e)⟩
 generalize upd H8 hd (.lst [])=H9 at hA9 hB9 erl9 k39
 have s9:∀{x u},H x=some u->H9 x=some u:=fun {x u} e=>k39 (g03 _ _ e)
 have sq9:SqL K H9 a (ns.map V.int):=Same.seq (fun x u e=>s9 e) hS
 refine⟨a,ns,m,rfl,sq9,h63,m1,m5,fun fl ts fs H10 hfl gF efl lts hts hF n5=>?_⟩
 have hA10:=bK.same51 hA9 gF
 have hB10:=bK.same51 hB9 gF
 have n9:∀{x},H9 x=none->¬ oA x/\¬ oB x:=fun {x} e=>⟨fun z=>by obtain⟨w,h⟩:=hA9;exact h.al _ z e,fun z=>by obtain⟨w,h⟩:=hB9;exact h.al _ z e⟩
 obtain⟨F,j0,hF0,hFT⟩:=J2.mk51 hA10 hB10 djAB
 have inF:∀{x u},H3 x=some u->F x=some u:=fun {x u} e=>hF0 _ _ (gF _ _ (k39 e)) (n3 e).1 (n3 e).2
 have erlF:F rl=some (.lst [.ref rA,.ref rB]):=hF0 _ _ (gF _ _ erl9) nArl nBrl
 have hFF:c1G F fl ts fs:=⟨hF0 _ _ efl (n9 hfl).1 (n9 hfl).2,lts,fun i t f h1 h2=>let ⟨d,a1,a2,a3⟩:=hts i t f h1 h2;⟨d,hFT _ _ a2,hF0 _ _ a3 (n9 a1).1 (n9 a1).2⟩⟩
 have hWF:vH F wl as ws:=⟨inF hW.at_,hW.ln,fun i a w x y=>inF (hW.row i a w x y)⟩
 have tF1:F 958=some (.tbl #[]):=inF (g03 _ _ hT1)
 have tF2:F 1073=some (.tbl #[]):=inF (g03 _ _ hT2)
 have tF3:F 1134=some (.tbl #[]):=inF (g03 _ _ hT3)
 have hd0:=a0B.start (v:=v) lcs (a4F hA10)
 generalize R0 cs v=Rz at j0 hd0
 refine⟨⟨_,Vb (j0.sm _ _ hFF.at_)⟩,eO (xs:=ts.map V.ref) (fun i σ H'=>(∃x7 x8 x9,σ= [some (.ref a),some (.int ((m:Nat):Int)),some (.int v),some (.ref cl),some (.ref wl),some (.ref hd),some (.ref rl),x7,x8,x9,none,none,none,none,none,none])/\∃(R:RS)(oA oB:Own),J2 Zg CA F H' rA R oA rB R oB/\a0B m i R) ⟨⟨_,_,_,rfl⟩,Rz,oA,oB,j0,hd0⟩ ?_ ?_ ?_⟩
 ·rintro i σ H' hi ⟨_,R1,o1,o2,j1,_⟩
  exact Vb (j1.sm _ _ hFF.at_)
 ·rintro i y σ H' hx ⟨⟨x7,x8,x9,rfl⟩,R1,o1,o2,j1,hd1⟩
  rw[Yl]at hx
  obtain⟨tt,htt,rfl⟩:=YM.mp hx
  have hil:i<fs.length:=by rw[<-lts];exact(Yd.mp htt).1
  obtain⟨f1,ef1⟩:∃f,fs[i]? =some f:=⟨_,Yb hil⟩
  obtain⟨d,k1,k2⟩:=hFF.tp i tt f1 htt ef1
  obtain⟨fp,fn,fl1,fb⟩:=hF f1 (Yi ef1)
  have fpm:f1.1<m:=by rw[fp];exact Nat.mod_lt _ (by omega)
  obtain⟨S1,eS1⟩:∃S,R1.ps[f1.1]? =some S:=⟨_,Yb (by rw[hd1.I.ln];exact fpm)⟩
  refine⟨⟨_,Vb (j1.sm _ _ erlF)⟩,eO (xs:=[.ref rA,.ref rB]) (fun j σ H'=>(∃x8 x9,σ= [some (.ref a),some (.int ((m:Nat):Int)),some (.int v),some (.ref cl),some (.ref wl),some (.ref hd),some (.ref rl),some (.ref tt),x8,x9,none,none,none,none,none,none])/\∃(oA oB:Own),J2 Zg CA F H' rA (if 1<=j then iZ R1 f1 S1 else R1) oA rB (if 2<=j then iZ R1 f1 S1 else R1) oB) ⟨⟨_,_,rfl⟩,o1,o2,by simpa using j1⟩ ?_ ?_ ?_⟩
  ·rintro j σ H' hj ⟨_,o1,o2,j1⟩
   exact Vb (j1.sm _ _ erlF)
  ·rintro j y σ H2 hy ⟨⟨x8,x9,rfl⟩,o1,o2,j2⟩
   obtain⟨r,oX,r',R',oY,rfl,jx,back⟩:∃(r:Addr)(oX:Own)(r':Addr)(R':RS)(oY:Own),y= .ref r/\J2 Zg CA F H2 r R1 oX r' R' oY/\∀(H3:Hp)(oX':Own),J2 Zg CA F H3 r (iZ R1 f1 S1) oX' r' R' oY->∃(oA oB:Own),J2 Zg CA F H3 rA (if 1<=j+1 then iZ R1 f1 S1 else R1) oA rB (if 2<=j+1 then iZ R1 f1 S1 else R1) oB:=by
    rcases j with _ | j
    ·cases hy
     exact⟨rA,o1,rB,R1,o2,rfl,by simpa using j2,fun H3 oX' h=>⟨oX',o2,by simpa using h⟩⟩
    rcases j with _ | j
    ·cases hy
     have j2':J2 Zg CA F H2 rA (iZ R1 f1 S1) o1 rB R1 o2:=by simpa using j2
     exact⟨rB,o2,rA,iZ R1 f1 S1,o1,rfl,j2'.symm,fun H3 oX' h=>⟨o1,oX',by simpa using h.symm⟩⟩
    ·cases hy
   have k1':=jx.sm _ _ k1
   have k2':=jx.sm _ _ k2
   refine⟨_,.ref d,Vc k1',rfl,_,.inl (Vb k2'),fun l hl=>?_⟩
   have gl:=aK hl (.lst (f1.2.2.map V.int))
   have el:=aB (H:=H2) (a:=l) (o:= .lst (f1.2.2.map V.int))
   have nlF:F l=none:=by
    cases e:F l with
    |none=>rfl
    |some u=>rw[jx.sm _ _ e]at hl;cases hl
   have nlX:¬ oX l:=fun z=>by obtain⟨w,h⟩:=jx.a;exact h.al _ z hl
   have nlY:¬ oY l:=fun z=>by obtain⟨w,h⟩:=jx.b;exact h.al _ z hl
   have j3:=jx.same gl
   generalize upd H2 l _=H3 at gl el j3
   obtain⟨w3,hR3⟩:=j3.a
   refine⟨⟨w3.dx,_,hR3.er,rfl⟩,_,_,Vc (gl _ _ k1'),rfl,_,_,Vc (gl _ _ k1'),rfl,r,R1,oX,w3,_,_,l,f1.2.2,rfl,hR3,Vb el,by omega,by have:=hd1.ol;omega,fun S hS=>by have:=hd1.wt S hS;omega,fun no=>absurd ⟨by omega,by rw[hd1.I.ln];omega⟩ no,fun _ no=>absurd (FrN.ok (f:=f1.2) ⟨fn,by omega,fb⟩) no,fun i' S ei eS _=>?_⟩
   have ei':i'=f1.1:=by omega
   subst ei'
   rw[eS1]at eS
   cases eS
   refine⟨((f1.1:Nat):Int),?_,fun no=>absurd rfl no,fun _ H4 oX' hR4 m4=>?_⟩
   ·cases e:gZ R1.ow (.inl ((f1.2.1:Nat):Int)) with
    |none=>rfl
    |some u=>rw[hd1.ow _ u e,<-fp];rfl
   rw[YR]at hR4
   have j4:J2 Zg CA F H4 r (iZ R1 f1 S1) oX' r' R' oY:=j3.mv hR4 m4
   have el4:=m4.1 _ _ el (.inl nlX)
   have nl4:¬ oX' l:=m4.out el nlX
   exact⟨⟨_,Vb el4⟩,_,el4,bI (by rw[Ya];omega),⟨_,_,rfl⟩,back _ oX' (j4.put el4 nl4 nlY nlF _)⟩
  rintro σ H2 ⟨⟨x8,x9,rfl⟩,o1,o2,j2⟩
  have j3:J2 Zg CA F H2 rA (iZ R1 f1 S1) o1 rB (iZ R1 f1 S1) o2:=by simpa using j2
  exact⟨⟨_,_,_,rfl⟩,iZ R1 f1 S1,o1,o2,j3,hd1.hand (by omega) eS1 fp (a4F j3.a)⟩
 rintro σ H11 ⟨⟨x7,x8,x9,rfl⟩,R,oA,oB,j,hdd⟩
 have hI:=hdd.I
 have nT:∀{P:Addr},F P=some (.tbl #[])->¬ oA P/\¬ oB P:=fun {P} e=>⟨(j.kp _ _ e).2.1.resolve_right fun ⟨_,z⟩=>(by cases z),(j.kp _ _ e).2.2.resolve_right fun ⟨_,z⟩=>(by cases z)⟩
 obtain⟨F1,J1,hB1,sF1,_⟩:=j.one (j.sm _ _ tF1) (nT tF1).1 (nT tF1).2
 have sL:∀{x vs},F x=some (.lst vs)->F1 x=some (.lst vs):=fun {x vs} e=>sF1 _ _ e fun z=>by rw[z,tF1]at e;cases e
 have erl1:=sL erlF
 have hW1:vH F1 wl as ws:=⟨sL hWF.at_,hWF.ln,fun i a w x y=>sL (hWF.row i a w x y)⟩
 have tE1:=sF1 _ _ tF2 (by decide)
 have tR1:=sF1 _ _ tF3 (by decide)
 have nBrl:¬ oB rl:=(j.kp _ _ erlF).2.2.resolve_right fun ⟨_,z⟩=>by cases z
 have nBw:∀{x vs},F x=some (.lst vs)->¬ oB x:=fun {x vs} e=>(j.kp _ _ e).2.2.resolve_right fun ⟨_,z⟩=>by cases z
 obtain⟨wb1,hb1⟩:=id hB1
 refine⟨aL rfl,fun hl hhl=>?_⟩
 obtain⟨J2',mh⟩:=J1.new (vs:=[]) hhl
 generalize upd H11 hl _=H12 at J2' mh
 refine⟨aL rfl,fun kl hkl=>?_⟩
 obtain⟨J3,mk⟩:=J2'.new (vs:=[]) hkl
 have mh3:=mh.same (aK hkl (.lst []))
 have nhk:=aJ mh.at_ hkl
 generalize upd H12 kl _=H13 at J3 mk mh3
 refine⟨_,V.ref rA,Vb (J3.sm _ _ erl1),rfl,rA,F1,R,oA,m,wl,hl,kl,as,ws,fun x=>oB x\/x=1073\/x=1134,rfl,J3,mh3,mk,nhk,hW1,lws,hw,hI,m1,m5,fun x hx=>?_,fun l F2 H14 oA3 ds gF2 J4 eG dh dk sh=>?_⟩
 ·rcases hx with z | rfl | rfl
  ·exact hb1.al x z
  ·rw[tE1];simp
  ·rw[tR1];simp
 have ne60:(tld R ws 60).length=60:=by unfold tld;rw[Ya,YK]
 have hI60:I51 m 60 ws (cA R ws 60):=by
  have:=vZ (ws:=ws) hI m1 m5 60 (by omega)
  rw[Ys (by omega)]at this
  exact this
 have bo60:(cA R ws 60).bo=tld R ws 60:=a8Q (List.length_eq_zero_iff.mp hI.bo) 60
 have bits60:bU (tld R ws 60):=bo60▸hI60.bb
 have eF2:=(Rst.to eG).1
 have erl2:=gF2 _ _ erl1
 have hW2:=hW1.same gF2
 refine⟨l,tld R ws 60,60,rfl,J4.sm _ _ eF2,ne60,bits60,fun H15 g15=>?_⟩
 conv=>whnf
 have J5:=J4.same g15
 obtain⟨w5,hR5⟩:=J5.rl
 refine⟨_,V.ref rA,Vb (J5.sm _ _ erl2),rfl,⟨w5.dx,_,hR5.er,rfl⟩,rA,cA R ws 60,oA3,w5,rfl,hR5,fun b hb=>?_⟩
 generalize eU:upd H15 b _=H16
 have g16:=nS hb eU
 have eb:=nE eU
 clear eU
 rw[bo60]at eb
 have J6:=J5.same g16
 refine⟨_,_,Vb (J6.sm _ _ eF2),Vb eb,qT rfl ?_⟩
 obtain⟨w6,hR6⟩:=J6.rl
 refine⟨_,V.ref rA,Vb (J6.sm _ _ erl2),rfl,rA,cA R ws 60,oA3,w6,m,wl,as,ws,rfl,hR6,hI60,hW2.same J6.sm,m1,m5,fun H17 g17=>?_⟩
 conv=>whnf
 have J7:=J6.same g17
 refine⟨aL rfl,fun al hal=>?_⟩
 have g18:=aK hal (.lst [])
 have eal:=aB (H:=H17) (a:=al) (o:= .lst [])
 have nAal:¬ oA3 al:=fun z=>by obtain⟨w,h⟩:=J7.rl;exact h.al _ z hal
 have nBal:¬ oB al:=fun z=>by obtain⟨w,h⟩:=bK.same51 (bK.same51 hB1 gF2) J7.sm;exact h.al _ z hal
 have F2al:F2 al=none:=by
  cases e:F2 al with
  |none=>rfl
  |some u=>rw[J7.sm _ _ e]at hal;cases hal
 generalize upd H17 al _=H18 at g18 eal
 have J8:=J7.same g18
 obtain⟨wB,hRB⟩:=bK.same51 (bK.same51 hB1 gF2) J8.sm
 have tE2:=gF2 _ _ tE1
 have tR2:=gF2 _ _ tR1
 refine⟨_,V.ref rB,Vb (J8.sm _ _ erl2),rfl,rB,R,oB,wB,m,wl,al,as,ws,rfl,hRB,hI,hW2.same J8.sm,lws,hw,eal,nBal,J8.sm _ _ tE2,(nT tF2).2,J8.sm _ _ tR2,(nT tF3).2,m1,m5,fun l2 H19 oB3 av hRB3 fr eal3 ask el2=>?_⟩
 have nEp:∀{x u},F2 x=some u->(¬ (oB x\/x=1073\/x=1134)\/isT u)->x≠1073/\x≠1134/\x≠al:=fun {x u} e n=>by
  refine⟨fun z=>?_,fun z=>?_,fun z=>?_⟩
  ·rcases n with n | ⟨vs,rfl⟩
   ·exact n (.inr (.inl z))
   ·rw[z,tE2]at e;cases e
  ·rcases n with n | ⟨vs,rfl⟩
   ·exact n (.inr (.inr z))
   ·rw[z,tR2]at e;cases e
  ·rw[z,F2al]at e;cases e
 have gG:Same (Rst (fun x=>oB x\/x=1073\/x=1134) F2) H19:=fun x u e=>by
  obtain⟨e1,e2⟩:=Rst.to e
  obtain⟨n1,n2,n3⟩:=nEp e1 e2
  exact fr x u (J8.sm _ _ e1) (e2.imp (fun n z=>n (.inl z)) id) n1 n2 n3
 have hRA :bK Zg CA H19 rA (cA R ws 60) oA3:=by
  obtain⟨wA,hA⟩:=J8.rl
  have nA:∀{P:Addr},F2 P=some (.tbl #[])->¬ oA3 P:=fun {P} e=>(J8.kp _ _ e).2.1.resolve_right fun ⟨_,z⟩=>by cases z
  refine⟨wA,hA.move fun x u e z=>fr x u e ?_ (fun y=>?_) (fun y=>?_) fun y=>?_⟩
  ·by_cases c:oB x
   ·refine .inr ?_
    cases y:F1 x with
    |none=>exact absurd y (hb1.al x c)
    | some u'=>
     have k:=J8.kp x u' (gF2 _ _ y)
     rw[e]at k
     cases k.1
     exact z.elim (fun z=>k.2.1.resolve_left fun n=>n z) id
   ·exact .inl c
  ·rcases z with z | ⟨vs,rfl⟩
   ·exact nA tE2 (y▸z)
   ·rw[y,J8.sm _ _ tE2]at e;cases e
  ·rcases z with z | ⟨vs,rfl⟩
   ·exact nA tR2 (y▸z)
   ·rw[y,J8.sm _ _ tR2]at e;cases e
  ·rcases z with z | ⟨vs,rfl⟩
   ·exact nAal (y▸z)
   ·rw[y,eal]at e;cases e
 have inG:∀{x vs},F2 x=some (.lst vs)->¬ oB x->H19 x=some (.lst vs):=fun {x vs} e n=>gG _ _ (Rst.of e (.inl fun z=>by
  rcases z with z | z | z
  ·exact n z
  ·rw[z,tE2]at e;cases e
  ·rw[z,tR2]at e;cases e))
 have erl19:=inG erl2 nBrl
 have et19:=gG _ _ eG
 refine⟨l2,tld R ws 60,60,rfl,el2,ne60,bits60,fun H20 g20=>?_⟩
 conv=>whnf
 refine⟨_,_,Vb (g20 _ _ el2),Vb (g20 _ _ et19),qT rfl ?_⟩
 obtain⟨wA,hA20⟩:=bK.same51 hRA g20
 refine⟨_,V.ref rA,Vb (g20 _ _ erl19),rfl,rA,cA R ws 60,oA3,wA,m,rfl,hA20,hI60.ev,fun H21 g21=>?_⟩
 conv=>whnf
 have k21:=g20.trans g21
 have e25:(25:Int)*((m:Nat):Int)=((25*m:Nat):Int):=by omega
 refine⟨⟨by decide,kW (by omega) (by omega)⟩,⟨(by show -2 ^ 62<=(25:Int)*((m:Nat):Int);omega),(by show (25:Int)*((m:Nat):Int)<2 ^ 62;omega)⟩,?_⟩
 rw[show ((25:Int)*((m:Nat):Int)).toNat=25*m by omega]
 refine gO (lo:=0) (n:=25*m) (fun j ys H'=>Same H21 H'/\gY H' ys ((List.range j).map (vC R ws m))) ?_ ?_ ?_ ?_
 ·rintro j ys H' hj ⟨_,ak⟩
  have:=ak.len
  rw[Ya,YK]at this
  exact bI (by omega)
 ·exact⟨Vd _,.nil⟩
 ·rintro k ys H' hk ⟨g,ak⟩
  rw[Y8]
  conv=>whnf
  have km:k / m<25:=Nat.div_lt_of_lt_mul (by rw[Nat.mul_comm];exact hk)
  refine⟨by omega,⟨by omega,by omega⟩,⟨by omega,by omega⟩,_,.int (iH (cA R ws (20+k / m))),Vb (g _ _ (k21 _ _ et19)),?_,aL rfl,fun t ht=>?_⟩
  ·have:=xP (w:=tld R ws 60) (i:=20+k / m) (by rw[ne60];omega)
   have e:(tld R ws 60).getD (20+k / m) 0=iH (cA R ws (20+k / m)):=by
    unfold tld
    rw[Yn,Yl,XW (by omega)]
    rfl
   rw[e]at this
   exact this
  generalize eU:upd H' t _=H2
  have g2:Same H' H2:=by rw[<-eU];exact aK ht _
  have et:H2 t=some (.tup [.int (vC R ws m k).1,.int (vC R ws m k).2.1,.int (vC R ws m k).2.2]):=by rw[<-eU];exact aB
  refine⟨g.trans g2,?_⟩
  rw[Xr,Yk]
  exact(ak.imp fun x xs z=>g2 _ _ z).snoc et
 rintro ys H22 ⟨g22,ak⟩ dl hdl
 generalize eU:upd H22 dl _=H23
 have g23:=nS hdl eU
 have edl:=nE eU
 clear eU
 have k23:=k21.trans (g22.trans g23)
 refine⟨_,.lst (Vb (k23 _ _ eal3)) (ask.imp fun x xs z=>k23 _ _ z).dvs,.lst (Vb edl) (ak.imp fun x xs z=>g23 _ _ z).dvs,yP _,?_⟩
 conv=>whnf
 obtain⟨wA3,hA23⟩:=bK.same51 hRA k23
 refine⟨_,V.ref rA,Vb (k23 _ _ erl19),rfl,rA,cA R ws 60,oA3,wA3,m,ws,rfl,hA23,hI60,m1,m5,fun p1 xs1 H24 _ g24 ep1 dv1=>?_⟩
 have k24:=k23.trans g24
 obtain⟨wB4,hB24⟩:=bK.same51 hRB3 k24
 refine⟨_,V.ref rB,Vb (k24 _ _ erl19),rfl,rB,cA R ws 60,oB3,wB4,m,ws,rfl,hB24,hI60,m1,m5,fun p2 xs2 H25 _ g25 ep2 dv2=>?_⟩
 have k25:=k24.trans g25
 refine⟨_,.lst (Vb (g25 _ _ ep1)) (DVs.same g25 dv1),.lst (Vb ep2) dv2,pK (rW (fun e he=>(hI60.ev.ok e he).2.2.1) m),?_⟩
 conv=>whnf
 exact⟨_,DV.same (gG.trans k25) dh,DV.same (gG.trans k25) dk,sh,q _⟩
set_option maxHeartbeats 0 in
include ZcH ZaP Zek ZV Zmx ZbX Zel ZeP Zfa ZC Zfz ZfA Zbc Zd1 ZbY Zdc ZdB Zd2 Zfc ZfS Zcj ZeM Zhl Zmy ZdA Zfy Zcy Zc2 Zw Zi4 Zep ZeL Zdp ZbZ ZeO ZdN ZeN ZfT Zfx ZfB Zz Zfb Zku Zf8 ZD Zmz ZK ZL ZmA Zhm ZfC Zdb ZaK Zf9 ZmB Zi5 Zej Ze7 Zj Zi Zm ZbI Zh Zaw Ze Zei Zx Zk Zu Zn Zp ZH ZA Zb Zbe ZaF ZeK Za8 ZaJ ZbH ZaV ZbG Zdz Zde Za7 Za Ze8 Zd0 Z2 ZJ Za1 ZbA Zbl Zbd Za2 ZaO Zat Z4 ZY Zbq ZbK Zay Ze9 Zax Zb7 Za9 Za3 Zbs Zan Zbk Zbb ZaM Za0 ZbN ZbO Zcn ZaZ ZbM Zbj Zba Zco ZbR Zcf ZbL Zbr ZbB Zcg ZcJ Zch Zcr Zb8 Zbx ZbP Zct Zc7 ZcI Zci Zcs Zb9 Zby ZbQ Zcu Zc8 Zc ZcK ZcM ZcL Zal Zcb Zcp Zc9 Zca ZI Zab Z5 ZaG ZX Zda Zcq Zce Zcd Zbz Zcc Zbi ZcO ZcN ZdM Zav Zy ZG Zt ZQ Zr ZO ZR Z1 Zv Zae Zah Zs ZaH ZN ZW Zaf Z7 Zl Zo ZaN ZS Zag ZU ZP Zau ZB Z6 Z0 ZZ Zi3 Zf7 Zhk in
theorem all_mk {l:W.OpenLaw}{fa:Addr}(hfa:mg "law"=some (.ref fa))
 :GF K mg "heard_well" ZiZ Za6->GF K mg "bits_of" ZlD Zif->GF K mg "number_of" ZjU ZgE->GF K mg "are_bytes" ZjS ZgC->GF K mg "divided" ZlE Zig->GF K mg "rest_of" ZlG Zii->GF K mg "check_of" ZkP Zhh->GF K mg "is_name" ZlF Zih->GF K mg "put_in" Znp Zj3->GF K mg "check_frame" Zia ZfI->GF K mg "frame_bits" ZiY ZfX->GF K mg "wire_of" ZlH Zij->GF K mg "told_size" ZjV ZgF->GF K mg "is_complete" Zic ZfK->GF K mg "read_frame" Zi0 ZfY->GF K mg "begun_reader" Zha Zfh->GF K mg "is_wanted" ZjT ZgD->GF K mg "copies" Zno Zj2->GF K mg "unless_off" Zi2 Zf0->GF K mg "fault_of" ZkQ Zhi->GF K mg "refusal_of" Zi1 ZfZ->GF K mg "blame_of" ZkO Zhg->GF K mg "check_votes" Zib ZfJ->GF K mg "check_choice" Zhb Zfi->GFc K mg "ear" Zi6 Zoi 1077->GF K mg "_law_draw" ZjQ ZgA->GF K mg "_law_choices" Zg9 Zfg->GF K mg "_law_frames" Zh8 ZfG->GF K mg "_law_wrong" ZiX ZfW->GF K mg "_law_bits" ZjP Zgz->GF K mg "_law_tape" ZjR ZgB->GF K mg "_law_events" Zh7 ZfF->GF K mg "_law_whole" ZiW ZfV->GFc K mg "_law_ran" ZfU Zhf 1138->GF K mg "_law_turned" Zh9 ZfH->GF K mg "law" ZoF Zoj->MF K CA.streak "__init__" "Streak.__init__" Zh6 ZeJ->MF K CA.streak "lengthen" "Streak.lengthen" ZfM Zdd->MF K CA.streak "is_full" "Streak.is_full" Zgf Zdy->MF K CA.streak "is_too_long" "Streak.is_too_long" Zff Zcm->MF K CA.reader "__init__" "Reader.__init__" Zh0 ZeD->MF K CA.reader "judged" "Reader.judged" Zgw ZdV->MF K CA.reader "hear" "Reader.hear" ZhZ ZeC->MF K CA.reader "plain" "Reader.plain" Zg4 Zed->MF K CA.reader "frame" "Reader.frame" Zg3 Zec->MF K Zem "__init__" "Tail.__init__" ZjN Zfw->MF K Zem "says" "Tail.says" ZjO Zeo->MF K Zem "place" "Tail.place" ZiV ZdZ->MF K Zem "is_fault" "Tail.is_fault" Zgy Zc6->MF K Zem "judged_vote" "Tail.judged_vote" ZfE ZbW->MF K Zem "hear" "Tail.hear" ZjM Zen->MF K CA.rtail "__init__" "ReadTail.__init__" Zgv ZdU->MF K CA.stail "__init__" "SpeakTail.__init__" Zge Zdx->MF K CA.count "__init__" "Count.__init__" ZiI ZeR->MF K CA.count "is_quiet" "Count.is_quiet" Zga Zdt->MF K CA.count "is_off" "Count.is_off" ZgY Zd7->MF K CA.count "number" "Count.number" ZgZ Zd8->MF K CA.count "move" "Count.move" ZiJ ZeS->MF K CA.count "fault" "Count.fault" ZhO Zer->MF K CA.count "blame" "Count.blame" ZhN Zeq->MF K CA.count "good" "Count.good" ZiH ZeQ->MF K CA.free "__init__" "Free.__init__" ZjA Zfj->MF K CA.speaks "__init__" "Speaks.__init__" Zh3 ZeG->MF K CA.reads "__init__" "Reads.__init__" ZiP ZeY->MF K CA.intail "__init__" "InTail.__init__" ZhP Zes->MF K CA.flag "__init__" "Flagging.__init__" Zgq ZdP->MF K CA.settles "__init__" "Settles.__init__" Zg5 Zee->MF K CA.rests "__init__" "Rests.__init__" ZiS Ze1->MF K CA.post "is_quiet" "Post.is_quiet" Zgt ZdS->MF K CA.post "is_off" "Post.is_off" ZhT Zew->MF K CA.post "faults" "Post.faults" ZhS Zev->MF K CA.post "has_frame" "Post.has_frame" Zgc Zdv->MF K CA.post "foremost_wire" "Post.foremost_wire" Zfe Zcl->MF K CA.post "drop_foremost" "Post.drop_foremost" Zfd Zck->MF K CA.post "hand_up" "Post.hand_up" Zg1 Zea->MF K CA.post "hand" "Post.hand" ZjE Zfn->MF K CA.post "waits" "Post.waits" ZiL ZeU->MF K CA.post "got" "Post.got" ZkL ZfP->MF K CA.post "__init__" "Post.__init__" ZjG Zfp->MF K CA.free "shown" "Free.shown" ZiK ZeT->MF K CA.speaks "shown" "Speaks.shown" Zg8 Zeh->MF K CA.reads "shown" "Reads.shown" Zh1 ZeE->MF K CA.intail "shown" "InTail.shown" Zg0 Zd9->MF K CA.flag "shown" "Flagging.shown" Zgb Zdu->MF K CA.settles "shown" "Settles.shown" Zgx ZdW->MF K CA.rests "shown" "Rests.shown" Zh2 ZeF->MF K CA.off "shown" "Off.shown" ZjD Zfm->MF K CA.free "says" "Free.says" ZjB Zfk->MF K CA.speaks "says" "Speaks.says" Zh4 ZeH->MF K CA.reads "says" "Reads.says" ZiQ ZeZ->MF K CA.intail "says" "InTail.says" ZhQ Zet->MF K CA.flag "says" "Flagging.says" Zgr ZdQ->MF K CA.settles "says" "Settles.says" Zg6 Zef->MF K CA.rests "says" "Rests.says" ZiT Ze2->MF K CA.off "says" "Off.says" ZkJ ZfN->MF K CA.off "step" "Off.step" ZkK ZfO->MF K CA.flag "step" "Flagging.step" Zgs ZdR->MF K CA.settles "step" "Settles.step" Zg7 Zeg->MF K CA.rests "step" "Rests.step" ZiU Ze3->MF K CA.free "step" "Free.step" ZjC Zfl->MF K CA.reads "step" "Reads.step" ZiR Ze0->MF K CA.speaks "step" "Speaks.step" Zh5 ZeI->MF K CA.intail "step" "InTail.step" ZhR Zeu->MF K CA.post "stance" "Post.stance" ZhU Zex->MF K CA.post "says" "Post.says" ZjH Zfq->MF K CA.post "hear" "Post.hear" ZjF Zfo->MF K Zg "post_at" "Rail.post_at" Zg2 Zeb->MF K Zg "__init__" "Rail.__init__" ZjK Zft->MF K Zg "hand" "Rail.hand" ZjJ Zfs->MF K Zg "make_turn" "Rail.make_turn" Zgd Zdw->MFc K Zg "turn" "Rail.turn" ZdO Zfv 962->MF K Zg "run" "Rail.run" ZkN ZfR->MF K Zg "events" "Rail.events" ZhV Zey->MF K Zg "stance" "Rail.stance" ZhY ZeB->MF K Zg "waits" "Rail.waits" ZiO ZeX->MF K Zg "got" "Rail.got" ZkM ZfQ->MF K Zg "faults" "Rail.faults" ZhW Zez->MF K Zg "is_quiet" "Rail.is_quiet" Zgu ZdT->MF K Zg "is_off" "Rail.is_off" ZhX ZeA->MF K Zg "said" "Rail.said" ZjL Zfu->MF K Zg "heard" "Rail.heard" ZiM ZeV->MF K Zg "turns" "Rail.turns" ZiN ZeW->MF K Zg "bits" "Rail.bits" ZjI Zfr->
 ∃fd:FuncData,(∀(s:Shared)(v:Value),BindsTo s fd ⟨[v], []⟩ [("_law_script",v)])/\∀base:Heap,K.In base->base.Ns mainGlobals mg->fV l.prog w K mg base CX0 15 fa fd ["_law_script"] (pJ K):=by
 rintro ⟨_,ZmU⟩ ⟨_,Zos⟩ ⟨_,ZnR⟩ ⟨_,ZnP⟩ ⟨_,Zot⟩ ⟨_,Zov⟩ ⟨_,Zof⟩ ⟨_,Zou⟩ ⟨_,ZoC⟩ ⟨_,Zl5⟩ ⟨_,ZmT⟩ ⟨_,Zow⟩ ⟨_,ZnS⟩ ⟨_,Zl7⟩ ⟨_,ZmV⟩ ⟨_,Zk3⟩ ⟨_,ZnQ⟩ ⟨_,ZoB⟩ ⟨_,ZmX⟩ ⟨_,Zog⟩ ⟨_,ZmW⟩ ⟨_,Zoe⟩ ⟨_,Zl6⟩ ⟨_,Zk4⟩ ⟨_,ZoK,hc_ear⟩ ⟨_,ZnN⟩ ⟨_,Zk2⟩ ⟨_,Zl3⟩ ⟨_,ZmS⟩ ⟨_,ZnM⟩ ⟨_,ZnO⟩ ⟨_,Zl2⟩ ⟨_,ZmR⟩ ⟨_,Zod,hc__law_ran⟩ ⟨_,Zl4⟩ ⟨d0,Zoh⟩ ⟨_,_,Zl1⟩ ⟨_,_,Zi7⟩ ⟨_,_,Zj1⟩ ⟨_,_,Zhe⟩ ⟨_,_,ZlV⟩ ⟨_,_,Zkj⟩ ⟨_,_,ZlU⟩ ⟨_,_,ZkX⟩ ⟨_,_,ZkW⟩ ⟨_,_,ZnK⟩ ⟨_,_,ZnL⟩ ⟨_,_,ZmQ⟩ ⟨_,_,Zkl⟩ ⟨_,_,Zie⟩ ⟨_,_,ZnJ⟩ ⟨_,_,Zki⟩ ⟨_,_,Zj0⟩ ⟨_,_,ZmD⟩ ⟨_,_,ZjW⟩ ⟨_,_,ZkR⟩ ⟨_,_,ZkS⟩ ⟨_,_,ZmE⟩ ⟨_,_,ZlJ⟩ ⟨_,_,ZlI⟩ ⟨_,_,ZmC⟩ ⟨_,_,Znw⟩ ⟨_,_,ZlY⟩ ⟨_,_,ZmK⟩ ⟨_,_,ZlK⟩ ⟨_,_,Zkd⟩ ⟨_,_,ZkY⟩ ⟨_,_,ZmN⟩ ⟨_,_,Zkg⟩ ⟨_,_,ZlO⟩ ⟨_,_,ZlN⟩ ⟨_,_,ZjY⟩ ⟨_,_,Zhd⟩ ⟨_,_,Zhc⟩ ⟨_,_,ZkU⟩ ⟨_,_,ZnA⟩ ⟨_,_,ZmG⟩ ⟨_,_,Zoa⟩ ⟨_,_,ZnC⟩ ⟨_,_,ZmF⟩ ⟨_,_,Zk1⟩ ⟨_,_,ZlW⟩ ⟨_,_,ZkT⟩ ⟨_,_,ZjX⟩ ⟨_,_,Zkk⟩ ⟨_,_,ZlX⟩ ⟨_,_,Znz⟩ ⟨_,_,Znx⟩ ⟨_,_,ZlZ⟩ ⟨_,_,ZmL⟩ ⟨_,_,ZlL⟩ ⟨_,_,Zke⟩ ⟨_,_,ZkZ⟩ ⟨_,_,ZmO⟩ ⟨_,_,Zn8⟩ ⟨_,_,Zn9⟩ ⟨_,_,Zkf⟩ ⟨_,_,Zk0⟩ ⟨_,_,ZmP⟩ ⟨_,_,Zny⟩ ⟨_,_,ZmM⟩ ⟨_,_,Zl0⟩ ⟨_,_,ZlM⟩ ⟨_,_,ZlP⟩ ⟨_,_,ZnD⟩ ⟨_,_,ZnB⟩ ⟨_,_,ZkV⟩ ⟨_,_,ZnG⟩ ⟨_,_,ZnF⟩ ⟨_,_,ZjZ⟩ ⟨_,_,ZnI,hc_Rail_turn⟩ ⟨_,_,Zoc⟩ ⟨_,_,ZlQ⟩ ⟨_,_,ZlT⟩ ⟨_,_,ZmJ⟩ ⟨_,_,Zob⟩ ⟨_,_,ZlR⟩ ⟨_,_,Zkh⟩ ⟨_,_,ZlS⟩ ⟨_,_,ZnH⟩ ⟨_,_,ZmH⟩ ⟨_,_,ZmI⟩ ⟨_,_,ZnE⟩
 cases hfa.symm.trans Zoh.m
 refine⟨d0,fun s v=>?_,fun base _ _=>?_⟩
 ·obtain⟨_,_,_,_,_,_,_,_,_,rfl,_⟩:=Zoh.F.ex
  exact .of_eq rfl
 have Zbp:=Zmq l.prog w mg base  ZmU
 have ZaU:=Zlp l.prog w mg base CA Zm Zav Zy Zl1
 have Z3:=ZiG l.prog w mg base CA Zm Zav Zy Zi7
 have ZT:=Zjd l.prog w mg base CA ZcH Zm Zy Zj1
 have ZaY:=ZgX l.prog w mg base CA ZcH Zm Zy Zhe
 have Zac:=Zol l.prog w mg base ZaP ZD Zos
 have ZE:=Znm l.prog w mg base  ZnR
 have ZaD:=Znk l.prog w mg base Zek Zmz ZnP
 have Zdq:=Zom l.prog w mg base ZV Zot
 have Zam:=Zoo _ w mg base ZV Zmx ZE Zdq Zov
 have Zc5:=Zn0 _ w mg base ZaP ZV ZbX ZK Zac Zam Zof
 have Zdr:=Zon l.prog w mg base Zel Zou
 have ZdX:=Zoy _ w mg base CA ZeP Zm ZbI Z2 ZJ ZaU Z3 ZT ZoC
 have ZF:=Zlt _ w mg base Zfa ZC ZL ZaD Zdr Zl5
 have ZbT:=Zmp _ w mg base ZaP ZV ZC Zfz ZfA Zbc ZL Zac Zc5 ZF ZmT
 have Zds:=Zop _ w mg base ZaP ZV ZC ZdX ZbT Zow
 have ZaE:=Znn _ w mg base Zd1 ZbY ZE ZnS
 have Zak:=Zlv _ w mg base ZbX Zbc ZbY ZL ZaE Zl7
 have ZbU:=Zmr _ w mg base ZV ZC Zbc Zd1 ZbY ZD ZE Zam ZaE Zak ZmV
 have ZcX:=Zlj _ w mg base CA ZeP ZbI Zh ZG Zt ZQ ZaU ZlV
 have Zb4:=Zka _ w mg base CA ZV Zm Zh ZJ Za1 ZG Zt ZT ZaY Zam Zak Zkj
 have Zaj:=Zli _ w mg base CA ZV Zm Zh Z2 ZJ ZbA ZG Zt ZQ Z3 ZT Zb4 ZlU
 have ZcD:=ZkB l.prog w mg base CA ZK Zh Zt ZkX
 have ZcC:=ZkA _ w mg base CA ZV ZC Zh Zt ZQ ZbU ZkW
 have Zbn:=Znf l.prog w mg base CA Zj Zi ZnK
 have ZdL:=Zng l.prog w mg base CA Zdc Zj Zi ZnL
 have Zdo:=Zmm l.prog w mg base CA Zj Zi ZmQ
 have Zb6:=Zkc l.prog w mg base CA Zdc Zj Zi Zkl
 have Zbf:=Zid l.prog w mg base CA ZdB Zj Zi Zie
 have ZdK:=Zne _ w mg base CA ZdB Zj Zi Zbl Zbd Za2 ZaO Zb6 Zbf ZnJ
 have Zb3:=Zj9 _ w mg base CA Zd2 Zaw Zbn Zki
 have ZbF:=Zjc _ w mg base CA Zd2 Zaw Zbn Zj0
 have Zdg:=Zl9 l.prog w mg base CA Ze Zr ZmD
 have ZbC:=Zi8 l.prog w mg base CA Zfc Ze Zr ZjW
 have ZaL:=Zkv l.prog w mg base CA ZfS Ze Zr ZkR
 have Zcz:=Zkw l.prog w mg base CA Ze Zr ZkS
 have Zap:=Zma _ w mg base CA ZmA Ze Zat Zr ZaL ZmE
 have ZaQ:=Zk7 _ w mg base CA Zcj ZeM Ze Z4 Zap ZlJ
 have ZcP:=Zk6 _ w mg base CA Zcj Ze Z4 Zap ZlI
 have Zdf:=Zl8 _ w mg base CA Ze Z4 Zap ZmC
 have Zao:=ZkH _ w mg base CA ZV ZC Zhl Zh Zei ZY ZcX Zaj Zk3
 have ZaA:=Zm1 l.prog w mg base CA Zx ZO Znw
 have ZaT:=Zlm l.prog w mg base CA Zk ZR Z1 Zv ZlY
 have Zar:=Zmg l.prog w mg base CA Zu Zae Zah ZmK
 have ZaR:=Zk8 l.prog w mg base CA Zn Zs ZaH ZlK
 have Zaz:=Zj4 l.prog w mg base CA Zp ZN ZW Zkd
 have Z8:=ZkC l.prog w mg base CA ZH Zaf ZkY
 have Zad:=Zmj l.prog w mg base CA ZA Z7 ZmN
 have ZaB:=Zj7 _ w mg base CA Ze Zb Zbq Zl ZbC Zkg
 have ZaS:=Zlc _ w mg base CA Ze Zb Zat Zl ZaL ZlO
 have ZcS:=Zlb _ w mg base CA Ze Zb ZbK Zl Zcz ZlN
 have ZbE:=Zja l.prog w mg base CA ZL Zb Zo ZjY
 have ZaX:=ZgW _ w mg base CA ZaP ZV ZC Zb Zo Zds Zhd
 have ZaW:=ZgV l.prog w mg base CA Zb Zo Zhc
 have Zcx:=Znl l.prog w mg base  ZnQ
 have ZcB:=Zky _ w mg base CA Zb ZaN ZS Zcx ZkU
 have ZdE:=Zm5 _ w mg base CA ZC ZK Zb Zo ZF ZnA
 have Zbo:=Zox l.prog w mg base ZK ZoB
 have Zdi:=Zmc _ w mg base CA Zb Zo Zbo ZmG
 have Zd5:=ZnV _ w mg base CA Zb ZS Zbo Zoa
 have ZM:=Zmt _ w mg base CA Zmy Zb Zay Ze9 ZaS ZmX
 have Zq:=Zn1 _ w mg base CA ZdA Zfy Ze Zb Zbe Zax Zl ZaQ Zaz ZM Zog
 have ZbV:=Zms _ w mg base CA Zcy Ze Zb ZaF Zax Zl ZaQ Z8 ZM ZmW
 have Zc4:=ZnZ _ w mg base CA Zcy Ze Zb ZaF Zb7 Zl ZcP Z8 ZM Zoe
 have Zbw:=Zlu l.prog w mg base Zc2 Zw Zej Zl6
 have Zbh:=ZkI _ w mg base Zw ZaD Zk4
 have ZdG:=Zm7 _ w mg base CA Zc2 Zw Zi4 Zep Zb ZeK Za8 Zl Zo ZaN ZS Zag ZU Zdg ZaA Zbw Zbh ZnC
 have Zdh:=Zmb l.prog w mg base CA Zx ZO ZmF
 have ZcG:=ZkF l.prog w mg base CA Zk Zv Zk1
 have ZcY:=Zlk l.prog w mg base CA Zu Zah ZlW
 have ZcA:=Zkx _ w mg base CA Zj Zi Zn Za9 Za3 Zs Zdo ZkT
 have ZbD:=Zi9 l.prog w mg base CA Zp ZN ZjX
 have Zb5:=Zkb l.prog w mg base CA  Zkk
 have ZcZ:=Zll l.prog w mg base CA ZA Z7 ZlX
 have ZdD:=Zm4 l.prog w mg base CA  Znz
 have Zbm:=Zm2 _ w mg base CA ZeL Zx Zb Zbs Zan ZO ZaB ZbE Znx
 have Zc0:=Zln l.prog w mg base CA Zk ZR Zv ZlZ
 have Zdk:=Zmh l.prog w mg base CA  ZmL
 have ZcQ:=Zk9 _ w mg base CA Zj Zi Zn Zbk Zbb Zs ZdL ZlL
 have Zb0:=Zj5 l.prog w mg base CA  Zke
 have ZcE:=ZkD l.prog w mg base CA  ZkZ
 have Zdm:=Zmk l.prog w mg base CA  ZmO
 have Zd3:=ZnT l.prog w mg base CA  Zn8
 have Zd4:=ZnU l.prog w mg base CA  Zn9
 have Zb1:=Zj6 _ w mg base CA ZdA Zcy Zp Zbe ZaF ZN ZW Zaz Z8 Zkf
 have ZcF:=ZkE _ w mg base CA Zdp ZbZ ZH ZaJ Zaf Zad Zc4 Zk0
 have Zdn:=Zml _ w mg base CA Zep Zdp ZA Za8 ZaJ Z7 ZaA Zad Zq ZmP
 have ZdC:=Zm3 _ w mg base CA ZaP ZV ZC Zep ZeO ZdN Zx Zb Za8 ZbH ZaV ZaM Za0 ZO Zao ZaA ZaT Zar ZaX Zq Zbm Zny
 have Zdl:=Zmi _ w mg base CA ZV ZC Zd2 ZdN ZeN ZfT Zh Zu Zb ZaV ZbG Zdz ZY ZbN Zae Zah Zag Zaj ZcC Zb3 Zar ZaR Zq ZmM
 have Zc1:=Zlo _ w mg base CA ZV ZC Zd2 ZeO ZdN ZeN Zfx ZfB ZL Zh Zk Zb ZbH ZaV ZbG Zde ZY ZbO ZR Z1 Zv Zag Zaj ZcD ZbF ZaT Zar ZaR Zq Zl0
 have ZcR:=Zla _ w mg base CA Zdp ZbZ Zj Zi Ze Zn Zb ZaJ Zcn ZaZ ZbM Zbj Zba Zs ZaH Zl ZdK Zdf Zad ZaW ZcB Zq ZbV ZlM
 have ZcT:=Zld _ w mg base CA Zx Zk Zu Zn Zp ZH ZA Zb Za7 Zco ZbR Zcf ZbL Zbr ZbB Zcg ZcJ ZU Zdh ZcG ZcY ZcA ZbD Zb5 ZcZ ZdD ZlP
 have ZdH:=Zm8 _ w mg base CA Zx Zk Zu Zn Zp ZH ZA Zb Za7 ZaM Zch Zcr Zb8 Zbx ZbP Zct Zc7 ZU Zbm Zc0 Zdk ZcQ Zb0 ZcE Zdm Zd3 ZnD
 have ZdF:=Zm6 _ w mg base CA ZaP ZV ZC Zx Zk Zu Zn Zp ZH ZA Zb Za7 ZcI Zci Zcs Zb9 Zby ZbQ Zcu Zc8 ZU Zd4 Zb1 ZcF Zdn ZdC Zdl Zc1 ZcR ZnB
 have Zf:=Zkz l.prog w mg base CA Zw Zz ZL Za ZP ZkV
 have Zcv:=Znb _ w mg base CA Zc2 Zw Zz Zfb Zku ZL Za Ze8 ZP Zau ZB Z6 Z0 ZZ ZdG ZnG
 have ZdI:=Zna _ w mg base CA ZC Zw Zz Zf8 Zb Za Zc ZcK Zau ZF ZdE Zf ZnF
 have Zas:=Zjb _ w mg base CA ZaP ZV ZC Zz ZD ZL Zhm ZfC Zdb Zb Za ZcM ZcL ZP ZB Z6 Z0 ZZ Zbp ZdH ZdF ZjZ
 have ZdJ:=Znd _ w mg base CA Zw Zz ZK Za Zc Zal ZdM Zi3 hc_Rail_turn Zf Zas ZnI
 have ZbJ:=ZnX _ w mg base CA Zz ZD Za Zal Zbp Zas Zoc
 have Zai:=Zle l.prog w mg base CA Zz ZK Za ZZ ZlQ
 have ZcW:=Zlh _ w mg base CA Zw Zz Zb Za Zc Zcb ZcT Zf ZlT
 have Zdj:=Zmf _ w mg base CA Zw Zz Zb Za Zc Zcp Zdi Zf ZmJ
 have Zd6:=ZnW _ w mg base CA Zw Zz Zb Za Zc Zc9 Zd5 Zf Zob
 have ZcU:=Zlf _ w mg base CA Zw Zz Zb Za Zc Zca ZcS Zf ZlR
 have Zb2:=Zj8 _ w mg base CA Zw Zz Zb Za Zan Zc ZaB Zf Zkh
 have ZcV:=Zlg _ w mg base CA Zw Zz Zb Za Zay Zc ZaS Zf ZlS
 have ZaC:=Znc _ w mg base CA Zw Zz ZK Za Zc Z6 Zf ZnH
 have Zaq:=Zmd _ w mg base CA Zw Zz ZK Za Zc Z0 Zf ZmH
 have Za5:=Zme l.prog w mg base CA Zz ZL Za ZB ZmI
 have Z9:=Zm9 l.prog w mg base CA Zz ZK Za ZB ZnE
 have Zgg:=ZoH l.prog w mg base ZdM Zf7 hc_ear ZoK
 have Zd:=Zni l.prog w mg base ZL ZnN
 have Zbg:=ZkG _ w mg base ZD Zd Zk2
 have Zbu:=Zlr _ w mg base ZD Zd Zl3
 have ZbS:=Zmo _ w mg base ZD Zd ZmS
 have Zaa:=Znh l.prog w mg base ZK ZL Zdb ZaK Zf9 ZnM
 have Zcw:=Znj _ w mg base CA Zw Zz ZD ZL Zhm Zdb Za ZI Zab Z5 ZaG ZaC Zaq Za5 Z9 Zaa ZnO
 have Zbt:=Zlq _ w mg base CA Zz ZL Zdb ZaK Zf9 ZmB Zi5 Za ZX Zai Zl2
 have ZaI:=Zmn _ w mg base CA Zw Zz ZD Za ZI Zab Z5 ZaG ZX Zda Zcq Zce Zcd Zbz Zcc Zai ZcW Zdj Zd6 ZcU Zb2 ZcV ZaC Zaq Za5 Z9 ZmR
 have Zc3:=ZnY _ w mg base CA Zz ZD ZK ZL Ze7 Za Zbi ZdM Zhk hc__law_ran ZbJ Zgg Zod
 have Zbv:=Zls _ w mg base CA Zc2 Zw Zz ZD ZK Za ZI Zab Z5 ZX ZcO ZdJ Zai ZaC Zaq Z9 Zl4
 exact(ZoI _ w mg base CA ZC Zc2 Zw Zz Zf8 ZD ZK Za Zd0 ZI ZcN Zcv ZdI Z9 Zd Zbg Zbu ZbS Zaa Zcw Zbt ZaI Zc3 Zbv Zoh).1
end
def tupI_VOTES {n:Nat}{t0 t1 t2:Tok}(h:K.lookup a=some ⟨.type "tuple",od,.seq #[.int 1 t0,.int 3 t1,.int 5 t2] n,sl⟩):zT K a [1,3,5]:=zT.of h (aL rfl) (.cons ⟨_,rfl⟩ (.cons ⟨_,rfl⟩ (.cons ⟨_,rfl⟩ .nil)))
abbrev csI {x_post x_count x_free x_speaks x_reads x_intail x_flag x_settles x_rests x_off x_reader x_streak x_rtail x_stail:Addr}:Cs:=⟨x_post,x_count,x_free,x_speaks,x_reads,x_intail,x_flag,x_settles,x_rests,x_off,x_reader,x_streak,x_rtail,x_stail⟩
theorem walk {l:W.OpenLaw}{q:Program}{loose:List Str}{XP:(Str->Option Value)->Heap->Prop}{YP:World->Heap->Prop}{d:DefRec}{K:Params->W.Frag}{tc:List (Addr×Addr)}(htc:tc= [(962,958),(1077,1073),(1138,1134)])(hn:l.most=some 63)(hdf:d.params.defaults= [])
  (hY:∀(w:World)(h:Heap),YP w h->(K w.params).In h/\∀q∈tc,(K w.params).lookup q.2=none/\h.get? q.2=some (W.tabObj #[])/\W.codeHdIn (K w.params) q.1 q.2=true)
  (F :∀(w:World)(mg:Str->Option Value)(fa:Addr)(h:Heap),(K w.params).In h->h.Ns mainGlobals mg->mg d.name=some (.ref fa)->
   ∃fd:FuncData,(∀(s:Shared)(u:Value),BindsTo s fd ⟨[u], []⟩ [("_law_script",u)])/\∀base:Heap,(K w.params).In base->base.Ns mainGlobals mg->fV l.prog w (K w.params) mg base CX0 15 fa fd ["_law_script"] (pJ (K w.params))) :
  W.WalkO q loose XP YP l.row.toRowW d [] (fun f vs=>PySem.call f vs):=by
 subst htc
 exact L2.walk_ofT (n:=63) (k:=15) (x:="_law_script") (CX:=fun _=>CX0) (sp:=fun w=>pJ (K w.params)) hn (by decide) hdf ⟨rfl,by decide,by decide⟩ hY F (fun _ H a ns hl hO hS=>⟨a,ns,rfl,hS,hl,⟨hO.1 958 (by simp),hO.1 1073 (by simp),hO.1 1134 (by simp)⟩,fun _=>rfl⟩) fun _ _ _ _ _ z=>z
end My
open PySem PySem.W PyProof.Rows
set_option maxRecDepth 100000 in
set_option maxHeartbeats 0 in
theorem PySem.Challenge.cw_bitrail_k51_the_rails_tape_holds : PySem.Challenge.rw_bitrail_k51_the_rails_tape.Holds := by
 w_on;o_law
 refine holds_open (q:=Hd.qv) (loose:=Hd.loose) (XP:=XL Hd.qv []) (YP:=InK Hd.KA) (d:=Hd.dl) (kwd:=[]) Hd.left (InK.of Hd.K_as) InK.keeps (fun s e=>xl_of s e) XL.keeps Hd.dl_1 Hd.dl_2 rfl (fun s _=>recFacts_nil rfl) rfl
  (by assumption) (by decide +kernel) ⟨rfl,rfl,rfl,rfl,rfl,by decide +kernel⟩ ?hw ?hc
 case hw=>w_witness2
 refine My.walk (l:=PySem.Challenge.rw_bitrail_k51_the_rails_tape) (K:=Hd.K) (tc:=Hd.tc) rfl rfl rfl Hd.tabs ?F
 k_fill
 case F=>
  intro w mg fa h KX G hmg
  refine' My.all_mk w mg (CA:=My.csI) ?Aa ?Ab ?Ac ?Ad ?Ae ?Af ?Ag ?Ah ?Ai ?Aj ?Ak ?Al ?Am ?An ?Ao ?Ap ?Aq ?Ar ?As ?At ?Au ?Av ?Aw ?Ax ?Ay ?Az ?AA ?AB ?AC ?AD ?AE ?AF ?AG ?AH ?AI ?AJ ?AK ?AL ?AM ?AN ?AO ?AP ?AQ ?AR ?AS ?AT ?AU ?AV ?AW ?AX ?AY ?AZ ?A0 ?A1 ?A2 ?A3 ?A4 ?A5 ?A6 ?A7 ?A8 ?A9 ?Ba ?Bb ?Bc ?Bd ?Be ?Bf ?Bg ?Bh ?Bi ?Bj ?Bk ?Bl ?Bm ?Bn ?Bo ?Bp ?Bq ?Br ?Bs ?Bt ?Bu ?Bv ?Bw ?Bx ?By ?Bz ?BA ?BB ?BC ?BD ?BE ?BF ?BG ?BH ?BI ?BJ ?BK ?BL ?BM ?BN ?BO ?BP ?BQ ?BR ?BS ?BT ?BU ?BV ?BW ?BX ?BY ?BZ ?B0 ?B1 ?B2 ?B3 ?B4 ?B5 ?B6 ?B7 ?B8 ?B9 ?Ca ?Cb ?Cc ?Cd ?Ce ?Cf ?Cg ?Ch ?Ci ?Cj ?Ck ?Cl ?Cm ?Cn ?Co ?Cp ?Cq ?Cr ?Cs ?Ct ?Cu ?Cv ?Cw ?Cx ?Cy ?Cz ?CA ?CB ?CC ?CD ?CE ?CF ?CG ?CH ?CI ?CJ ?CK ?CL ?CM ?CN ?CO ?CP ?CQ ?CR ?CS ?CT ?CU ?CV ?CW ?CX ?CY ?CZ ?C0 ?C1 ?C2 ?C3 ?C4 ?C5 ?C6 ?C7 ?C8 ?C9 ?Da ?Db ?Dc ?Dd ?De ?Df ?Dg ?Dh ?Di ?Dj ?Dk ?Dl ?Dm ?Dn hmg ?La ?Lf ?Lg ?Lh ?Li ?Lj ?Lk ?Ll ?Lm ?Ln ?Lo ?Lp ?Lq ?Lr ?Ls ?LO ?L2 ?L5 ?L8 ?L9 ?Ma ?Mb ?Mc ?Md ?MX ?MY ?MZ ?M0 ?M1 ?M2 ?M3 ?M4 ?M5 ?M6 ?M7 ?M8 ?Lb ?Lc ?Ld ?Le ?Lt ?Lu ?Lv ?Lw ?Lx ?Ly ?Lz ?LA ?LB ?LC ?LD ?LE ?LF ?LG ?LH ?LI ?LJ ?LK ?LL ?LM ?LN ?LP ?LQ ?LR ?LS ?LT ?LU ?LV ?LW ?LX ?LY ?LZ ?L0 ?L1 ?L3 ?L4 ?L6 ?L7 ?Me ?Mf ?Mg ?Mh ?Mi ?Mj ?Mk ?Ml ?Mm ?Mn ?Mo ?Mp ?Mq ?Mr ?Ms ?Mt ?Mu ?Mv ?Mw ?Mx ?My ?Mz ?MA ?MB ?MC ?MD ?ME ?MF ?MG ?MH ?MI ?MJ ?MK ?ML ?MM ?MN ?MO ?MP ?MQ ?MR ?MS ?MT ?MU ?MV ?MW
  all_goals try dsimp only[My.csI]
  case Aa | Ab | Ac | Ad | Ae | Af | Ag | Ah | Ai | Aj | Ak | Al | Am | An | Ao | Ap | Aq | Ar | As | At | Au | Av | Aw | Ax | Ay | Az | AA | AB | AC | AD | AE | AF | AG | AH | AI | AJ | AK | AL | AM | AN | AO | AP | AQ | AR=>refine' PySem.W.mg_of KX G ?_;k_is
  case AS | AT | AU | AV | AW | AX | AY | AZ | A0 | A1 | A2 | A3=>refine' PySem.W.mg_none_of KX G ?_;k_is
  case MX | M6=>(refine' My.gfc_mk KX G ?a ?l ?c ?k;(case a=>show _=_;k_is);(case l=>show _=_;k_is);(case c=>show _=_;k_is);(case k=>show _=_;k_is))
  case La | Lf | Lg | Lh | Li | Lj | Lk | Ll | Lm | Ln | Lo | Lp | Lq | Lr | Ls | LO | L2 | L5 | L8 | L9 | Ma | Mb | Mc | Md | MY | MZ | M0 | M1 | M2 | M3 | M4 | M5 | M7 | M8=>(refine' My.gf_mk KX G ?a ?l ?c ?k;(case a=>show _=_;k_is);(case l=>show _=_;k_is);(case c=>show _=_;k_is);(case k=>show _=_;k_is))
  case MK=>(refine' My.mfc_mk ?a ?l ?c ?k;(case a=>show _=_;k_is);(case l=>show _=_;k_is);(case c=>show _=_;k_is);(case k=>show _=_;k_is))
  case Lb | Lc | Ld | Le | Lt | Lu | Lv | Lw | Lx | Ly | Lz | LA | LB | LC | LD | LE | LF | LG | LH | LI | LJ | LK | LL | LM | LN | LP | LQ | LR | LS | LT | LU | LV | LW | LX | LY | LZ | L0 | L1 | L3 | L4 | L6 | L7 | Me | Mf | Mg | Mh | Mi | Mj | Mk | Ml | Mm | Mn | Mo | Mp | Mq | Mr | Ms | Mt | Mu | Mv | Mw | Mx | My | Mz | MA | MB | MC | MD | ME | MF | MG | MH | MI | MJ | ML | MM | MN | MO | MP | MQ | MR | MS | MT | MU | MV | MW=>(refine' My.mf_mk ?a ?l ?c ?k;(case a=>show _=_;k_is);(case l=>show _=_;k_is);(case c=>show _=_;k_is);(case k=>show _=_;k_is))
  case A4=>(refine' My.tupI_VOTES ?a;(case a=>k_is))
  case A5=>(exact⟨_,_,_,_,rfl⟩)
  case A6 | A7=>(refine⟨?_,?_,?_,?_,?_⟩;(refine⟨?_,?_,?_,?_⟩ <;> k_is);all_goals (show PySem.W.findIn _ _ _=_;k_is))
  case A8 | A9 | Ba | Bb | Bc | Bd | Be | Bf | Bg | Bh | Bi | Bj | Bk | Bl | Bm | Bn | Bo | Bp | Bq | Br | Bs | Bt | Bu | Bv | Bw | Bx | By | Bz=>(refine⟨?_,?_,?_,?_⟩ <;> k_is)
  case BA | BB | BC | BD | BE | BF | BG | BH | BI | BJ | BK | BL | BM | BN | BO | BP | BQ | BR | BS | BT | BU | BV | BW | BX | BY | BZ | B0 | B1 | B2 | B3 | B4 | B5 | B6 | B7 | B8 | B9 | Ca | Cb | Cc | Cd | Ce | Cf | Cg | Ch | Ci | Cj | Ck | Cl | Cm | Cn | Co | Cp | Cq | Cr | Cs | Ct | Cu | Cv | Cw | Cx | Cy | Cz | CA | CB | CC | CD | CE | CF | CG | CH | CI | CJ | CK | CL | CM | CN | CO | CP=>(refine⟨?_,?_,?_⟩ <;> k_is)
  case CQ=>(refine' My.BmK.bm KX G ?_;(refine⟨?_,by decide,by decide, #[],?_⟩ <;> k_is))
  case CR | CS | CT | CU | CV | CW | CX | CY | CZ | C0 | C1 | C2 | C3 | C4 | C5 | C6 | C7 | C8 | C9 | Da | Db | Dc | Dd | De | Df | Dg | Dh | Di | Dj | Dk=>(show PySem.W.findIn _ _ _=_;k_is)
  case Dl | Dm | Dn=>kernel_rfl
#print axioms PySem.Challenge.cw_bitrail_k51_the_rails_tape_holds
