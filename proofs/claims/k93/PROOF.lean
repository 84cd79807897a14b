import PyProof.Rows.All
import Wide.All
import OpenK.AllK
import Wide.FinOn
import PyProof.EqAt
import PyProof.EqKinds
import PyProof.TupleCall
import Lean
import PySem.Challenge.RW_bitrail_k93_whole_tails_never_part
set_option Elab.async false
def Ya:=@List.length_map
def Yb:=@List.getElem?_eq_getElem
def Yc:=@List.length_append
def Yd:=@Nat.le_refl
def Ye:=@decide_eq_true
def Yf:=@List.getElem?_eq_some_iff
def Yg:=@List.take_succ_eq_append_getElem
def Yh:=@List.getD_eq_getElem?_getD
def Yi:=@decide_eq_false
def Yj:=@Nat.lt_of_lt_of_le
def Yk:=@List.take_of_length_le
def Yl:=@List.getElem?_map
def Ym:=@List.map_append
def Yn:=@List.mem_singleton
def Yo:=@Option.some.inj
def Yp:=@PySem.Heap.get?_push_of_some
def Yq:=@Bool.false_ne_true
def Yr:=@List.length_take
def Ys:=@PySem.Heap.lt_size
def Yt:=@List.length_singleton
def Yu:=@List.length_replicate
def Yv:=@List.getElem?_append_right
def Yw:=@List.mem_cons_of_mem
def Yx:=@List.mem_of_getElem?
def Yy:=@Nat.pow_le_pow_right
def Yz:=@List.length_cons
def YA:=@List.mem_map
def YB:=@Int.toNat_natCast
def YC:=@List.mem_cons_self
def YD:=@Decidable.byContradiction
def YE:=@List.size_toArray
def YF:=@List.getElem?_append_left
def YG:=@List.mem_cons
def YH:=@Option.map_eq_some_iff
def YI:=@List.mem_append
def YJ:=@List.append_assoc
def YK:=@of_decide_eq_true
def YL:=@PySem.Heap.get?_push_size
def YM:=@List.map_cons
def YN:=@List.length_range
def YO:=@Nat.ne_of_lt
def YQ:=@List.all_eq_true
def YR:=@List.getElem_mem
def YS:=@List.append_nil
def YT:=@congrArg
def YU:=@List.mem_range
def YV:=@PySem.PassesOwn.never
def YW:=@Nat.lt_succ_self
def YX:=@Int.eq_ofNat_of_zero_le
def YY:=@List.eq_of_mem_replicate
def YZ:=@List.mem_append_right
def Y0:=@List.nodup_cons
def Y1:=@Bool.and_eq_true
def Y2:=@Nat.testBit_eq_decide_div_mod_eq
def Y3:=@Nat.lt_irrefl
def Y4:=@PySem.wpAny_bind
def Y5:=@List.getElem_of_mem
def Y6:=@List.take_append_of_le_length
def Y7:=@PySem.mem_of_lookup
def Y8:=@List.foldl_append
def Y9:=@Nat.le_trans
def Xa:=@Nat.testBit_lt_two_pow
def Xb:=@List.head?_append
def Xc:=@PySem.wpAny_truthy_bool
def Xd:=@List.not_mem_nil
def Xe:=@PySem.wpAny_mono
def Xf:=@List.flatten_cons
def Xg:=@List.replicate_succ
def Xh:=@List.getElem?_range
def Xi:=@Nat.not_lt_zero
def Xj:=@PySem.wpAny_pure
def Xk:=@Nat.succ_le_succ
def Xl:=@Nat.shiftLeft_eq
def Xm:=@Nat.le_of_lt
def Xn:=@PySem.wpAny_Call_Name_kw
def Xo:=@Nat.le_succ_of_le
def Xp:=@List.length_set
def Xq:=@List.foldl_cons
def Xr:=@List.range_succ
def Xs:=@beq_eq_false_iff_ne
def Xu:=@Nat.zero_le
def Xv:=@List.any_cons
def Xw:=@List.lookup_cons
def Xx:=@Bool.eq_iff_iff
def Xy:=@List.mem_append_left
def Xz:=@Nat.sub_self
def XA:=@List.mem_of_mem_take
def XB:=@List.getElem?_set
def XC:=@List.getElem?_take_of_lt
def XD:=@List.all_cons
def XE:=@PySem.W.methodCall_KW
def XF:=@Nat.testBit_succ
def XG:=@List.drop_append_of_le_length
def XH:=@beq_iff_eq
def XI:=@Nat.pow_succ
def XJ:=@decide_eq_true_iff
def XM:=@Int.zero_add
def XN:=@PyProof.Rows.callWith_type1
def XO:=@List.getElem?_set_ne
def XQ:=@PySem.wpAny_passesOwn
def XR:=@Nat.mod_two_eq_zero_or_one
def XS:=@List.length_drop
def XT:=@List.getElem_map
def XU:=@Array.length_toList
def XV:=@Nat.xor_assoc
def XW:=@Nat.testBit_xor
def XX:=@List.find?_cons
def XY:=@Nat.two_pow_pos
def XZ:=@PySem.W.kia_one
def X0:=@Int.emod_lt_of_pos
def X1:=@List.getElem?_replicate
def X2:=@PySem.F.plainAttrs_list
def X3:=@Nat.testBit_shiftLeft
def X4:=@PySem.W.callWith_K
def X5:=@List.mem_filter
def X6:=@List.of_mem_zip
def X7:=@Int.emod_nonneg
def X8:=@Option.map_some
def X9:=@Nat.div_eq_of_lt_le
def Ja:=@List.map_congr_left
def Jb:=@Nat.xor_zero
def Jc:=@Bool.false_and
def Jd:=@Bool.and_false
def Je:=@Nat.lt_of_le_of_lt
def Jf:=@List.take_zero
def Jg:=@Nat.xor_lt_two_pow
def Jh:=@List.filter_append
def Ji:=@PySem.codeAny_mono
namespace Hd
open PySem PyProof.Rows
open PySem.W PySem.Calls
theorem c3L (t:Thread):(endAt 0 t).isSome=through t:=by
 obtain⟨cur,code,pos,st⟩:=t
 cases st with
 | nil=>cases cur with
  |pure f=>cases f <;> rfl
  |_=>rfl
 |cons a l=>cases cur <;> rfl
theorem pY {tb:String->Option Builtin}{p:Program}{w:World}{m:Nat}{ann:Option Value}:∀{n:Nat}{s s':Shared}{t:Thread}{f:Flow}{c:Code}{x:Pos},
  segRun tb p w m ann 0 n s t=some (f,s',c,x)->topRun tb p w m ann n s t=some s'
 |0,_,_,_,_,_,_,h=>by simp[segRun]at h
 | n + 1,s,s',t,f,c,x,h=>by
  unfold segRun at h
  unfold topRun
  rw[<-c3L t]
  cases he:endAt 0 t with
  |some g=>rw[he]at h;cases h;rfl
  | none=>
   rw[he]at h
   dsimp only[Option.isSome]at h ⊢
   cases k:stepOk m ann t with
   |false=>rw[k]at h;cases h
   | true=>
    rw[k]at h
    dsimp only at h ⊢
    cases g:step (denote tb) p w s t with
    |halt o z=>rw[g]at h;cases h
    |go z t'=>rw[g]at h;exact pY h
def a1G (T:BT)(n a:Nat):Option Obj:=match Nat.blt a n with
 |true=>(match T.get a with | some o=>alive o | none=>none)
 |false=>none
theorem a3P {T:BT}{n a:Nat}{life:Life}{o:Obj}(h:a1G T n a=some o):(absHeap T n life).get? a=some o:=by
 unfold a1G at h
 cases c:Nat.blt a n with
 |false=>rw[c]at h;cases h
 | true=>
  rw[c]at h
  dsimp only at h
  cases g:T.get a with
  |none=>rw[g]at h;cases h
  | some x=>
   rw[g]at h
   rw[abs_get (Nat.le_of_ble_eq_true c) g]
   exact h
theorem sW {T:BT}{n:Nat}{life:Life}:∀{as:List Addr}{os:List Obj},as.map (a1G T n)=os.map some->as.map (absHeap T n life).get? =os.map some
 |[], [],_=>rfl
 |[],_::_,h=>by cases h
 |_::_, [],h=>by cases h
 | a::as,o::os,h=>by
  rw[YM,YM]at h
  injection h with h1 h2
  rw[YM,YM,sW h2]
  exact YT (·::os.map some) (a3P h1)
abbrev look (p q:Program)(loose:List Str)(Xt:Shared->Bool)(as:List Addr)(h:Heap)(s:SharedT):=
 (staticsOk (importedModules p.main.body) h s.abs.heap && namesBound p s.abs.heap && gensDone s.abs && laidKept h s.abs.heap,openSeen q loose (importedModules p.main.body) Xt true s.abs,as.map (a1G s.tree s.n))
theorem yW {p q:Program}{loose:List Str}{Xt:Shared->Bool}{as:List Addr}{os_:World->List Obj}{N m:Nat}{ann:Option Value}(S:World->OsState->SharedT)
  (op:∀w:World,(fencedOpening treeTable p w N).map (fun s=>(s.heap,s.gens,s.drawn,s.toks))=some (boot_heap w.params,Array.mk [],boot_drawn,boot_toks))
  (size : ∀ w : World, ((boot_heap w.params).isNs mainGlobals, (boot_heap w.params).objs.size, (boot_heap w.params).nsMap mainGlobals "__annotations__") = (true, m, ann))
  (abs:∀w os,(S w os).abs=⟨boot_heap w.params,Array.mk [],boot_drawn,boot_toks,os⟩)
  (whole:∀w:World,(fun os=>(segRunT treeTable p w m ann 0 N (S w os) (topStub p)).map fun r=>look p q loose Xt as (boot_heap w.params) r.2.1)=fun _=>some (true,openGood q loose,(os_ w).map some)):LeftO p q loose Xt (fun s=>as.map s.heap.get?) (fun w=>(os_ w).map some) N:=fun w=>by
 obtain⟨⟨h,gs,d,k,os⟩,e,e'⟩:=YH.mp (op w)
 obtain⟨rfl,rfl,rfl,rfl⟩:h=boot_heap w.params/\gs=Array.mk []/\d=boot_drawn/\k=boot_toks:=by simpa using e'
 obtain⟨y1,y2,y3⟩:_/\_/\_:=by simpa only[Prod.mk.injEq] using size w
 obtain⟨⟨f,s',c,x⟩,r1,r2⟩:=YH.mp (congrFun (whole w) os)
 obtain⟨l1,l2,l3⟩:_/\_/\_:=by simpa only[look,Prod.mk.injEq] using r2
 have l4:as.map s'.abs.heap.get? =(os_ w).map some:=sW l3
 have r:=pY (segRun_of r1)
 rw[abs]at r
 have t:topFrom treeTable p w N ⟨boot_heap w.params,Array.mk [],boot_drawn,boot_toks,os⟩=some s'.abs:=by
  unfold topFrom
  dsimp only
  rw[y1,y2,y3,r]
  show (match staticsOk (importedModules p.main.body) (boot_heap w.params) s'.abs.heap && namesBound p s'.abs.heap && gensDone s'.abs && laidKept (boot_heap w.params) s'.abs.heap with | true=>_ | false=>_)=_
  rw[l1]
 unfold openEnds
 rw[e]
 refine(YT (Option.map _) t).trans ?_
 exact YT some (by show (_,as.map s'.abs.heap.get?)=(_,(os_ w).map some);rw[l2,l4])
abbrev r (a:Addr):Value:= .ref a
abbrev s (x:Str)(t:Tok):Value:= .str x t
abbrev i (x:Int)(t:Tok):Value:= .int x t
abbrev t (x:String):Value:= .type x
abbrev b (x:String):Value:= .builtin x
abbrev tp (l:List Value):Obj:=⟨.type "tuple",none,.seq l.toArray 0, #[]⟩
abbrev co (l:List Value):Obj:=⟨.type "code",none,.fields l.toArray, #[]⟩
abbrev fi (c:Value)(l:List Value):Obj:=⟨c,none,.fields l.toArray, #[]⟩
abbrev di (c:Value)(l:List DictEntry)(n:Nat):Obj:=⟨c,none,.dict l.toArray n, #[]⟩
abbrev e (P:Params)(x:Str)(t:Tok)(v:Value):DictEntry:=⟨PyData.keyHash P x,.str x t,v⟩
abbrev cl (c:ClassData)(l:List (Option Value)):Obj:=⟨.type "type",none,.cls c,l.toArray⟩
abbrev o (v:Value):Option Value:=some v
abbrev sf (p:Program)(k:Nat):Stmt:=p.main.body.getD k default
def sub (k:Nat):Stmt->Stmt
 |.ClassDef _ _ _ b _ _ _ _ _ _ _=>b.getD k default
 |x=>x
def fn (q:Str)(d kw doc md:Value)(c bl:Addr):Stmt->Obj
 |.FunctionDef n a b _ _ _ sc _ _ _=>⟨.type "function",none,.func { name:=n,qualname:=q,params:=a,body:= .stmts b,scope:=sc,globals:=3,closure:=[],defaults:=d,kwdefaults:=kw,doc:=doc,pyModule:=md,code:= .ref c,builtins:=bl }, #[]⟩
 |_=>default
def dr:Stmt->DefRec
 |.FunctionDef n a b _ _ _ sc _ _ x=>⟨n,a,b,sc,x⟩
 |_=>⟨"",⟨[], [],none, [], [],none, []⟩, [],default,default⟩
abbrev cc (nm qn:Str)(t l a fl x tb:Nat)(d v f:Value)(z n t':Nat):Obj:=co [s nm t,s qn (t+1),s "/claim/cut.py" (t+2),i l 0,i a 0,i 0 0,i 0 0,i fl 0,r x,.bool true,i 181 0,r tb,d,v,f,r z,i n 0,i l 0,s "/claim/cut.py" t']
abbrev fo (q md:Str)(t:Tok)(c:Addr)(x:Stmt):Obj:=fn q .none .none .none (s md t) c 0 x
noncomputable def tree (P:Params):BT:=(.node (boot_o_0 P) (.node (boot_o_1 P) (.node (boot_o_3 P) (.node (boot_o_7 P) .nil .nil) .nil) (.node (boot_o_5 P) (.node (boot_o_9 P) .nil .nil) .nil)) (.node (boot_o_2 P) (.node (boot_o_4 P) (.node (boot_o_8 P) .nil .nil) .nil) (.node (boot_o_6 P) (.node (boot_o_10 P) .nil .nil) .nil)))
noncomputable def S (w:World)(os:OsState):SharedT:=⟨tree w.params,11,(boot_heap w.params).life,Array.mk [],boot_drawn,boot_toks,os⟩
theorem c1K (w:World)(os:OsState):(S w os).abs=⟨boot_heap w.params,Array.mk [],boot_drawn,boot_toks,os⟩:=by kernel_rfl
set_option maxRecDepth 100000
noncomputable section
abbrev p:Program:=PySem.Challenge.pw_bitrail_k93_whole_tails_never_part
noncomputable def K (P : Params) : Frag := (nat_lit 2, di .none [] 0) :: (nat_lit 3, di (t "dict") [e P "__name__" 165 (s "law_bitrail_k93_whole_tails_never_part" 1652), e P "__doc__" 166 .none, e P "__package__" 167 .none, e P "__loader__" 168 (b "__main__.__loader__#opaque"), e P "__spec__" 169 .none, e P "__annotations__" 170 (r 6), e P "__builtins__" 171 (r 4), e P "__file__" 173 (s "/claim/cut.py" 172), e P "__cached__" 174 .none, e P "_wall" 193 (r 21), e P "RailError" 213 (r 31), e P "NoBits" 229 (r 44), e P "NoName" 245 (r 56), e P "NoKey" 261 (r 68), e P "NoFrame" 277 (r 80), e P "NoPost" 293 (r 92), e P "HIGHEST_BYTE" 297 (i 255 296), e P "bits_of" 303 (r 99), e P "number_of" 312 (r 106), e P "are_bytes" 318 (r 111), e P "GREAT_FAULT" 322 (i 8 321), e P "SMALL_FAULT" 324 (i 1 323), e P "QUIET_FROM" 326 (i 12 325), e P "OFF_FROM" 328 (i 18 327), e P "Count" 407 (r 177), e P "divided" 420 (r 188), e P "KEY" 424 (i 64647 423), e P "CHECK_BITS" 426 (i 15 425), e P "rest_of" 433 (r 195), e P "check_of" 440 (r 202), e P "NAME_BITS" 444 (i 8 443), e P "HIGHEST_NAME" 446 (i 255 445), e P "is_name" 453 (r 209), e P "is_wanted" 461 (r 216), e P "MOST_ALIKE" 465 (i 5 464), e P "Streak" 516 (r 254), e P "put_in" 526 (r 265), e P "SIZE_AT" 530 (i 9 529), e P "SIZE_BITS" 532 (i 3 531), e P "DATA_AT" 534 (i 12 533), e P "BYTE_BITS" 536 (i 8 535), e P "MOST_BYTES" 538 (i 7 537), e P "check_frame" 546 (r 272), e P "frame_bits" 556 (r 279), e P "is_complete" 563 (r 286), e P "told_size" 570 (r 293), e P "read_frame" 576 (r 298), e P "wire_of" 584 (r 305), e P "Reader" 646 (r 350), e P "ANSWER_AT" 650 (i 1 649), e P "VOTES_AT" 652 (i 9 651), e P "Tail" 725 (r 406), e P "ReadTail" 749 (r 427), e P "SpeakTail" 773 (r 446), e P "FLAG_BITS_stances" 777 (i 6 776), e P "REST_TURNS" 779 (i 3 778), e P "QUIET_TURNS" 781 (i 8 780), e P "DUEL_BITS" 783 (i 9 782), e P "begun_reader" 790 (r 455), e P "unless_off" 799 (r 462), e P "fault_of" 807 (r 469), e P "refusal_of" 815 (r 476), e P "blame_of" 822 (r 483), e P "Free" 876 (r 521), e P "Speaks" 935 (r 563), e P "Reads" 991 (r 605), e P "InTail" 1047 (r 647), e P "Flagging" 1102 (r 689), e P "Settles" 1155 (r 731), e P "Rests" 1208 (r 773), e P "Off" 1252 (r 808), e P "VOTES" 1258 (r 813), e P "check_votes" 1265 (r 820), e P "check_choice" 1272 (r 827), e P "copies" 1278 (r 832), e P "Post" 1409 (r 940), e P "LEAST_POSTS" 1413 (i 2 1412), e P "MOST_POSTS_verdicts" 1415 (i 5 1414), e P "FLAG_BITS_verdicts" 1417 (i 6 1416), e P "Judge" 1463 (r 975), e P "verdicts" 1469 (r 984), e P "check_tail" 1480 (r 991), e P "MOST_POSTS_rails" 1484 (i 5 1483), e P "Rail" 1642 (r 1114), e P "heard_well" 1651 (r 1125), e P "_law_draw" 1664 (r 1132), e P "_law_size" 1678 (r 1139), e P "_law_frames" 1684 (r 1144), e P "_law_wrong" 1699 (r 1151), e P "_law_took" 1710 (r 1158), e P "law" 1716 (r 1163)] 91) :: (nat_lit 4, ⟨.type "module", some builtinsNs, .plain, #[]⟩) :: (nat_lit 30, di (t "dict") [e P "__module__" 203 (s "bitrail.errors" 194), e P "__firstlineno__" 207 (i 5 206), e P "__static_attributes__" 208 (r 29), e P "__weakref__" 210 (r 32), e P "__doc__" 211 .none] 3) :: (nat_lit 31, cl { name := "RailError", bases := [t "ValueError"], mro := [r 31, t "ValueError", t "Exception", t "BaseException", t "object"], ns := 30, qualname := "RailError", hasDict := true, subclasses := [r 44, r 56, r 68, r 80, r 92] } [o (r 22), .none, o (s "RailError" 196), o (s "RailError" 204), o (b "ValueError.__new__"), o (.bool true)]) :: (nat_lit 43, di (t "dict") [e P "__module__" 221 (s "bitrail.errors" 194), e P "__firstlineno__" 225 (i 7 224), e P "__static_attributes__" 226 (r 42), e P "__doc__" 227 .none] 2) :: (nat_lit 44, cl { name := "NoBits", bases := [r 31], mro := [r 44, r 31, t "ValueError", t "Exception", t "BaseException", t "object"], ns := 43, qualname := "NoBits", hasDict := true, subclasses := [] } [o (r 35), .none, o (s "NoBits" 214), o (s "NoBits" 222), o (b "ValueError.__new__"), o (.bool true)]) :: (nat_lit 55, di (t "dict") [e P "__module__" 237 (s "bitrail.errors" 194), e P "__firstlineno__" 241 (i 9 240), e P "__static_attributes__" 242 (r 54), e P "__doc__" 243 .none] 2) :: (nat_lit 56, cl { name := "NoName", bases := [r 31], mro := [r 56, r 31, t "ValueError", t "Exception", t "BaseException", t "object"], ns := 55, qualname := "NoName", hasDict := true, subclasses := [] } [o (r 47), .none, o (s "NoName" 230), o (s "NoName" 238), o (b "ValueError.__new__"), o (.bool true)]) :: (nat_lit 67, di (t "dict") [e P "__module__" 253 (s "bitrail.errors" 194), e P "__firstlineno__" 257 (i 11 256), e P "__static_attributes__" 258 (r 66), e P "__doc__" 259 .none] 2) :: (nat_lit 68, cl { name := "NoKey", bases := [r 31], mro := [r 68, r 31, t "ValueError", t "Exception", t "BaseException", t "object"], ns := 67, qualname := "NoKey", hasDict := true, subclasses := [] } [o (r 59), .none, o (s "NoKey" 246), o (s "NoKey" 254), o (b "ValueError.__new__"), o (.bool true)]) :: (nat_lit 79, di (t "dict") [e P "__module__" 269 (s "bitrail.errors" 194), e P "__firstlineno__" 273 (i 13 272), e P "__static_attributes__" 274 (r 78), e P "__doc__" 275 .none] 2) :: (nat_lit 80, cl { name := "NoFrame", bases := [r 31], mro := [r 80, r 31, t "ValueError", t "Exception", t "BaseException", t "object"], ns := 79, qualname := "NoFrame", hasDict := true, subclasses := [] } [o (r 71), .none, o (s "NoFrame" 262), o (s "NoFrame" 270), o (b "ValueError.__new__"), o (.bool true)]) :: (nat_lit 91, di (t "dict") [e P "__module__" 285 (s "bitrail.errors" 194), e P "__firstlineno__" 289 (i 15 288), e P "__static_attributes__" 290 (r 90), e P "__doc__" 291 .none] 2) :: (nat_lit 92, cl { name := "NoPost", bases := [r 31], mro := [r 92, r 31, t "ValueError", t "Exception", t "BaseException", t "object"], ns := 91, qualname := "NoPost", hasDict := true, subclasses := [] } [o (r 83), .none, o (s "NoPost" 278), o (s "NoPost" 286), o (b "ValueError.__new__"), o (.bool true)]) :: (nat_lit 98, cc "bits_of" "bits_of" 298 19 2 3 95 96 .none .none .none 97 301 302) :: (nat_lit 99, fo "bits_of" "bitrail.bits" 294 98 (sf p 10)) :: (nat_lit 105, cc "number_of" "number_of" 304 23 1 3 100 101 .none (r 102) (r 103) 104 310 311) :: (nat_lit 106, fo "number_of" "bitrail.bits" 294 105 (sf p 11)) :: (nat_lit 110, cc "are_bytes" "are_bytes" 313 28 1 3 107 108 .none .none .none 109 316 317) :: (nat_lit 111, fo "are_bytes" "bitrail.bits" 294 110 (sf p 12)) :: (nat_lit 124, cc "__init__" "Count.__init__" 341 37 1 3 119 120 .none (r 121) (r 122) 123 345 346) :: (nat_lit 125, fo "Count.__init__" "bitrail.counts" 319 124 (sub 0 (sf p 18))) :: (nat_lit 131, cc "fault" "Count.fault" 348 40 2 3 126 127 .none (r 128) (r 129) 130 353 354) :: (nat_lit 132, fo "Count.fault" "bitrail.counts" 319 131 (sub 1 (sf p 18))) :: (nat_lit 138, cc "blame" "Count.blame" 356 43 1 3 133 134 .none (r 135) (r 136) 137 360 361) :: (nat_lit 139, fo "Count.blame" "bitrail.counts" 319 138 (sub 2 (sf p 18))) :: (nat_lit 145, cc "good" "Count.good" 363 46 1 3 140 141 .none (r 142) (r 143) 144 367 368) :: (nat_lit 146, fo "Count.good" "bitrail.counts" 319 145 (sub 3 (sf p 18))) :: (nat_lit 152, cc "move" "Count.move" 370 49 2 3 147 148 .none (r 149) (r 150) 151 375 376) :: (nat_lit 153, fo "Count.move" "bitrail.counts" 319 152 (sub 4 (sf p 18))) :: (nat_lit 159, cc "number" "Count.number" 378 53 1 3 154 155 .none (r 156) (r 157) 158 382 383) :: (nat_lit 160, fo "Count.number" "bitrail.counts" 319 159 (sub 5 (sf p 18))) :: (nat_lit 166, cc "is_quiet" "Count.is_quiet" 385 56 1 3 161 162 .none (r 163) (r 164) 165 389 390) :: (nat_lit 167, fo "Count.is_quiet" "bitrail.counts" 319 166 (sub 6 (sf p 18))) :: (nat_lit 173, cc "is_off" "Count.is_off" 392 59 1 3 168 169 .none (r 170) (r 171) 172 396 397) :: (nat_lit 174, fo "Count.is_off" "bitrail.counts" 319 173 (sub 7 (sf p 18))) :: (nat_lit 176, di (t "dict") [e P "__module__" 336 (s "bitrail.counts" 319), e P "__firstlineno__" 340 (i 35 339), e P "__init__" 347 (r 125), e P "fault" 355 (r 132), e P "blame" 362 (r 139), e P "good" 369 (r 146), e P "move" 377 (r 153), e P "number" 384 (r 160), e P "is_quiet" 391 (r 167), e P "is_off" 398 (r 174), e P "__static_attributes__" 400 (r 175), e P "__dict__" 402 (r 178), e P "__weakref__" 404 (r 179), e P "__doc__" 405 .none] 4) :: (nat_lit 177, cl { name := "Count", bases := [t "object"], mro := [r 177, t "object"], ns := 176, qualname := "Count", hasDict := true, subclasses := [] } [.none, .none, o (s "Count" 329), o (s "Count" 337), o (b "object.__new__"), o (.bool true)]) :: (nat_lit 187, cc "divided" "divided" 410 62 2 3 182 183 .none (r 184) (r 185) 186 418 419) :: (nat_lit 188, fo "divided" "bitrail.keys" 408 187 (sf p 20)) :: (nat_lit 194, cc "rest_of" "rest_of" 427 75 1 3 189 190 .none (r 191) (r 192) 193 431 432) :: (nat_lit 195, fo "rest_of" "bitrail.checks" 421 194 (sf p 24)) :: (nat_lit 201, cc "check_of" "check_of" 434 77 1 3 196 197 .none (r 198) (r 199) 200 438 439) :: (nat_lit 202, fo "check_of" "bitrail.checks" 421 201 (sf p 25)) :: (nat_lit 208, cc "is_name" "is_name" 447 82 1 3 203 204 .none (r 205) (r 206) 207 451 452) :: (nat_lit 209, fo "is_name" "bitrail.names" 441 208 (sf p 29)) :: (nat_lit 215, cc "is_wanted" "is_wanted" 454 84 2 3 210 211 .none (r 212) (r 213) 214 459 460) :: (nat_lit 216, fo "is_wanted" "bitrail.names" 441 215 (sf p 30)) :: (nat_lit 229, cc "__init__" "Streak.__init__" 478 90 1 3 224 225 .none (r 226) (r 227) 228 482 483) :: (nat_lit 230, fo "Streak.__init__" "bitrail.putting" 462 229 (sub 0 (sf p 33))) :: (nat_lit 236, cc "lengthen" "Streak.lengthen" 485 94 2 3 231 232 .none (r 233) (r 234) 235 490 491) :: (nat_lit 237, fo "Streak.lengthen" "bitrail.putting" 462 236 (sub 1 (sf p 33))) :: (nat_lit 243, cc "is_full" "Streak.is_full" 493 98 1 3 238 239 .none (r 240) (r 241) 242 497 498) :: (nat_lit 244, fo "Streak.is_full" "bitrail.putting" 462 243 (sub 2 (sf p 33))) :: (nat_lit 250, cc "is_too_long" "Streak.is_too_long" 500 101 1 3 245 246 .none (r 247) (r 248) 249 504 505) :: (nat_lit 251, fo "Streak.is_too_long" "bitrail.putting" 462 250 (sub 3 (sf p 33))) :: (nat_lit 253, di (t "dict") [e P "__module__" 473 (s "bitrail.putting" 462), e P "__firstlineno__" 477 (i 88 476), e P "__init__" 484 (r 230), e P "lengthen" 492 (r 237), e P "is_full" 499 (r 244), e P "is_too_long" 506 (r 251), e P "__static_attributes__" 509 (r 252), e P "__dict__" 511 (r 255), e P "__weakref__" 513 (r 256), e P "__doc__" 514 .none] 4) :: (nat_lit 254, cl { name := "Streak", bases := [t "object"], mro := [r 254, t "object"], ns := 253, qualname := "Streak", hasDict := true, subclasses := [] } [.none, .none, o (s "Streak" 466), o (s "Streak" 474), o (b "object.__new__"), o (.bool true)]) :: (nat_lit 264, cc "put_in" "put_in" 517 103 1 3 259 260 .none (r 261) (r 262) 263 524 525) :: (nat_lit 265, fo "put_in" "bitrail.putting" 462 264 (sf p 34)) :: (nat_lit 271, cc "check_frame" "check_frame" 539 119 2 3 266 267 .none (r 268) (r 269) 270 544 545) :: (nat_lit 272, fo "check_frame" "bitrail.frames" 527 271 (sf p 41)) :: (nat_lit 278, cc "frame_bits" "frame_bits" 547 126 2 3 273 274 .none (r 275) (r 276) 277 554 555) :: (nat_lit 279, fo "frame_bits" "bitrail.frames" 527 278 (sf p 42)) :: (nat_lit 285, cc "is_complete" "is_complete" 557 132 1 3 280 281 .none (r 282) (r 283) 284 561 562) :: (nat_lit 286, fo "is_complete" "bitrail.frames" 527 285 (sf p 43)) :: (nat_lit 292, cc "told_size" "told_size" 564 134 1 3 287 288 .none (r 289) (r 290) 291 568 569) :: (nat_lit 293, fo "told_size" "bitrail.frames" 527 292 (sf p 44)) :: (nat_lit 297, cc "read_frame" "read_frame" 571 136 1 3 294 295 .none .none .none 296 574 575) :: (nat_lit 298, fo "read_frame" "bitrail.frames" 527 297 (sf p 45)) :: (nat_lit 304, cc "wire_of" "wire_of" 577 145 2 3 299 300 .none (r 301) (r 302) 303 582 583) :: (nat_lit 305, fo "wire_of" "bitrail.frames" 527 304 (sf p 46)) :: (nat_lit 318, cc "__init__" "Reader.__init__" 599 150 1 3 313 314 .none (r 315) (r 316) 317 603 604) :: (nat_lit 319, fo "Reader.__init__" "bitrail.readers" 585 318 (sub 0 (sf p 48))) :: (nat_lit 325, cc "hear" "Reader.hear" 606 155 2 3 320 321 .none (r 322) (r 323) 324 612 613) :: (nat_lit 326, fo "Reader.hear" "bitrail.readers" 585 325 (sub 1 (sf p 48))) :: (nat_lit 332, cc "judged" "Reader.judged" 615 163 1 3 327 328 .none (r 329) (r 330) 331 619 620) :: (nat_lit 333, fo "Reader.judged" "bitrail.readers" 585 332 (sub 2 (sf p 48))) :: (nat_lit 339, cc "plain" "Reader.plain" 622 170 1 3 334 335 .none (r 336) (r 337) 338 626 627) :: (nat_lit 340, fo "Reader.plain" "bitrail.readers" 585 339 (sub 3 (sf p 48))) :: (nat_lit 346, cc "frame" "Reader.frame" 629 173 1 3 341 342 .none (r 343) (r 344) 345 633 634) :: (nat_lit 347, fo "Reader.frame" "bitrail.readers" 585 346 (sub 4 (sf p 48))) :: (nat_lit 349, di (t "dict") [e P "__module__" 594 (s "bitrail.readers" 585), e P "__firstlineno__" 598 (i 148 597), e P "__init__" 605 (r 319), e P "hear" 614 (r 326), e P "judged" 621 (r 333), e P "plain" 628 (r 340), e P "frame" 635 (r 347), e P "__static_attributes__" 639 (r 348), e P "__dict__" 641 (r 351), e P "__weakref__" 643 (r 352), e P "__doc__" 644 .none] 4) :: (nat_lit 350, cl { name := "Reader", bases := [t "object"], mro := [r 350, t "object"], ns := 349, qualname := "Reader", hasDict := true, subclasses := [] } [.none, .none, o (s "Reader" 587), o (s "Reader" 595), o (b "object.__new__"), o (.bool true)]) :: (nat_lit 367, cc "__init__" "Tail.__init__" 665 180 3 3 362 363 .none (r 364) (r 365) 366 671 672) :: (nat_lit 368, fo "Tail.__init__" "bitrail.tails" 647 367 (sub 0 (sf p 52))) :: (nat_lit 374, cc "says" "Tail.says" 674 186 1 3 369 370 .none (r 371) (r 372) 373 678 679) :: (nat_lit 375, fo "Tail.says" "bitrail.tails" 647 374 (sub 1 (sf p 52))) :: (nat_lit 381, cc "hear" "Tail.hear" 681 189 2 3 376 377 .none (r 378) (r 379) 380 687 688) :: (nat_lit 382, fo "Tail.hear" "bitrail.tails" 647 381 (sub 2 (sf p 52))) :: (nat_lit 388, cc "is_fault" "Tail.is_fault" 690 196 3 3 383 384 .none (r 385) (r 386) 387 696 697) :: (nat_lit 389, fo "Tail.is_fault" "bitrail.tails" 647 388 (sub 3 (sf p 52))) :: (nat_lit 395, cc "judged_vote" "Tail.judged_vote" 699 201 2 3 390 391 .none (r 392) (r 393) 394 704 705) :: (nat_lit 396, fo "Tail.judged_vote" "bitrail.tails" 647 395 (sub 4 (sf p 52))) :: (nat_lit 402, cc "place" "Tail.place" 707 208 1 3 397 398 .none (r 399) (r 400) 401 711 712) :: (nat_lit 403, fo "Tail.place" "bitrail.tails" 647 402 (sub 5 (sf p 52))) :: (nat_lit 405, di (t "dict") [e P "__module__" 660 (s "bitrail.tails" 647), e P "__firstlineno__" 664 (i 178 663), e P "__init__" 673 (r 368), e P "says" 680 (r 375), e P "hear" 689 (r 382), e P "is_fault" 698 (r 389), e P "judged_vote" 706 (r 396), e P "place" 713 (r 403), e P "__static_attributes__" 718 (r 404), e P "__dict__" 720 (r 407), e P "__weakref__" 722 (r 408), e P "__doc__" 723 .none] 4) :: (nat_lit 406, cl { name := "Tail", bases := [t "object"], mro := [r 406, t "object"], ns := 405, qualname := "Tail", hasDict := true, subclasses := [r 427, r 446] } [.none, .none, o (s "Tail" 653), o (s "Tail" 661), o (b "object.__new__"), o (.bool true)]) :: (nat_lit 423, cc "__init__" "ReadTail.__init__" 738 212 2 3 418 419 .none (r 420) (r 421) 422 743 744) :: (nat_lit 424, fo "ReadTail.__init__" "bitrail.tails" 647 423 (sub 0 (sf p 53))) :: (nat_lit 426, di (t "dict") [e P "__module__" 733 (s "bitrail.tails" 647), e P "__firstlineno__" 737 (i 210 736), e P "__init__" 745 (r 424), e P "__static_attributes__" 746 (r 425), e P "__doc__" 747 .none] 2) :: (nat_lit 427, cl { name := "ReadTail", bases := [r 406], mro := [r 427, r 406, t "object"], ns := 426, qualname := "ReadTail", hasDict := true, subclasses := [] } [o (r 411), .none, o (s "ReadTail" 726), o (s "ReadTail" 734), o (b "object.__new__"), o (.bool true)]) :: (nat_lit 442, cc "__init__" "SpeakTail.__init__" 762 216 2 3 437 438 .none (r 439) (r 440) 441 767 768) :: (nat_lit 443, fo "SpeakTail.__init__" "bitrail.tails" 647 442 (sub 0 (sf p 54))) :: (nat_lit 445, di (t "dict") [e P "__module__" 757 (s "bitrail.tails" 647), e P "__firstlineno__" 761 (i 214 760), e P "__init__" 769 (r 443), e P "__static_attributes__" 770 (r 444), e P "__doc__" 771 .none] 2) :: (nat_lit 446, cl { name := "SpeakTail", bases := [r 406], mro := [r 446, r 406, t "object"], ns := 445, qualname := "SpeakTail", hasDict := true, subclasses := [] } [o (r 430), .none, o (s "SpeakTail" 750), o (s "SpeakTail" 758), o (b "object.__new__"), o (.bool true)]) :: (nat_lit 454, cc "begun_reader" "begun_reader" 784 223 0 3 449 450 .none (r 451) (r 452) 453 788 789) :: (nat_lit 455, fo "begun_reader" "bitrail.stances" 774 454 (sf p 60)) :: (nat_lit 461, cc "unless_off" "unless_off" 791 227 3 3 456 457 .none (r 458) (r 459) 460 797 798) :: (nat_lit 462, fo "unless_off" "bitrail.stances" 774 461 (sf p 61)) :: (nat_lit 468, cc "fault_of" "fault_of" 800 229 2 3 463 464 .none (r 465) (r 466) 467 805 806) :: (nat_lit 469, fo "fault_of" "bitrail.stances" 774 468 (sf p 62)) :: (nat_lit 475, cc "refusal_of" "refusal_of" 808 232 2 3 470 471 .none (r 472) (r 473) 474 813 814) :: (nat_lit 476, fo "refusal_of" "bitrail.stances" 774 475 (sf p 63)) :: (nat_lit 482, cc "blame_of" "blame_of" 816 235 1 3 477 478 .none (r 479) (r 480) 481 820 821) :: (nat_lit 483, fo "blame_of" "bitrail.stances" 774 482 (sf p 64)) :: (nat_lit 496, cc "__init__" "Free.__init__" 835 240 2 3 491 492 .none (r 493) (r 494) 495 840 841) :: (nat_lit 497, fo "Free.__init__" "bitrail.stances" 774 496 (sub 0 (sf p 65))) :: (nat_lit 510, cc "says" "Free.says" 850 246 2 3 505 506 .none (r 507) (r 508) 509 855 856) :: (nat_lit 511, fo "Free.says" "bitrail.stances" 774 510 (sub 2 (sf p 65))) :: (nat_lit 517, cc "step" "Free.step" 858 251 3 3 512 513 .none (r 514) (r 515) 516 865 866) :: (nat_lit 518, fo "Free.step" "bitrail.stances" 774 517 (sub 3 (sf p 65))) :: (nat_lit 520, di (t "dict") [e P "__module__" 830 (s "bitrail.stances" 774), e P "__firstlineno__" 834 (i 238 833), e P "__init__" 842 (r 497), e P "shown" 849 (r 504), e P "says" 857 (r 511), e P "step" 867 (r 518), e P "__static_attributes__" 869 (r 519), e P "__dict__" 871 (r 522), e P "__weakref__" 873 (r 523), e P "__doc__" 874 .none] 4) :: (nat_lit 521, cl { name := "Free", bases := [t "object"], mro := [r 521, t "object"], ns := 520, qualname := "Free", hasDict := true, subclasses := [] } [.none, .none, o (s "Free" 823), o (s "Free" 831), o (b "object.__new__"), o (.bool true)]) :: (nat_lit 538, cc "__init__" "Speaks.__init__" 889 262 4 3 533 534 .none (r 535) (r 536) 537 896 897) :: (nat_lit 539, fo "Speaks.__init__" "bitrail.stances" 774 538 (sub 0 (sf p 66))) :: (nat_lit 552, cc "says" "Speaks.says" 906 270 2 3 547 548 .none (r 549) (r 550) 551 911 912) :: (nat_lit 553, fo "Speaks.says" "bitrail.stances" 774 552 (sub 2 (sf p 66))) :: (nat_lit 559, cc "step" "Speaks.step" 914 273 3 3 554 555 .none (r 556) (r 557) 558 922 923) :: (nat_lit 560, fo "Speaks.step" "bitrail.stances" 774 559 (sub 3 (sf p 66))) :: (nat_lit 562, di (t "dict") [e P "__module__" 884 (s "bitrail.stances" 774), e P "__firstlineno__" 888 (i 260 887), e P "__init__" 898 (r 539), e P "shown" 905 (r 546), e P "says" 913 (r 553), e P "step" 924 (r 560), e P "__static_attributes__" 928 (r 561), e P "__dict__" 930 (r 564), e P "__weakref__" 932 (r 565), e P "__doc__" 933 .none] 4) :: (nat_lit 563, cl { name := "Speaks", bases := [t "object"], mro := [r 563, t "object"], ns := 562, qualname := "Speaks", hasDict := true, subclasses := [] } [.none, .none, o (s "Speaks" 877), o (s "Speaks" 885), o (b "object.__new__"), o (.bool true)]) :: (nat_lit 580, cc "__init__" "Reads.__init__" 948 287 3 3 575 576 .none (r 577) (r 578) 579 954 955) :: (nat_lit 581, fo "Reads.__init__" "bitrail.stances" 774 580 (sub 0 (sf p 67))) :: (nat_lit 594, cc "says" "Reads.says" 964 294 2 3 589 590 .none (r 591) (r 592) 593 969 970) :: (nat_lit 595, fo "Reads.says" "bitrail.stances" 774 594 (sub 2 (sf p 67))) :: (nat_lit 601, cc "step" "Reads.step" 972 297 3 3 596 597 .none (r 598) (r 599) 600 979 980) :: (nat_lit 602, fo "Reads.step" "bitrail.stances" 774 601 (sub 3 (sf p 67))) :: (nat_lit 604, di (t "dict") [e P "__module__" 943 (s "bitrail.stances" 774), e P "__firstlineno__" 947 (i 285 946), e P "__init__" 956 (r 581), e P "shown" 963 (r 588), e P "says" 971 (r 595), e P "step" 981 (r 602), e P "__static_attributes__" 984 (r 603), e P "__dict__" 986 (r 606), e P "__weakref__" 988 (r 607), e P "__doc__" 989 .none] 4) :: (nat_lit 605, cl { name := "Reads", bases := [t "object"], mro := [r 605, t "object"], ns := 604, qualname := "Reads", hasDict := true, subclasses := [] } [.none, .none, o (s "Reads" 936), o (s "Reads" 944), o (b "object.__new__"), o (.bool true)]) :: (nat_lit 622, cc "__init__" "InTail.__init__" 1004 306 3 3 617 618 .none (r 619) (r 620) 621 1010 1011) :: (nat_lit 623, fo "InTail.__init__" "bitrail.stances" 774 622 (sub 0 (sf p 68))) :: (nat_lit 636, cc "says" "InTail.says" 1020 313 2 3 631 632 .none (r 633) (r 634) 635 1025 1026) :: (nat_lit 637, fo "InTail.says" "bitrail.stances" 774 636 (sub 2 (sf p 68))) :: (nat_lit 643, cc "step" "InTail.step" 1028 316 3 3 638 639 .none (r 640) (r 641) 642 1035 1036) :: (nat_lit 644, fo "InTail.step" "bitrail.stances" 774 643 (sub 3 (sf p 68))) :: (nat_lit 646, di (t "dict") [e P "__module__" 999 (s "bitrail.stances" 774), e P "__firstlineno__" 1003 (i 304 1002), e P "__init__" 1012 (r 623), e P "shown" 1019 (r 630), e P "says" 1027 (r 637), e P "step" 1037 (r 644), e P "__static_attributes__" 1040 (r 645), e P "__dict__" 1042 (r 648), e P "__weakref__" 1044 (r 649), e P "__doc__" 1045 .none] 4) :: (nat_lit 647, cl { name := "InTail", bases := [t "object"], mro := [r 647, t "object"], ns := 646, qualname := "InTail", hasDict := true, subclasses := [] } [.none, .none, o (s "InTail" 992), o (s "InTail" 1000), o (b "object.__new__"), o (.bool true)]) :: (nat_lit 664, cc "__init__" "Flagging.__init__" 1060 332 3 3 659 660 .none (r 661) (r 662) 663 1066 1067) :: (nat_lit 665, fo "Flagging.__init__" "bitrail.stances" 774 664 (sub 0 (sf p 69))) :: (nat_lit 678, cc "says" "Flagging.says" 1076 339 2 3 673 674 .none (r 675) (r 676) 677 1081 1082) :: (nat_lit 679, fo "Flagging.says" "bitrail.stances" 774 678 (sub 2 (sf p 69))) :: (nat_lit 685, cc "step" "Flagging.step" 1084 342 3 3 680 681 .none (r 682) (r 683) 684 1090 1091) :: (nat_lit 686, fo "Flagging.step" "bitrail.stances" 774 685 (sub 3 (sf p 69))) :: (nat_lit 688, di (t "dict") [e P "__module__" 1055 (s "bitrail.stances" 774), e P "__firstlineno__" 1059 (i 330 1058), e P "__init__" 1068 (r 665), e P "shown" 1075 (r 672), e P "says" 1083 (r 679), e P "step" 1092 (r 686), e P "__static_attributes__" 1095 (r 687), e P "__dict__" 1097 (r 690), e P "__weakref__" 1099 (r 691), e P "__doc__" 1100 .none] 4) :: (nat_lit 689, cl { name := "Flagging", bases := [t "object"], mro := [r 689, t "object"], ns := 688, qualname := "Flagging", hasDict := true, subclasses := [] } [.none, .none, o (s "Flagging" 1048), o (s "Flagging" 1056), o (b "object.__new__"), o (.bool true)]) :: (nat_lit 706, cc "__init__" "Settles.__init__" 1115 348 2 3 701 702 .none (r 703) (r 704) 705 1120 1121) :: (nat_lit 707, fo "Settles.__init__" "bitrail.stances" 774 706 (sub 0 (sf p 70))) :: (nat_lit 720, cc "says" "Settles.says" 1130 354 2 3 715 716 .none (r 717) (r 718) 719 1135 1136) :: (nat_lit 721, fo "Settles.says" "bitrail.stances" 774 720 (sub 2 (sf p 70))) :: (nat_lit 727, cc "step" "Settles.step" 1138 357 3 3 722 723 .none (r 724) (r 725) 726 1144 1145) :: (nat_lit 728, fo "Settles.step" "bitrail.stances" 774 727 (sub 3 (sf p 70))) :: (nat_lit 730, di (t "dict") [e P "__module__" 1110 (s "bitrail.stances" 774), e P "__firstlineno__" 1114 (i 346 1113), e P "__init__" 1122 (r 707), e P "shown" 1129 (r 714), e P "says" 1137 (r 721), e P "step" 1146 (r 728), e P "__static_attributes__" 1148 (r 729), e P "__dict__" 1150 (r 732), e P "__weakref__" 1152 (r 733), e P "__doc__" 1153 .none] 4) :: (nat_lit 731, cl { name := "Settles", bases := [t "object"], mro := [r 731, t "object"], ns := 730, qualname := "Settles", hasDict := true, subclasses := [] } [.none, .none, o (s "Settles" 1103), o (s "Settles" 1111), o (b "object.__new__"), o (.bool true)]) :: (nat_lit 748, cc "__init__" "Rests.__init__" 1168 365 2 3 743 744 .none (r 745) (r 746) 747 1173 1174) :: (nat_lit 749, fo "Rests.__init__" "bitrail.stances" 774 748 (sub 0 (sf p 71))) :: (nat_lit 762, cc "says" "Rests.says" 1183 371 2 3 757 758 .none (r 759) (r 760) 761 1188 1189) :: (nat_lit 763, fo "Rests.says" "bitrail.stances" 774 762 (sub 2 (sf p 71))) :: (nat_lit 769, cc "step" "Rests.step" 1191 374 3 3 764 765 .none (r 766) (r 767) 768 1197 1198) :: (nat_lit 770, fo "Rests.step" "bitrail.stances" 774 769 (sub 3 (sf p 71))) :: (nat_lit 772, di (t "dict") [e P "__module__" 1163 (s "bitrail.stances" 774), e P "__firstlineno__" 1167 (i 363 1166), e P "__init__" 1175 (r 749), e P "shown" 1182 (r 756), e P "says" 1190 (r 763), e P "step" 1199 (r 770), e P "__static_attributes__" 1201 (r 771), e P "__dict__" 1203 (r 774), e P "__weakref__" 1205 (r 775), e P "__doc__" 1206 .none] 4) :: (nat_lit 773, cl { name := "Rests", bases := [t "object"], mro := [r 773, t "object"], ns := 772, qualname := "Rests", hasDict := true, subclasses := [] } [.none, .none, o (s "Rests" 1156), o (s "Rests" 1164), o (b "object.__new__"), o (.bool true)]) :: (nat_lit 797, cc "says" "Off.says" 1228 383 2 3 792 793 .none (r 794) (r 795) 796 1233 1234) :: (nat_lit 798, fo "Off.says" "bitrail.stances" 774 797 (sub 1 (sf p 72))) :: (nat_lit 804, cc "step" "Off.step" 1236 386 3 3 799 800 .none (r 801) (r 802) 803 1242 1243) :: (nat_lit 805, fo "Off.step" "bitrail.stances" 774 804 (sub 2 (sf p 72))) :: (nat_lit 807, di (t "dict") [e P "__module__" 1216 (s "bitrail.stances" 774), e P "__firstlineno__" 1220 (i 378 1219), e P "shown" 1227 (r 791), e P "says" 1235 (r 798), e P "step" 1244 (r 805), e P "__static_attributes__" 1245 (r 806), e P "__dict__" 1247 (r 809), e P "__weakref__" 1249 (r 810), e P "__doc__" 1250 .none] 4) :: (nat_lit 808, cl { name := "Off", bases := [t "object"], mro := [r 808, t "object"], ns := 807, qualname := "Off", hasDict := true, subclasses := [] } [.none, .none, o (s "Off" 1209), o (s "Off" 1217), o (b "object.__new__"), o (.bool true)]) :: (nat_lit 813, tp [i 1 1255, i 3 1256, i 5 1257]) :: (nat_lit 819, cc "check_votes" "check_votes" 1259 390 1 3 814 815 .none (r 816) (r 817) 818 1263 1264) :: (nat_lit 820, fo "check_votes" "bitrail.posts" 1253 819 (sf p 75)) :: (nat_lit 826, cc "check_choice" "check_choice" 1266 393 1 3 821 822 .none (r 823) (r 824) 825 1270 1271) :: (nat_lit 827, fo "check_choice" "bitrail.posts" 1253 826 (sf p 76)) :: (nat_lit 831, cc "copies" "copies" 1273 396 1 3 828 829 .none .none .none 830 1276 1277) :: (nat_lit 832, fo "copies" "bitrail.posts" 1253 831 (sf p 77)) :: (nat_lit 845, cc "__init__" "Post.__init__" 1291 400 3 3 840 841 .none (r 842) (r 843) 844 1297 1298) :: (nat_lit 846, fo "Post.__init__" "bitrail.posts" 1253 845 (sub 0 (sf p 78))) :: (nat_lit 852, cc "hand" "Post.hand" 1300 410 3 3 847 848 .none (r 849) (r 850) 851 1306 1307) :: (nat_lit 853, fo "Post.hand" "bitrail.posts" 1253 852 (sub 1 (sf p 78))) :: (nat_lit 859, cc "says" "Post.says" 1309 414 1 3 854 855 .none (r 856) (r 857) 858 1313 1314) :: (nat_lit 860, fo "Post.says" "bitrail.posts" 1253 859 (sub 2 (sf p 78))) :: (nat_lit 866, cc "hear" "Post.hear" 1316 417 2 3 861 862 .none (r 863) (r 864) 865 1322 1323) :: (nat_lit 867, fo "Post.hear" "bitrail.posts" 1253 866 (sub 3 (sf p 78))) :: (nat_lit 880, cc "waits" "Post.waits" 1332 425 1 3 875 876 .none (r 877) (r 878) 879 1336 1337) :: (nat_lit 881, fo "Post.waits" "bitrail.posts" 1253 880 (sub 5 (sf p 78))) :: (nat_lit 887, cc "got" "Post.got" 1339 428 1 3 882 883 .none (r 884) (r 885) 886 1343 1344) :: (nat_lit 888, fo "Post.got" "bitrail.posts" 1253 887 (sub 6 (sf p 78))) :: (nat_lit 901, cc "is_quiet" "Post.is_quiet" 1353 434 1 3 896 897 .none (r 898) (r 899) 900 1357 1358) :: (nat_lit 902, fo "Post.is_quiet" "bitrail.posts" 1253 901 (sub 8 (sf p 78))) :: (nat_lit 908, cc "is_off" "Post.is_off" 1360 437 1 3 903 904 .none (r 905) (r 906) 907 1364 1365) :: (nat_lit 909, fo "Post.is_off" "bitrail.posts" 1253 908 (sub 9 (sf p 78))) :: (nat_lit 915, cc "has_frame" "Post.has_frame" 1367 440 1 3 910 911 .none (r 912) (r 913) 914 1371 1372) :: (nat_lit 916, fo "Post.has_frame" "bitrail.posts" 1253 915 (sub 10 (sf p 78))) :: (nat_lit 922, cc "foremost_wire" "Post.foremost_wire" 1374 443 1 3 917 918 .none (r 919) (r 920) 921 1378 1379) :: (nat_lit 923, fo "Post.foremost_wire" "bitrail.posts" 1253 922 (sub 11 (sf p 78))) :: (nat_lit 929, cc "drop_foremost" "Post.drop_foremost" 1381 446 1 3 924 925 .none (r 926) (r 927) 928 1385 1386) :: (nat_lit 930, fo "Post.drop_foremost" "bitrail.posts" 1253 929 (sub 12 (sf p 78))) :: (nat_lit 936, cc "hand_up" "Post.hand_up" 1388 449 2 3 931 932 .none (r 933) (r 934) 935 1393 1394) :: (nat_lit 937, fo "Post.hand_up" "bitrail.posts" 1253 936 (sub 13 (sf p 78))) :: (nat_lit 939, di (t "dict") [e P "__module__" 1286 (s "bitrail.posts" 1253), e P "__firstlineno__" 1290 (i 398 1289), e P "__init__" 1299 (r 846), e P "hand" 1308 (r 853), e P "says" 1315 (r 860), e P "hear" 1324 (r 867), e P "stance" 1331 (r 874), e P "waits" 1338 (r 881), e P "got" 1345 (r 888), e P "faults" 1352 (r 895), e P "is_quiet" 1359 (r 902), e P "is_off" 1366 (r 909), e P "has_frame" 1373 (r 916), e P "foremost_wire" 1380 (r 923), e P "drop_foremost" 1387 (r 930), e P "hand_up" 1395 (r 937), e P "__static_attributes__" 1402 (r 938), e P "__dict__" 1404 (r 941), e P "__weakref__" 1406 (r 942), e P "__doc__" 1407 .none] 4) :: (nat_lit 940, cl { name := "Post", bases := [t "object"], mro := [r 940, t "object"], ns := 939, qualname := "Post", hasDict := true, subclasses := [] } [.none, .none, o (s "Post" 1279), o (s "Post" 1287), o (b "object.__new__"), o (.bool true)]) :: (nat_lit 957, cc "__init__" "Judge.__init__" 1430 458 2 3 952 953 .none (r 954) (r 955) 956 1435 1436) :: (nat_lit 958, fo "Judge.__init__" "bitrail.verdicts" 1410 957 (sub 0 (sf p 83))) :: (nat_lit 964, cc "says" "Judge.says" 1438 463 1 3 959 960 .none (r 961) (r 962) 963 1442 1443) :: (nat_lit 965, fo "Judge.says" "bitrail.verdicts" 1410 964 (sub 1 (sf p 83))) :: (nat_lit 971, cc "hear" "Judge.hear" 1445 468 2 3 966 967 .none (r 968) (r 969) 970 1450 1451) :: (nat_lit 972, fo "Judge.hear" "bitrail.verdicts" 1410 971 (sub 2 (sf p 83))) :: (nat_lit 974, di (t "dict") [e P "__module__" 1425 (s "bitrail.verdicts" 1410), e P "__firstlineno__" 1429 (i 456 1428), e P "__init__" 1437 (r 958), e P "says" 1444 (r 965), e P "hear" 1452 (r 972), e P "__static_attributes__" 1456 (r 973), e P "__dict__" 1458 (r 976), e P "__weakref__" 1460 (r 977), e P "__doc__" 1461 .none] 4) :: (nat_lit 975, cl { name := "Judge", bases := [t "object"], mro := [r 975, t "object"], ns := 974, qualname := "Judge", hasDict := true, subclasses := [] } [.none, .none, o (s "Judge" 1418), o (s "Judge" 1426), o (b "object.__new__"), o (.bool true)]) :: (nat_lit 983, cc "verdicts" "verdicts" 1464 474 3 3 980 981 .none .none .none 982 1467 1468) :: (nat_lit 984, fo "verdicts" "bitrail.verdicts" 1410 983 (sf p 84)) :: (nat_lit 990, cc "check_tail" "check_tail" 1470 482 3 3 985 986 .none (r 987) (r 988) 989 1478 1479) :: (nat_lit 991, fo "check_tail" "bitrail.verdicts" 1410 990 (sf p 85)) :: (nat_lit 1002, cc "__init__" "Rail.__init__" 1497 495 3 3 999 1000 .none .none .none 1001 1500 1501) :: (nat_lit 1003, fo "Rail.__init__" "bitrail.rails" 1481 1002 (sub 0 (sf p 88))) :: (nat_lit 1009, cc "hand" "Rail.hand" 1503 505 4 3 1004 1005 .none (r 1006) (r 1007) 1008 1511 1512) :: (nat_lit 1010, fo "Rail.hand" "bitrail.rails" 1481 1009 (sub 1 (sf p 88))) :: (nat_lit 1016, cc "turn" "Rail.turn" 1514 513 2 3 1011 1012 .none (r 1013) (r 1014) 1015 1521 1522) :: (nat_lit 1017, fo "Rail.turn" "bitrail.rails" 1481 1016 (sub 2 (sf p 88))) :: (nat_lit 1021, cc "run" "Rail.run" 1524 519 3 3 1018 1019 .none .none .none 1020 1527 1528) :: (nat_lit 1022, fo "Rail.run" "bitrail.rails" 1481 1021 (sub 3 (sf p 88))) :: (nat_lit 1026, cc "make_turn" "Rail.make_turn" 1530 523 2 3 1023 1024 .none .none .none 1025 1533 1534) :: (nat_lit 1027, fo "Rail.make_turn" "bitrail.rails" 1481 1026 (sub 4 (sf p 88))) :: (nat_lit 1033, cc "post_at" "Rail.post_at" 1536 536 2 3 1028 1029 .none (r 1030) (r 1031) 1032 1541 1542) :: (nat_lit 1034, fo "Rail.post_at" "bitrail.rails" 1481 1033 (sub 5 (sf p 88))) :: (nat_lit 1068, cc "events" "Rail.events" 1574 555 1 3 1063 1064 .none (r 1065) (r 1066) 1067 1578 1579) :: (nat_lit 1069, fo "Rail.events" "bitrail.rails" 1481 1068 (sub 10 (sf p 88))) :: (nat_lit 1082, cc "waits" "Rail.waits" 1589 561 2 3 1077 1078 .none (r 1079) (r 1080) 1081 1594 1595) :: (nat_lit 1083, fo "Rail.waits" "bitrail.rails" 1481 1082 (sub 12 (sf p 88))) :: (nat_lit 1089, cc "got" "Rail.got" 1597 564 2 3 1084 1085 .none (r 1086) (r 1087) 1088 1602 1603) :: (nat_lit 1090, fo "Rail.got" "bitrail.rails" 1481 1089 (sub 13 (sf p 88))) :: (nat_lit 1113, di (t "dict") [e P "__module__" 1492 (s "bitrail.rails" 1481), e P "__firstlineno__" 1496 (i 493 1495), e P "__init__" 1502 (r 1003), e P "hand" 1513 (r 1010), e P "turn" 1523 (r 1017), e P "run" 1529 (r 1022), e P "make_turn" 1535 (r 1027), e P "post_at" 1543 (r 1034), e P "turns" 1550 (r 1041), e P "bits" 1557 (r 1048), e P "said" 1565 (r 1055), e P "heard" 1573 (r 1062), e P "events" 1580 (r 1069), e P "stance" 1588 (r 1076), e P "waits" 1596 (r 1083), e P "got" 1604 (r 1090), e P "faults" 1612 (r 1097), e P "is_quiet" 1620 (r 1104), e P "is_off" 1628 (r 1111), e P "__static_attributes__" 1635 (r 1112), e P "__dict__" 1637 (r 1115), e P "__weakref__" 1639 (r 1116), e P "__doc__" 1640 .none] 4) :: (nat_lit 1114, cl { name := "Rail", bases := [t "object"], mro := [r 1114, t "object"], ns := 1113, qualname := "Rail", hasDict := true, subclasses := [] } [.none, .none, o (s "Rail" 1485), o (s "Rail" 1493), o (b "object.__new__"), o (.bool true)]) :: (nat_lit 1124, cc "heard_well" "heard_well" 1643 575 3 3 1119 1120 .none (r 1121) (r 1122) 1123 1649 1650) :: (nat_lit 1125, fo "heard_well" "bitrail.rails" 1481 1124 (sf p 89)) :: (nat_lit 1131, cc "_law_draw" "_law_draw" 1654 578 3 3 1126 1127 .none (r 1128) (r 1129) 1130 1662 1663) :: (nat_lit 1132, fo "_law_draw" "law_bitrail_k93_whole_tails_never_part" 1652 1131 (sf p 91)) :: (nat_lit 1138, cc "_law_size" "_law_size" 1665 582 2 3 1133 1134 .none (r 1135) (r 1136) 1137 1676 1677) :: (nat_lit 1139, fo "_law_size" "law_bitrail_k93_whole_tails_never_part" 1652 1138 (sf p 92)) :: (nat_lit 1143, cc "_law_frames" "_law_frames" 1679 597 2 3 1140 1141 .none .none .none 1142 1682 1683) :: (nat_lit 1144, fo "_law_frames" "law_bitrail_k93_whole_tails_never_part" 1652 1143 (sf p 93)) :: (nat_lit 1150, cc "_law_wrong" "_law_wrong" 1685 609 3 3 1145 1146 .none (r 1147) (r 1148) 1149 1697 1698) :: (nat_lit 1151, fo "_law_wrong" "law_bitrail_k93_whole_tails_never_part" 1652 1150 (sf p 94)) :: (nat_lit 1157, cc "_law_took" "_law_took" 1700 623 3 3 1152 1153 .none (r 1154) (r 1155) 1156 1708 1709) :: (nat_lit 1158, fo "_law_took" "law_bitrail_k93_whole_tails_never_part" 1652 1157 (sf p 95)) :: (nat_lit 1162, cc "law" "law" 1711 629 1 3 1159 1160 .none .none .none 1161 1714 1715) :: (nat_lit 1163, fo "law" "law_bitrail_k93_whole_tails_never_part" 1652 1162 (sf p 96)) :: []
noncomputable def KA (P:Params):Frag:=(nat_lit 1012,fi .none [])::K P
noncomputable def as:List Addr:=1012::2::3::4::30::31::43::44::55::56::67::68::79::80::91::92::98::99::105::106::110::111::124::125::131::132::138::139::145::146::152::153::159::160::166::167::173::174::176::177::187::188::194::195::201::202::208::209::215::216::229::230::236::237::243::244::250::251::253::254::264::265::271::272::278::279::285::286::292::293::297::298::304::305::318::319::325::326::332::333::339::340::346::347::349::350::367::368::374::375::381::382::388::389::395::396::402::403::405::406::423::424::426::427::442::443::445::446::454::455::461::462::468::469::475::476::482::483::496::497::510::511::517::518::520::521::538::539::552::553::559::560::562::563::580::581::594::595::601::602::604::605::622::623::636::637::643::644::646::647::664::665::678::679::685::686::688::689::706::707::720::721::727::728::730::731::748::749::762::763::769::770::772::773::797::798::804::805::807::808::813::819::820::826::827::831::832::845::846::852::853::859::860::866::867::880::881::887::888::901::902::908::909::915::916::922::923::929::930::936::937::939::940::957::958::964::965::971::972::974::975::983::984::990::991::1002::1003::1009::1010::1016::1017::1021::1022::1026::1027::1033::1034::1068::1069::1082::1083::1089::1090::1113::1114::1124::1125::1131::1132::1138::1139::1143::1144::1150::1151::1157::1158::1162::1163::[]
noncomputable def L (P:Params):List (Nat×Obj):=KA P
theorem K_L (P:Params):KA P=L P:=rfl
theorem K_as (P:Params):as=(KA P).map (·.1):=by kernel_rfl
def qv:Program:=view p [96]
def loose:List Str:="_wall"::"RailError"::"NoBits"::"NoName"::"NoKey"::"NoFrame"::"NoPost"::"HIGHEST_BYTE"::"bits_of"::"number_of"::"are_bytes"::"GREAT_FAULT"::"SMALL_FAULT"::"QUIET_FROM"::"OFF_FROM"::"Count"::"divided"::"KEY"::"CHECK_BITS"::"rest_of"::"check_of"::"NAME_BITS"::"HIGHEST_NAME"::"is_name"::"is_wanted"::"MOST_ALIKE"::"Streak"::"put_in"::"SIZE_AT"::"SIZE_BITS"::"DATA_AT"::"BYTE_BITS"::"MOST_BYTES"::"check_frame"::"frame_bits"::"is_complete"::"told_size"::"read_frame"::"wire_of"::"Reader"::"ANSWER_AT"::"VOTES_AT"::"Tail"::"ReadTail"::"SpeakTail"::"FLAG_BITS_stances"::"REST_TURNS"::"QUIET_TURNS"::"DUEL_BITS"::"begun_reader"::"unless_off"::"fault_of"::"refusal_of"::"blame_of"::"Free"::"Speaks"::"Reads"::"InTail"::"Flagging"::"Settles"::"Rests"::"Off"::"VOTES"::"check_votes"::"check_choice"::"copies"::"Post"::"LEAST_POSTS"::"MOST_POSTS_verdicts"::"FLAG_BITS_verdicts"::"Judge"::"verdicts"::"check_tail"::"MOST_POSTS_rails"::"Rail"::"heard_well"::"_law_draw"::"_law_size"::"_law_frames"::"_law_wrong"::"_law_took"::[]
abbrev N:Nat:=8798
theorem b6H:∀w:World,(fencedOpening treeTable p w N).map (fun s=>(s.heap,s.gens,s.drawn,s.toks))=some (boot_heap w.params,Array.mk [],boot_drawn,boot_toks):=boot_open (by kernel_rfl) (by decide) (fun s=>by kernel_rfl)
def ann:Option Value:=some (.ref 6)
def whole (w:World)(os:OsState):=(segRunT treeTable p w 11 ann 0 N (S w os) (topStub p)).map fun r=>look p qv loose (xlAt qv []) as (boot_heap w.params) r.2.1
def good (w:World)(_:OsState):=some (true,openGood qv loose,((L w.params).map fun p=>p.2).map some)
def sz (w : World) := ((boot_heap w.params).isNs mainGlobals, (boot_heap w.params).objs.size, (boot_heap w.params).nsMap mainGlobals "__annotations__")
def sg (_:World):=(true,11,ann)
theorem b0B:whole=whole:=rfl
theorem b7L:good=good:=rfl
theorem c2K:sz=sz:=rfl
noncomputable def _root_.PySem.W.Fast.tw10314128762336455957:Program:=PySem.Challenge.pw_bitrail_k93_whole_tails_never_part
theorem _root_.PySem.W.Fast.te10314128762336455957:PySem.Challenge.pw_bitrail_k93_whole_tails_never_part=PySem.W.Fast.tw10314128762336455957:=rfl
noncomputable def _root_.PySem.W.Fast.tw9140266817696972190:Params->List (Nat×Obj):=Hd.L
theorem _root_.PySem.W.Fast.te9140266817696972190:Hd.L=PySem.W.Fast.tw9140266817696972190:=rfl
noncomputable def _root_.PySem.W.Fast.tw7625976266985363445:List Str:=Hd.loose
theorem _root_.PySem.W.Fast.te7625976266985363445:Hd.loose=PySem.W.Fast.tw7625976266985363445:=rfl
name_quick wq for whole by b0B
name_quick gq for good by b7L
name_quick zq for sz by c2K
theorem z_g (w:World):PySem.W.Fast.zq w=sg w:=by kernel_rfl
theorem w_g (w:World):PySem.W.Fast.wq w=PySem.W.Fast.gq w:=by kernel_rfl
theorem c0P:LeftO p qv loose (xlAt qv []) (fun s=>as.map s.heap.get?) (fun w=>((L w.params).map fun p=>p.2).map some) N:=yW S b6H (fun w=>(congrFun PySem.W.Fast.zq_eq w).trans (z_g w)) c1K fun w=>((congrFun PySem.W.Fast.wq_eq w).trans (w_g w)).trans (congrFun PySem.W.Fast.gq_eq w).symm
theorem left:LeftO p qv loose (xlAt qv []) (fun s=>as.map s.heap.get?) (fun w=>(KA w.params).map fun p=>some p.2) N:=fun w=>(c0P w).trans (by show some (_,((L w.params).map _).map _)=some (_,(KA w.params).map _);rw[K_L,List.map_map];rfl)
def tc:List (Addr×Addr):=[(1016,1012)]
theorem tabs (w:World)(h:Heap)(Y:InK KA w h):(K w.params).In h/\∀q∈tc,(K w.params).lookup q.2=none/\h.get? q.2=some (tabObj #[])/\codeHdIn (K w.params) q.1 q.2=true:=by
 have n1012:(K w.params).lookup 1012=none:=by kernel_rfl
 have t1012:h.get? 1012=some (tabObj #[]):=Y 1012 _ (by kernel_rfl)
 have c1012:codeHdIn (K w.params) 1016 1012=true:=by kernel_rfl
 refine⟨fun a o e=>Y a o ?_,fun q hq=>?_⟩
 ·show List.lookup a (((1012:Nat),fi .none [])::K w.params)=some o
  rw[Xw]
  have e1012:(a == 1012)=false:=Xs.mpr fun z=>by rw[z,n1012]at e;cases e
  rw[e1012]
  exact e
 ·have hq:q∈([(1016,1012)]:List (Addr×Addr)):=hq
  simp only[YG,Xd,or_false]at hq
  subst hq
  exact⟨n1012,t1012,c1012⟩
def dl:DefRec:=dr (sf p 96)
def da:=(defOf qv "law",p.theDef "law")
def db:=(some (dl,([]:List (Str×PySem.Expr))),some (dl.params,dl.body,dl.scope))
theorem c3N:da=da:=rfl
theorem c3M:db=db:=rfl
name_quick daq for da by c3N
name_quick dbq for db by c3M
theorem d_q:PySem.W.Fast.daq=PySem.W.Fast.dbq:=by kernel_rfl
theorem d_e:da=db:=PySem.W.Fast.daq_eq.trans (d_q.trans PySem.W.Fast.dbq_eq.symm)
theorem dl_1:defOf qv "law"=some (dl, []):=YT Prod.fst d_e
theorem dl_2:p.theDef "law"=some (dl.params,dl.body,dl.scope):=YT Prod.snd d_e
end
end Hd
set_option Elab.async false
set_option linter.all false
set_option maxRecDepth 100000
namespace L2
open PySem PySem.Spec PyProof.Rows
variable {us:List Value}{x:Str}{u:Value}{a:Addr}{b:Addr}{P:Program}{w:World}{h:Heap}{t':Nat}{i:Nat}{j:Nat}{e:Expr}{A:Around}{E:Value->Shared->Prop}{s:Shared}{pos:Pos}{v:Value}{op:CmpOp}{c:Expr}{K:W.Frag}{pins:List (Addr×Obj)}{tg:Expr}{p:Pos}{fp:List Addr}{dx:Addr}{mA:Str->Option Value}{C:Addr}{f:Addr}{k:Nat}{fd:FuncData}{ps:List Str}{kindOf:Str->Option NameKind}{h':Heap}{es:List Expr}
abbrev Key:=Sum Int Str
def sY:Key->Value->Bool
 |.inl k,v=>Value.isInt k v
 |.inr x,v=>Value.isStrOf x v
def c2Z (w:World):Key->Int
 |.inl k=>hashInt k
 |.inr x=>hashStr w x
theorem dC:∀{k:Key}{v:Value},sY k v=true->(∃i t,k=Sum.inl i/\v=Value.int i t)\/(∃x t,k=Sum.inr x/\v=Value.str x t)
 | .inl i,v,h=>by
  obtain⟨t,e⟩:=Value.isInt_shape (k:=i) (v:=v) h
  exact .inl ⟨i,t,rfl,e⟩
 | .inr x,v,h=>by
  obtain⟨t,e⟩:=Value.isStrOf_shape (x:=x) (v:=v) h
  exact .inr ⟨x,t,rfl,e⟩
theorem a3V (i:Int)(t:Tok):sY (.inl i) (.int i t)=true:=by simp[sY,Value.isInt]
theorem a3U (x:Str)(t:Tok):sY (.inr x) (.str x t)=true:=by simp[sY,Value.isStrOf]
theorem b7G (a b:Int):decide ((Sum.inl a:Key)=Sum.inl b)=(a == b):=by
 by_cases e:a=b
 ·subst e;simp
 ·have h:¬ (Sum.inl a:Key)=Sum.inl b:=fun q=>e (Sum.inl.inj q)
  rw[Yi h]
  exact(Xs.mpr e).symm
theorem b7D (a b:Str):decide ((Sum.inr a:Key)=Sum.inr b)=decide (a=b):=by
 by_cases e:a=b
 ·subst e;simp
 ·have h:¬ (Sum.inr a:Key)=Sum.inr b:=fun q=>e (Sum.inr.inj q)
  rw[Yi h,Yi e]
theorem b7F (a:Int)(b:Str):decide ((Sum.inl a:Key)=Sum.inr b)=false:=Yi (fun q=>nomatch q)
theorem b7E (a:Str)(b:Int):decide ((Sum.inr a:Key)=Sum.inl b)=false:=Yi (fun q=>nomatch q)
def dX (prog:Program)(w:World):PySem.KeyKind prog w Key where
 is:=sY
 hash:=c2Z w
 inj :=fun v a b ha hb=>by
  rcases dC ha with ⟨i,t,rfl,rfl⟩ | ⟨x,t,rfl,rfl⟩
  ·rcases dC hb with ⟨j,u,rfl,e⟩ | ⟨y,u,rfl,e⟩
   ·injection e with e1 _;rw[e1]
   ·exact nomatch e
  ·rcases dC hb with ⟨j,u,rfl,e⟩ | ⟨y,u,rfl,e⟩
   ·exact nomatch e
   ·injection e with e1 _;rw[e1]
 byValue:=fun k v h=>by
  rcases dC h with ⟨i,t,rfl,rfl⟩ | ⟨x,t,rfl,rfl⟩ <;> rfl
 pyHash:=fun hv h=>by
  rcases dC hv with ⟨i,t,rfl,rfl⟩ | ⟨x,t,rfl,rfl⟩
  ·exact wpAny_pyHash_int h
  ·exact wpAny_pyHash_str h
 eqBool:=fun hu hv h=>by
  rcases dC hu with ⟨i,t,rfl,rfl⟩ | ⟨x,t,rfl,rfl⟩
  ·rcases dC hv with ⟨j,u,rfl,rfl⟩ | ⟨y,u,rfl,rfl⟩
   ·rw[b7G]at h;exact wpAny_eqBool_int h
   ·rw[b7F]at h;exact SeqAt.EqAt.int_str i t y u _ _ _ _ h
  ·rcases dC hv with ⟨j,u,rfl,rfl⟩ | ⟨y,u,rfl,rfl⟩
   ·rw[b7E]at h;exact SeqAt.EqAt.str_int x t j u _ _ _ _ h
   ·rw[b7D]at h;exact wpAny_eqBool_str h
 «strs»:=fun k x t v h=>by
  rcases dC h with ⟨i,u,rfl,e⟩ | ⟨y,u,rfl,e⟩
  ·exact nomatch e
  ·injection e with e1 _
   subst e1
   cases v <;> rfl
theorem wJ (prog:Program)(w:World)(i:Int)(t:Tok):(dX prog w).is (.inl i) (.int i t)=true:=a3V i t
theorem wI (prog:Program)(w:World)(x:Str)(t:Tok):(dX prog w).is (.inr x) (.str x t)=true:=a3U x t
inductive V where
 |non | bl (b:Bool) | int (i:Int) | str (x:Str) | byt (b:Array UInt8) | flt (b:UInt64) | ref (a:Addr) | ty (n:String)
 deriving DecidableEq
def RelV:V->Value->Prop
 |.non,u=>u=Value.none
 |.bl b,u=>u=Value.bool b
 |.int i,u=>∃t,u=Value.int i t
 |.str x,u=>∃t,u=Value.str x t
 |.byt b,u=>∃t,u=Value.bytes b t
 |.flt b,u=>∃t,u=Value.float b t
 |.ref a,u=>u=Value.ref a
 |.ty n,u=>u=Value.type n
abbrev Vals:List V->List Value->Prop:=Paired RelV
theorem Vals.length {xs:List V}(r:Vals xs us):xs.length=us.length:=Paired.length r
theorem Vals.get:∀{xs:List V}{us:List Value}{i:Nat}{x:V},Vals xs us->xs[i]? =some x->∃u,us[i]? =some u/\RelV x u
 |_,_,_,_,.nil,e=>by simp at e
 |_,_,0,_,.cons r _,e=>by simp at e;subst e;exact⟨_,rfl,r⟩
 | _,_,i+1,x,.cons _ t,e=>by
  obtain⟨u,h1,h2⟩:=Vals.get (i:=i) (x:=x) t (by simpa using e)
  exact⟨u,by simpa using h1,h2⟩
theorem Vals.set {x:V}(r:RelV x u):∀{xs:List V}{us:List Value}(i:Nat),Vals xs us->Vals (xs.set i x) (us.set i u)
 |_,_,_,.nil=> .nil
 |_,_,0,.cons _ t=> .cons r t
 |_,_,i+1,.cons q t=> .cons q (Vals.set r i t)
theorem Vals.append:∀{xs ys:List V}{us ws:List Value},Vals xs us->Vals ys ws->Vals (xs++ys) (us++ws)
 |_,_,_,_,.nil,s=>s
 |_,_,_,_,.cons r t,s=> .cons r (Vals.append t s)
theorem Vals.take:∀{xs:List V}{us:List Value}(n:Nat),Vals xs us->Vals (xs.take n) (us.take n)
 |_,_,0,_=> .nil
 |_,_,_+1,.nil=> .nil
 |_,_,n+1,.cons r t=> .cons r (Vals.take n t)
theorem Vals.drop:∀{xs:List V}{us:List Value}(n:Nat),Vals xs us->Vals (xs.drop n) (us.drop n)
 |_,_,0,r=>r
 |_,_,_+1,.nil=> .nil
 |_,_,n+1,.cons _ t=>Vals.drop n t
def lU:Option V->Option Value->Prop
 |some v,some u=>RelV v u
 |none,none=>True
 |_,_=>False
def KV {κ:Type}:List (κ×V)->List (κ×Value)->Prop:=Paired fun (p:κ×V) (q:κ×Value)=>p.1=q.1/\RelV p.2 q.2
def kV:Key->V
 |.inl i=> .int i
 |.inr x=> .str x
inductive HO where
  |lst (xs:List V)
  |tup (xs:List V)
  |dK (kvs:List (Key×V)) | dT (kvs:List (List Key×V))
  |set (S:Int->Bool) (n:Nat)
  |ins (C dx:Addr) (fs:List (Str×V))
  |own (x:Addr)
  |xd (fs:List (Str×V))
  |met (f x:Addr)
  |rng (lo hi:Int)
  |frz (o:Obj) (u:HO)
  |tbl (ps:Array Value)
  |ext (φ:Heap->Prop)
variable {o:HO}
abbrev Hp:=Addr->Option HO
variable {H:Hp}{H':Hp}
def upd (H:Hp)(a:Addr)(o:HO):Hp:=fun b=>if b=a then some o else H b
theorem aB:upd H a o a=some o:=by unfold upd;rw[if_pos rfl]
theorem aH (h:b≠a):upd H a o b=H b:=by unfold upd;rw[if_neg h]
theorem c0G {u:HO}(h:H a=some o)(h':H b=some u)(d:o≠u):a≠b:=by
 intro e;subst e;rw[h]at h';exact d (Yo h')
theorem aP (h:H a=some o)(h':H b=none):a≠b:=by
 intro e;subst e;rw[h]at h';cases h'
section
variable (P:Program)(w:World)
def dU (H:Hp)(h:Heap)(a:Addr):HO->Prop
  |.lst xs=>xs.length<=sizeLine/\∃(its:List Value)(n:Nat),Vals xs its/\h.get? a=some { cls:= .type "list",data:= .seq its.toArray n }
  |.tup xs=>xs.length<=sizeLine/\∃its:List Value,Vals xs its/\IsTup h a its.toArray
  |.dK kvs=>kvs.length<=sizeLine/\(a == sysModules)=false/\∃vs,KV kvs vs/\h.DictOf (dX P w) a vs
  | .dT kvs=>kvs.length<=sizeLine/\(a == sysModules)=false/\∃xs:List (List Key×Addr×Value),
      Paired (fun (p:List Key×V) (q:List Key×Addr×Value)=>p.1=q.1/\H q.2.1=some (.tup (p.1.map kV))/\RelV p.2 q.2.2) kvs xs/\
      ∃o es ep,h.get? a=some o/\o.ExactDict/\o.data= .dict es ep/\es.toList=xs.map (entryOfKey (tupleKind (dX P w)))/\(xs.map (·.1)).Nodup
  |.set S n=>h.SetOf (intKind P w) a S n
  | .ins C dx fs=>H dx=some (.own a)/\fs.length<=1000/\dx≠a/\h.get? a=some (W.instObj C dx)/\
      ∃mA,h.Ns1 dx mA/\(∀f,lU (fs.lookup f) (mA f))/\PySem.Within mA (fs.map (·.1))
  |.own _=>∃o,h.get? a=some o
  |.xd fs=>∃mA,h.Ns1 a mA/\∀f,lU (fs.lookup f) (mA f)
  |.rng lo hi=>∃t u v,h.get? a=some { cls:= .type "range",data:= .fields #[.int lo t,.int hi u,.int 1 v] }
  |.frz o u=>h.get? a=some o/\dU H h a u
  |.tbl ps=>h.get? a=some { cls:= .none,data:= .fields ps }
  |.met f x=>h.get? a=some (W.methodObj (.ref f) (.ref x))
  |.ext φ=>φ h/\(∃o,h.get? a=some o)/\∀h1 h2:Heap,φ h1->(∀o,h1.get? a=some o->h2.get? a=some o)->φ h2
def HOk (H:Hp)(h:Heap):Prop:=∀a o,H a=some o->dU P w H h a o
end
section
theorem dU.lt (x:dU P w H h a o):a<h.objs.size:=by
 cases o with
 |lst xs=>obtain⟨_,_,_,_,e⟩:=x;exact Ys e
 |tup xs=>obtain⟨_,_,_,p⟩:=x;exact p.lt
 |dK kvs=>obtain⟨_,_,_,_,o,_,_,e,_⟩:=x;exact Ys e
 |dT kvs=>obtain⟨_,_,_,_,o,_,_,e,_⟩:=x;exact Ys e
 |set S n=>obtain⟨o,_,_,_,e,_⟩:=x;exact Ys e
 |ins C dx fs=>obtain⟨_,_,_,e,_⟩:=x;exact Ys e
 |own y=>obtain⟨_,e⟩:=x;exact Ys e
 |xd fs=>obtain⟨_,⟨_,_,_,e,_⟩,_⟩:=x;exact Ys e
 |rng lo hi=>obtain⟨_,_,_,e⟩:=x;exact Ys e
 |frz ob u=>obtain⟨e,_⟩:=x;exact Ys e
 |tbl ps=>exact Ys (show h.get? a=some _ from x)
 |met f y=>exact Ys (show h.get? a=some _ from x)
 |ext φ=>obtain⟨_,⟨_,e⟩,_⟩:=x;exact Ys e
theorem Paired.mapP {α β:Type}{F G:α->β->Prop}:∀{l₁:List α}{l₂:List β},Paired F l₁ l₂->(∀a b,F a b->G a b)->Paired G l₁ l₂
 |_,_,.nil,_=> .nil
 |_,_,.cons r t,f=> .cons (f _ _ r) (Paired.mapP t f)
theorem dU.stay (x:dU P w H h a o)(k:∀b u,(b=a\/H b=some (.own a))->h.get? b=some u->h'.get? b=some u)
  (ho:∀b,H b=some (.own a)->H' b=some (.own a)) (ht:∀b xs,H b=some (.tup xs)->H' b=some (.tup xs)):dU P w H' h' a o:=by
 induction o with
 |lst xs=>obtain⟨z,its,n,r,e⟩:=x;exact⟨z,its,n,r,k _ _ (.inl rfl) e⟩
 |tup xs=>obtain⟨z,its,r,ob,e,c⟩:=x;exact⟨z,its,r,ob,k _ _ (.inl rfl) e,c⟩
 |dK kvs=>obtain⟨z,y,vs,r,ob,es,ep,e,c⟩:=x;exact⟨z,y,vs,r,ob,es,ep,k _ _ (.inl rfl) e,c⟩
 | dT kvs=>
  obtain⟨z,y,xs,r,ob,es,ep,e,c⟩:=x
  exact⟨z,y,xs,Paired.mapP r fun p q z=>⟨z.1,ht _ _ z.2.1,z.2.2⟩,ob,es,ep,k _ _ (.inl rfl) e,c⟩
 |set S n=>obtain⟨ob,es,ep,t,e,c⟩:=x;exact⟨ob,es,ep,t,k _ _ (.inl rfl) e,c⟩
 | ins C dx fs=>
  obtain⟨d,z,ne,e,mA,⟨od,es,ep,e2,c⟩,r⟩:=x
  exact⟨ho _ d,z,ne,k _ _ (.inl rfl) e,mA,⟨od,es,ep,k _ _ (.inr d) e2,c⟩,r⟩
 |own y=>obtain⟨ob,e⟩:=x;exact⟨ob,k _ _ (.inl rfl) e⟩
 |xd fs=>obtain⟨mA,⟨od,es,ep,e,c⟩,r⟩:=x;exact⟨mA,⟨od,es,ep,k _ _ (.inl rfl) e,c⟩,r⟩
 |rng lo hi=>obtain⟨t,u,v,e⟩:=x;exact⟨t,u,v,k _ _ (.inl rfl) e⟩
 |frz ob u ih=>obtain⟨e,q⟩:=x;exact⟨k _ _ (.inl rfl) e,ih q⟩
 | tbl ps=>
  have e:h.get? a=some { cls:= .none,data:= .fields ps }:=x
  show h'.get? a=some { cls:= .none,data:= .fields ps }
  exact k a _ (.inl rfl) e
 | met f y=>
  have e:h.get? a=some (W.methodObj (.ref f) (.ref y)):=x
  show h'.get? a=some (W.methodObj (.ref f) (.ref y))
  exact k a _ (.inl rfl) e
 |ext φ=>obtain⟨p,⟨o,e⟩,st⟩:=x;exact⟨st _ _ p fun o q=>k _ _ (.inl rfl) q,⟨o,k _ _ (.inl rfl) e⟩,st⟩
theorem HOk.lt (x:HOk P w H h)(e:H a=some o):a<h.objs.size:=(x a o e).lt
theorem HOk.fresh (x:HOk P w H h)(e:h.objs.size<=a):H a=none:=by
 cases q:H a with
 |none=>rfl
 |some u=>exact absurd (Yj (x.lt q) e) (Y3 _)
theorem HOk.kept (x:HOk P w H h)(k:∀b u,h.get? b=some u->h'.get? b=some u):HOk P w H h':=fun a o e=>
 (x a o e).stay (fun b u _ q=>k b u q) (fun _ q=>q) fun _ _ q=>q
theorem HOk.laid (x:HOk P w H h)(k:∀b u,h.get? b=some u->h'.get? b=some u)(hp:h.objs.size<=a)(new:dU P w (upd H a o) h' a o):HOk P w (upd H a o) h':=fun b u e=>by
 have hn:=x.fresh hp
 by_cases hb:b=a
 ·subst hb;rw[aB]at e;cases e;exact new
 ·rw[aH hb]at e
  exact(x b u e).stay (fun c v _ q=>k c v q) (fun c q=>by rw[aH (aP q hn)];exact q) fun c xs q=>by rw[aH (aP q hn)];exact q
end
def Rd (H:Hp)(a:Addr)(u:HO):Prop:=H a=some u\/∃o,H a=some (.frz o u)
theorem Rd.ok {u:HO}(r:Rd H a u)(x:HOk P w H h):dU P w H h a u:=by
 rcases r with r | ⟨o,r⟩
 ·exact x a u r
 ·obtain⟨_,q⟩:=x a _ r
  exact q
def Mut:Option HO->Prop
 |some (.lst _)=>True
 |some (.dK _)=>True
 |some (.dT _)=>True
 |some (.set _ _)=>True
 |some (.ins _ _ _)=>True
 |some (.ext _)=>True
 |_=>False
section
variable {x e:Addr}{o':HO}
theorem HOk.write (ok:HOk P w H h)(mu:Mut (H x))(he:e=x\/H e=some (.own x))(k:∀b u,b≠e->h.get? b=some u->h'.get? b=some u)(heo:∃u,h'.get? e=some u)
  (new:dU P w (upd H x o') h' x o'):HOk P w (upd H x o') h':=fun b u q=>by
 have nown:∀c y,H c=some (.own y)->c≠x:=fun c y r z=>by subst z;rw[r]at mu;exact mu
 have ntup:∀c xs,H c=some (.tup xs)->c≠x:=fun c xs r z=>by subst z;rw[r]at mu;exact mu
 by_cases hb:b=x
 ·subst hb;rw[aB]at q;cases q;exact new
 ·rw [aH hb]at q
  by_cases hbe:b=e
  ·have q':H b=some (.own x):=by
    rcases he with z | z
    ·exact absurd (hbe.trans z) hb
    ·rw[hbe];exact z
   rw[q]at q';cases q'
   obtain⟨v,hv⟩:=heo
   exact⟨v,by rw[hbe];exact hv⟩
  ·refine(ok b u q).stay (fun c v hc r=>k c v ?_ r) (fun c r=>by rw[aH (nown c b r)];exact r) fun c xs r=>by rw[aH (ntup c xs r)];exact r
   rcases hc with rfl | hc
   ·exact hbe
   ·rintro rfl
    rcases he with z | z
    ·exact nown c b hc z
    ·rw[hc]at z;cases z;exact hb rfl
end
structure Un (fs ex:List Addr)(H H':Hp)(h h':Heap):Prop where
 keep:∀b o,h.get? b=some o->H b=none->b∉fs->b∉ex->h'.get? b=some o
 slot:∀b o,h.get? b=some o->H b=none->b∈fs->b∉ex->∃sl,h'.get? b=some { o with slots:=sl }
 free:∀b o,h.get? b=some o->H b=none->b∉ex->H' b=none
 there:∀b o,h.get? b=some o->b∉ex->∃o',h'.get? b=some o'
 tups:∀b xs,H b=some (.tup xs)->H' b=some (.tup xs)
 frzs:∀b o u,H b=some (.frz o u)->H' b=some (.frz o u)
 tbls:∀b ps,H b=some (.tbl ps)->∃more,H' b=some (.tbl (ps++more))
section
variable {fs fs' ex ex':List Addr}{H1 H2:Hp}{h1 h2:Heap}{x e:Addr}
theorem Un.any (u:Un fs ex H H1 h h1){ob:Obj}(q:h.get? b=some ob)(n:H b=none)(hx:b∉ex):∃sl,h1.get? b=some { ob with slots:=sl }:=by
 by_cases hb:b∈fs
 ·exact u.slot b ob q n hb hx
 ·exact⟨ob.slots,u.keep b ob q n hb hx⟩
theorem Un.kept (k:∀b u,h.get? b=some u->h'.get? b=some u):Un fs ex H H h h':=
 ⟨fun b ob q _ _ _=>k b ob q,fun b ob q _ _ _=>⟨ob.slots,k b ob q⟩,fun _ _ _ n _=>n,fun b ob q _=>⟨ob,k b ob q⟩,fun _ _ q=>q,fun _ _ _ q=>q,fun _ ps q=>⟨#[],by rw[q];simp⟩⟩
theorem Un.refl:Un fs ex H H h h:=Un.kept fun _ _ q=>q
theorem Un.laid (k:∀b u,h.get? b=some u->h'.get? b=some u)(hp:h.objs.size<=a)(hn:H a=none):Un fs ex H (upd H a o) h h' where
 keep:=fun b u q _ _ _=>k b u q
 slot:=fun b u q _ _ _=>⟨u.slots,k b u q⟩
 free:=fun b u q n _=>by rw[aH (YO (Yj (Ys q) hp))];exact n
 there:=fun b u q _=>⟨u,k b u q⟩
 tups:=fun b xs q=>by rw[aH (aP q hn)];exact q
 frzs:=fun b u xs q=>by rw[aH (aP q hn)];exact q
 tbls:=fun b ps q=>⟨#[],by rw[aH (aP q hn),q];simp⟩
theorem Un.write (mu:Mut (H x))(he:e=x\/H e=some (.own x))(k:∀b u,b≠e->h.get? b=some u->h'.get? b=some u)(heo:∃u,h'.get? e=some u):Un fs ex H (upd H x o) h h':=by
 have hx:∀b,H b=none->b≠x:=fun b n z=>by subst z;rw[n]at mu;exact mu
 have hb:∀b,H b=none->b≠e:=fun b n z=>by
  subst z
  rcases he with r | r
  ·exact hx b n r
  ·rw[n]at r;cases r
 have hm:∀b u,H b=some u->¬ Mut (some u)->b≠x:=fun b u q nm z=>by subst z;rw[q]at mu;exact nm mu
 refine⟨fun b u q n _ _=>k b u (hb b n) q,fun b u q n _ _=>⟨u.slots,k b u (hb b n) q⟩,fun b u q n _=>by rw[aH (hx b n)];exact n,fun b u q _=>?_,
  fun b xs q=>by rw[aH (hm b _ q fun z=>z)];exact q,fun b u xs q=>by rw[aH (hm b _ q fun z=>z)];exact q,fun b ps q=>⟨#[],by rw[aH (hm b _ q fun z=>z),q];simp⟩⟩
 by_cases hbe:b=e
 ·subst hbe;exact heo
 ·exact⟨u,k b u hbe q⟩
end
def trk (h:Heap)(H:Hp):List Addr:=(List.range h.objs.size).filter fun a=>(H a).isSome
def uM (h:Heap)(H:Hp):Heap:=W.hideAll h (trk h H)
theorem a3Y (h:Heap)(H:Hp):(uM h H).objs.size=h.objs.size:=W.hideAll_size _ _
theorem a8M {o:Obj}(e:h.get? b=some o)(n:H b=none):(uM h H).get? b=some o:=
 W.hideAll_get _ e fun hm=>by
  have q:(H b).isSome=true:=(X5.mp hm).2
  rw[n]at q;simp at q
theorem b1Y {o:Obj}(e:(uM h H).get? b=some o):h.get? b=some o/\H b=none:=by
 have e':h.get? b=some o:=W.of_hideAll (trk h H) e
 refine⟨e',?_⟩
 cases q:H b with
 |none=>rfl
 | some x=>
  have hm:b∈trk h H:=X5.mpr ⟨YU.mpr (Ys e'),by simp[q]⟩
  have z:(uM h H).get? b=none:=W.hideAll_none (trk h H) hm
  rw[z]at e;cases e
structure Mod (K:W.Frag)(mg:Str->Option Value)(base:Heap):Prop where
 kin:K.In base
 glob:base.Ns mainGlobals mg
 blt:∃mb,base.Ns builtinsNs mb/\∀x:Str,x≠"__name__"->mb x=bootBuiltins x
 nolimit:base.NoLimit
structure Cx where
 prog:Program
 w:World
 K:W.Frag
 mg:Str->Option Value
 base:Heap
 A:Around
 N:List Str
 s₀:Shared
 H₀:Hp
 env:Env
 outer:List Env
 stack:List Env
 ex:List Addr
 fn:Str->Bool
 calm:Bool
 pn:List (Addr×Obj)
 xe:Value->Shared->Prop
variable {X:Cx}
def frs (l:List Env):List Addr:=l.filterMap (·.frame)
abbrev Cx.fs (X:Cx):List Addr:=frs X.outer
def Vis (sc:Scope)(x:Str):Prop:=sc.names.lookup x=some .local\/sc.names.lookup x=some .cell\/sc.names.lookup x=some .free
def Loc (sc:Scope)(x:Str):Prop:=sc.names.lookup x=some .local\/sc.names.lookup x=some .cell
def Look (env:Env)(h:Heap)(m:Str->Option Value)(x:Str)(u:Value):Prop:=
 (env.kindOf x=some .local/\m x=some u)\/((env.kindOf x=some .cell\/env.kindOf x=some .free)/\∃c,env.cells.lookup x=some c/\h.IsCell c (some u))
structure Cx.Ok (X:Cx):Prop where
 mod:Mod X.K X.mg X.base
 kind:X.env.scope.kind= .function
 glob:X.env.globals=mainGlobals
 blt:X.env.builtins=builtinsNs
 above:X.s₀.heap.objs.size<=X.env.locals
 inj:∀x y c,X.env.cells.lookup x=some c->X.env.cells.lookup y=some c->x=y
 has:∀x,(X.env.kindOf x=some .cell\/X.env.kindOf x=some .free)->∃c,X.env.cells.lookup x=some c
 cab:∀x c,X.fn x=true->X.env.cells.lookup x=some c->X.s₀.heap.objs.size<=c
 hd:X.calm=true->X.A.handled=none
 frames:X.A.frames=some X.stack
 stk:X.stack=X.outer\/(X.stack=X.env::X.outer/\X.env.frame=some X.env.locals)
 exf:∀b∈X.ex,b≠X.env.locals/\∀x c,X.env.cells.lookup x=some c->c≠b
 bs:∀b o,X.base.get? b=some o->X.s₀.heap.get? b=some o/\X.H₀ b=none
 bsz:X.base.objs.size<=X.s₀.heap.objs.size
 noex:∀b o,X.base.get? b=some o->b∉X.ex
 exfs:∀b∈X.ex,b∉X.fs
 funs:X.s₀.heap.FunFrames X.base X.outer
 frf:∀b∈X.fs,X.H₀ b=none
structure Inv (X:Cx)(pins:List (Addr×Obj))(σ:List (Option V))(H:Hp)(s:Shared):Prop where
 ok:X.Ok
 os:s.os=X.s₀.os
 bare:AllBare s.gens
 base:Un X.fs X.ex X.H₀ H X.s₀.heap s.heap
 loc:∃m,s.heap.Ns X.env.locals m/\∀(i:Nat)(x:Str)(v:V),X.N[i]? =some x->σ[i]? =some (some v)->Vis X.env.scope x->∃u,RelV v u/\Look X.env s.heap m x u
 cell:∀x c,X.env.cells.lookup x=some c->∃v,s.heap.IsCell c v
 free:H X.env.locals=none
 freeC:∀x c,X.env.cells.lookup x=some c->H c=none
 pin:∀p∈X.pn++pins,s.heap.get? p.1=some p.2/\H p.1=none/\p.1≠X.env.locals/\p.1∉X.fs/\∀v,p.2.data≠ .cell v
 hok:HOk X.prog X.w H s.heap
 len:σ.length=X.N.length
section
variable {σ:List (Option V)}
theorem Cx.Ok.nofr (ok:X.Ok){o:Obj}(e:X.base.get? b=some o):b∉X.fs:=fun hb=>by
 have:=(ok.funs.mem hb).1
 rw[e]at this;cases this
theorem Inv.bs (I:Inv X pins σ H s):∀b o,X.base.get? b=some o->s.heap.get? b=some o/\H b=none:=fun b o e=>
 ⟨I.base.keep b o (I.ok.bs b o e).1 (I.ok.bs b o e).2 (I.ok.nofr e) (I.ok.noex b o e),I.base.free b o (I.ok.bs b o e).1 (I.ok.bs b o e).2 (I.ok.noex b o e)⟩
theorem Inv.bk (I:Inv X pins σ H s):∀b o,X.base.get? b=some o->s.heap.get? b=some o:=fun b o e=>(I.bs b o e).1
theorem Inv.mod (I:Inv X pins σ H s):Mod X.K X.mg X.base:=I.ok.mod
theorem Inv.kIn (I:Inv X pins σ H s):X.K.In s.heap:=I.ok.mod.kin.keeps I.bk
theorem Inv.fr (I:Inv X pins σ H s):∃m,Fr X.base X.env.locals s.heap m:=
 let ⟨m,hn,_⟩:=I.loc
 ⟨m,hn,I.bk,Y9 I.ok.bsz I.ok.above⟩
theorem Inv.lt (I:Inv X pins σ H s):X.env.locals<s.heap.objs.size:=let ⟨_,hn,_⟩:=I.loc;hn.lt
theorem Inv.sz (I:Inv X pins σ H s):X.s₀.heap.objs.size<=s.heap.objs.size:=Y9 I.ok.above (Xm I.lt)
theorem Inv.nofs (I:Inv X pins σ H s)(h:s.heap.objs.size<=a):a∉X.fs:=fun hb=>by
 obtain⟨_,o,ho,_⟩:=I.ok.funs.mem hb
 exact absurd (Yj (Ys ho) (Y9 I.sz h)) (Y3 _)
theorem Inv.cne (I:Inv X pins σ H s):∀x c,X.env.cells.lookup x=some c->c≠X.env.locals:=fun x c e z=>by
 obtain⟨v,o,ho,hd⟩:=I.cell x c e
 obtain⟨m,⟨o',es,ep,ho',hd',_⟩,_⟩:=I.loc
 rw[z,ho']at ho;cases ho;rw[hd']at hd;cases hd
theorem Inv.funs (I:Inv X pins σ H s):s.heap.FunFrames X.base X.outer:=by
 have all:∀(l:List Env),(∀b∈frs l,b∈X.fs)->X.s₀.heap.FunFrames X.base l->s.heap.FunFrames X.base l:=by
  intro l
  induction l with
  |nil=>intro _ _;trivial
  | cons env r ih=>
   intro hs hl
   obtain⟨hk,⟨L,o,hf,hn,ho,hd⟩,hr⟩:=hl
   have hL:L∈X.fs:=hs L (by unfold frs;rw[List.filterMap_cons,hf];exact YC)
   obtain⟨sl,e⟩:=I.base.slot L o ho (I.ok.frf L hL) hL fun z=>I.ok.exfs L z hL
   exact⟨hk,⟨L,_,hf,hn,e,hd⟩,ih (fun b hb=>hs b (by unfold frs;rw[List.filterMap_cons,hf];exact Yw _ hb)) hr⟩
 exact all X.outer (fun _ hb=>hb) I.ok.funs
theorem Inv.stack (I:Inv X pins σ H s):s.heap.FunFrames X.base X.stack:=by
 rcases I.ok.stk with e | ⟨e,hf⟩
 ·rw[e];exact I.funs
 ·rw[e]
  obtain⟨m,hn,_⟩:=I.loc
  refine .cons (by rw[I.ok.kind];decide) hf hn ?_ I.funs
  exact Heap.get?_none_of_le (Y9 I.ok.bsz I.ok.above)
theorem Inv.stkSub (I:Inv X pins σ H s):∀b∈frs X.stack,b∈X.env.locals::X.fs:=fun b hb=>by
 rcases I.ok.stk with e | ⟨e,hf⟩
 ·rw[e]at hb;exact Yw _ hb
 ·rw[e]at hb
  unfold frs at hb
  rw[List.filterMap_cons,hf]at hb
  exact hb
theorem Inv.stkFree (I:Inv X pins σ H s):∀b∈frs X.stack,H b=none:=fun b hb=>by
 rcases YG.mp (I.stkSub b hb) with e | hb
 ·rw[e];exact I.free
 ·obtain⟨_,o,ho,_⟩:=I.ok.funs.mem hb
  exact I.base.free b o ho (I.ok.frf b hb) fun z=>I.ok.exfs b z hb
theorem Inv.step {g':Array GenState}{t':Nat}{d':Drawn}{ch:List Addr}(I:Inv X pins σ H s)
  (hch:∀b∈ch,(b∈X.ex\/X.s₀.heap.objs.size<=b)/\b≠X.env.locals/\(∀x c,X.env.cells.lookup x=some c->c≠b)/\∀p∈X.pn++pins,p.1≠b)
  (keep:∀b o,b≠X.env.locals->b∉X.fs->b∉ch->s.heap.get? b=some o->H b=none->h'.get? b=some o)
  (slot:∀b o,b≠X.env.locals->b∈X.fs->b∉ch->s.heap.get? b=some o->H b=none->∃sl,h'.get? b=some { o with slots:=sl }) (free:∀b o,b∉ch->s.heap.get? b=some o->H b=none->H' b=none)
  (there:∀b o,b∉ch->s.heap.get? b=some o->∃o',h'.get? b=some o')
  (tups:∀b xs,H b=some (.tup xs)->H' b=some (.tup xs)) (frzs:∀b o u,H b=some (.frz o u)->H' b=some (.frz o u)) (tbls:∀b ps,H b=some (.tbl ps)->∃more,H' b=some (.tbl (ps++more)))
  (ns:∀m,s.heap.Ns X.env.locals m->h'.Ns X.env.locals m) (hok:HOk X.prog X.w H' h') (hg:AllBare g') :
  Inv X pins σ H' { s with heap:=h',gens:=g',drawn:=d',toks:=t' }:=by
 have neL:∀b o,X.s₀.heap.get? b=some o->b≠X.env.locals:=fun b o e=>YO (Yj (Ys e) I.ok.above)
 have neC:∀b o,X.s₀.heap.get? b=some o->b∉X.ex->b∉ch:=fun b o e hx hb=>by
  rcases (hch b hb).1 with z | z
  ·exact hx z
  ·exact absurd (Yj (Ys e) z) (Y3 _)
 have cellK:∀x c,X.env.cells.lookup x=some c->∀v,s.heap.IsCell c v->h'.IsCell c v:=fun x c e v ⟨o,ho,hd⟩=>by
  have nch:c∉ch:=fun z=>(hch c z).2.2.1 x c e rfl
  by_cases hc:c∈X.fs
  ·obtain⟨sl,q⟩:=slot c o (I.cne x c e) hc nch ho (I.freeC x c e)
   exact⟨_,q,hd⟩
  ·exact⟨o,keep c o (I.cne x c e) hc nch ho (I.freeC x c e),hd⟩
 refine⟨I.ok,I.os,hg,⟨fun b o e n hb hx=>?_,fun b o e n hb hx=>?_,fun b o e n hx=>?_,fun b o e hx=>?_,fun b xs e=>tups b xs (I.base.tups b xs e),fun b o xs e=>frzs b o xs (I.base.frzs b o xs e),fun b ps e=>?_⟩,?_,fun x c e=>?_,?_,fun x c e=>?_,fun p hp=>?_,hok,I.len⟩
 ·exact keep b o (neL b o e) hb (neC b o e hx) (I.base.keep b o e n hb hx) (I.base.free b o e n hx)
 ·obtain⟨sl,e1⟩:=I.base.slot b o e n hb hx
  obtain⟨sl',e2⟩:=slot b _ (neL b o e) hb (neC b o e hx) e1 (I.base.free b o e n hx)
  exact⟨sl',e2⟩
 ·obtain⟨o',e1⟩:=I.base.there b o e hx
  exact free b o' (neC b o e hx) e1 (I.base.free b o e n hx)
 ·obtain⟨o',e1⟩:=I.base.there b o e hx
  exact there b o' (neC b o e hx) e1
 ·obtain⟨m1,e1⟩:=I.base.tbls b ps e
  obtain⟨m2,e2⟩:=tbls b _ e1
  exact⟨m1++m2,by rw[e2,Array.append_assoc]⟩
 ·obtain⟨m,hn,hl⟩:=I.loc
  refine⟨m,ns m hn,fun i x v e1 e2 e3=>?_⟩
  obtain⟨u,r,l⟩:=hl i x v e1 e2 e3
  refine⟨u,r,?_⟩
  rcases l with l | ⟨k,c,e,z⟩
  ·exact .inl l
  ·exact .inr ⟨k,c,e,cellK x c e _ z⟩
 ·obtain⟨v,z⟩:=I.cell x c e
  exact⟨v,cellK x c e v z⟩
 ·obtain⟨m,⟨o,_,_,ho,_⟩,_⟩:=I.loc
  exact free _ o (fun z=>(hch _ z).2.1 rfl) ho I.free
 ·obtain⟨v,o,ho,hd⟩:=I.cell x c e
  exact free c o (fun z=>(hch c z).2.2.1 x c e rfl) ho (I.freeC x c e)
 ·obtain⟨e,n,ne,nf,d⟩:=I.pin p hp
  have nch:p.1∉ch:=fun z=>(hch p.1 z).2.2.2 p hp rfl
  exact⟨keep p.1 p.2 ne nf nch e n,free p.1 p.2 nch e n,ne,nf,d⟩
theorem Inv.un {t':Nat}(I:Inv X pins σ H s)(u:Un X.fs [] H H' s.heap h')(hok:HOk X.prog X.w H' h'):Inv X pins σ H' { s with heap:=h',toks:=t' }:=by
 obtain⟨m,⟨o,es,ep,ho,r⟩,_⟩:=id I.loc
 obtain⟨sl,hL⟩:=u.any ho I.free (by simp)
 exact I.step (g':=s.gens) (d':=s.drawn) (ch:=[]) (fun _ z=>nomatch z) (fun b o _ hb _ e n=>u.keep b o e n hb (by simp)) (fun b o _ hb _ e n=>u.slot b o e n hb (by simp)) (fun b o _ e n=>u.free b o e n (by simp)) (fun b o _ e=>u.there b o e (by simp)) u.tups u.frzs u.tbls (fun m' hm=>by
  obtain⟨o',es',ep',ho',r'⟩:=hm
  rw[ho]at ho';cases ho'
  exact⟨_,es',ep',hL,r'⟩) hok I.bare
theorem Inv.call {g':Array GenState}{t':Nat}{d':Drawn}{ch:List Addr}(I:Inv X pins σ H s)(u:Un (frs X.stack) ch H H' s.heap h')(hok:HOk X.prog X.w H' h')(hg:AllBare g')
  (hch:∀b∈ch,(b∈X.ex\/X.s₀.heap.objs.size<=b)/\b≠X.env.locals/\(∀x c,X.env.cells.lookup x=some c->c≠b)/\∀p∈X.pn++pins,p.1≠b) :
  Inv X pins σ H' { s with heap:=h',gens:=g',drawn:=d',toks:=t' }:=by
 obtain⟨m,⟨o,es,ep,ho,r⟩,_⟩:=id I.loc
 obtain⟨sl,hL⟩:=u.any ho I.free fun z=>(hch _ z).2.1 rfl
 exact I.step (ch:=ch) hch (fun b o hL hb hc e n=>u.keep b o e n (fun z=>(YG.mp (I.stkSub b z)).elim hL hb) hc) (fun b o _ _ hc e n=>u.any e n hc) (fun b o hc e n=>u.free b o e n hc) (fun b o hc e=>u.there b o e hc) u.tups u.frzs u.tbls (fun m' hm=>by
  obtain⟨o',es',ep',ho',r'⟩:=hm
  rw[ho]at ho';cases ho'
  exact⟨_,es',ep',hL,r'⟩) hok hg
theorem Inv.turned {t':Nat}{it:Addr}(I:Inv X pins σ H s)(k:∀b o,b≠it->s.heap.get? b=some o->h'.get? b=some o)(hn:H it=none)(hL:it≠X.env.locals)
  (h1:it∈X.ex\/X.s₀.heap.objs.size<=it) (h2:∀x c,X.env.cells.lookup x=some c->c≠it) (h3:∀p∈X.pn++pins,p.1≠it):Inv X pins σ H { s with heap:=h',toks:=t' }:=by
 have nit:∀b u,H b=some u->b≠it:=fun b u e z=>by rw[z,hn]at e;cases e
 refine I.step (g':=s.gens) (d':=s.drawn) (ch:=[it]) (fun b hb=>?_) (fun b o _ _ hc e _=>k b o (fun z=>hc (by simp[z])) e) (fun b o _ _ hc e _=>⟨o.slots,k b o (fun z=>hc (by simp[z])) e⟩) (fun _ _ _ _ n=>n)
  (fun b o hc e=>⟨o,k b o (fun z=>hc (by simp[z])) e⟩) (fun _ _ e=>e) (fun _ _ _ e=>e) (fun b ps e=>⟨#[],by rw[e];simp⟩) (fun m hm=>?_) (fun b u e=>?_) I.bare
 ·have e:b=it:=by simpa using hb
  subst e
  exact⟨h1,hL,h2,h3⟩
 ·obtain⟨o,es,ep,ho,r⟩:=hm
  exact⟨o,es,ep,k _ o (Ne.symm hL) ho,r⟩
 ·refine(I.hok b u e).stay (fun c v hc q=>k c v ?_ q) (fun _ q=>q) fun _ _ q=>q
  rcases hc with z | z
  ·rw[z];exact nit b u e
  ·exact nit c _ z
theorem Inv.tok (I:Inv X pins σ H s)(t:Nat):Inv X pins σ H { s with toks:=t }:=I.un (h':=s.heap) (t':=t) Un.refl I.hok
theorem Inv.kept {t':Nat}(I:Inv X pins σ H s)(k:∀b u,s.heap.get? b=some u->h'.get? b=some u):Inv X pins σ H { s with heap:=h',toks:=t' }:=I.un (Un.kept k) (I.hok.kept k)
theorem Inv.laid {t':Nat}(I:Inv X pins σ H s)(k:∀b u,s.heap.get? b=some u->h'.get? b=some u)(hp:s.heap.objs.size<=a)(new:dU X.prog X.w (upd H a o) h' a o):
  Inv X pins σ (upd H a o) { s with heap:=h',toks:=t' }:=I.un (Un.laid k hp (I.hok.fresh hp)) (I.hok.laid k hp new)
theorem Inv.write {x e:Addr}{o:HO}{t':Nat}(I:Inv X pins σ H s)(mu:Mut (H x))(he:e=x\/H e=some (.own x))(k:∀b u,b≠e->s.heap.get? b=some u->h'.get? b=some u)(heo:∃u,h'.get? e=some u)
  (new:dU X.prog X.w (upd H x o) h' x o):Inv X pins σ (upd H x o) { s with heap:=h',toks:=t' }:=I.un (Un.write mu he k heo) (I.hok.write mu he k heo new)
theorem Inv.weak {σ':List (Option V)}(I:Inv X pins σ H s)(hl:σ'.length=σ.length)(w:∀(i:Nat) v,σ'[i]? =some (some v)->σ[i]? =some (some v)):Inv X pins σ' H s:=
 ⟨I.ok,I.os,I.bare,I.base,let ⟨m,hn,hl'⟩:=I.loc;⟨m,hn,fun i x v e1 e2 e3=>hl' i x v e1 (w i v e2) e3⟩,I.cell,I.free,I.freeC,I.pin,I.hok,hl.trans I.len⟩
theorem Inv.pins_of {pins':List (Addr×Obj)}(I:Inv X pins σ H s)(h:∀p∈pins',s.heap.get? p.1=some p.2/\H p.1=none/\p.1≠X.env.locals/\p.1∉X.fs/\∀v,p.2.data≠ .cell v):Inv X pins' σ H s:=
 ⟨I.ok,I.os,I.bare,I.base,I.loc,I.cell,I.free,I.freeC,fun p hp=>(YI.mp hp).elim (fun z=>I.pin p (Xy _ z)) (h p),I.hok,I.len⟩
theorem wH {N:List Str}(hN:N.Nodup)(a:N[i]? =some x)(b:N[j]? =some x):i=j:=by
 obtain⟨h1,e1⟩:=Yf.mp a
 obtain⟨h2,e2⟩:=Yf.mp b
 exact(List.getElem_inj hN).mp (e1.trans e2.symm)
theorem rZ {M:Model}{A:Around}{E:Value->Shared->Prop}{i:Nat}{x:Str}{v:V}{u:Value}{Q:Unit->Shared->Prop}(I:Inv X pins σ H s)(hN:X.N.Nodup)(hi:X.N[i]? =some x)(hx:Loc X.env.scope x)(r:RelV v u)
  (h:∀s',Inv X pins (σ.set i (some v)) H s'->(∃a,Heap.SameBut a s.heap s'.heap/\(a=X.env.locals\/X.env.cells.lookup x=some a))->Q () s') (hf:X.fn x=true\/X.env.scope.names.lookup x=some .local:=by first | exact .inl rfl | exact .inr rfl | assumption):wpAny M A (storeName X.env x u) Q E s:=by
 obtain⟨m,hn,hl⟩:=id I.loc
 have hcls:(X.env.scope.kind == .class || (X.env.scope.kind == .module && X.env.locals != X.env.globals))=false:=by rw[I.ok.kind];rfl
 have hiσ:i<σ.length:=by rw[I.len];exact(Yf.mp hi).1
 have cne:=I.cne
 have tracked:∀{a:Addr}{h':Heap},(∃o,s.heap.get? a=some o/\H a=none)->Heap.SameBut a s.heap h'->HOk X.prog X.w H h':=fun {a h'} ha hs b ob e=>by
  obtain⟨_,_,hfree⟩:=ha
  refine(I.hok b ob e).stay (fun c w' hc q=>(hs.2 c ?_).trans q) (fun _ q=>q) fun _ _ q=>q
  rintro rfl
  rcases hc with rfl | hc
  ·rw[hfree]at e;cases e
  ·rw[hfree]at hc;cases hc
 rcases hx with hk | hk
 ·refine wpAny_storeName_local hk hn (fun h' hn' hs=>?_) hcls
  obtain⟨oL,_,_,hoL,_⟩:=id hn
  refine h _ ⟨I.ok,I.os,I.bare,⟨fun b o e n hb hx=>?_,fun b o e n hb hx=>?_,I.base.free,fun b o e hx=>?_,I.base.tups,I.base.frzs,I.base.tbls⟩,⟨_,hn',fun j y v' e1 e2 e3=>?_⟩,fun y c e=>?_,I.free,I.freeC,fun p hp=>?_,tracked ⟨oL,hoL,I.free⟩ hs,by simpa using I.len⟩ ⟨_,hs,.inl rfl⟩
  ·exact(hs.2 b (YO (Yj (Ys e) I.ok.above))).trans (I.base.keep b o e n hb hx)
  ·obtain⟨sl,e1⟩:=I.base.slot b o e n hb hx
   exact⟨sl,(hs.2 b (YO (Yj (Ys e) I.ok.above))).trans e1⟩
  ·obtain⟨o',e1⟩:=I.base.there b o e hx
   exact⟨o',(hs.2 b (YO (Yj (Ys e) I.ok.above))).trans e1⟩
  ·by_cases hj:j=i
   ·subst hj
    rw[hi]at e1;cases e1
    rw[List.getElem?_set_self hiσ]at e2
    cases e2
    exact⟨u,r,.inl ⟨hk,by simp⟩⟩
   ·rw [XO (Ne.symm hj)]at e2
    obtain⟨u',r',q⟩:=hl j y v' e1 e2 e3
    refine⟨u',r',?_⟩
    rcases q with ⟨k,e⟩ | ⟨k,c,e,z⟩
    ·refine .inl ⟨k,?_⟩
     have:y≠x:=fun e=>hj (wH hN e1 (e▸hi))
     simp[this,e]
    ·exact .inr ⟨k,c,e,z.sameBut hs (cne y c e)⟩
  ·obtain⟨w',z⟩:=I.cell y c e
   exact⟨w',z.sameBut hs (cne y c e)⟩
  ·obtain⟨e,n,ne,nf,d⟩:=I.pin p hp
   exact⟨(hs.2 p.1 ne).trans e,n,ne,nf,d⟩
 ·have hfn:X.fn x=true:=by
   rcases hf with z | z
   ·exact z
   ·rw[z]at hk;cases hk
  obtain⟨c,hc⟩:=I.ok.has x (.inl hk)
  obtain⟨w',z⟩:=I.cell x c hc
  refine wpAny_storeName_cell I.ok.kind hk hc z (fun h' hc' hs=>?_)
  obtain⟨oc,hoc,hocd⟩:=id z
  refine h { s with heap:=h' } ⟨I.ok,I.os,I.bare,⟨fun b o e n hb hx=>?_,fun b o e n hb hx=>?_,I.base.free,fun b o e hx=>?_,I.base.tups,I.base.frzs,I.base.tbls⟩,⟨m,hn.sameBut hs (Ne.symm (cne x c hc)),fun j y v' e1 e2 e3=>?_⟩,fun y c' e=>?_,I.free,I.freeC,fun p hp=>?_,tracked ⟨oc,hoc,I.freeC x c hc⟩ hs,by simpa using I.len⟩ ⟨c,hs,.inr hc⟩
  ·exact(hs.2 b (YO (Yj (Ys e) (I.ok.cab x c hfn hc)))).trans (I.base.keep b o e n hb hx)
  ·obtain⟨sl,e1⟩:=I.base.slot b o e n hb hx
   exact⟨sl,(hs.2 b (YO (Yj (Ys e) (I.ok.cab x c hfn hc)))).trans e1⟩
  ·obtain⟨o',e1⟩:=I.base.there b o e hx
   exact⟨o',(hs.2 b (YO (Yj (Ys e) (I.ok.cab x c hfn hc)))).trans e1⟩
  ·by_cases hj:j=i
   ·subst hj
    rw[hi]at e1;cases e1
    rw[List.getElem?_set_self hiσ]at e2
    cases e2
    exact⟨u,r,.inr ⟨.inl hk,c,hc,hc'⟩⟩
   ·rw [XO (Ne.symm hj)]at e2
    obtain⟨u',r',q⟩:=hl j y v' e1 e2 e3
    refine⟨u',r',?_⟩
    rcases q with q | ⟨k,c',e,z'⟩
    ·exact .inl q
    ·refine .inr ⟨k,c',e,z'.sameBut hs ?_⟩
     rintro rfl
     exact hj (wH hN e1 (I.ok.inj _ _ _ e hc▸hi))
  ·by_cases hcc:c'=c
   ·subst hcc;exact⟨_,hc'⟩
   ·obtain⟨w2,z2⟩:=I.cell y c' e
    exact⟨w2,z2.sameBut hs hcc⟩
  ·obtain⟨e,n,ne,nf,d⟩:=I.pin p hp
   refine⟨(hs.2 p.1 ?_).trans e,n,ne,nf,d⟩
   intro q
   rw[q,hoc]at e
   have q':oc=p.2:=Yo e
   exact d w' (by rw[<-q'];exact hocd)
theorem qC {M:Model}{A:Around}{E:Value->Shared->Prop}{i:Nat}{x:Str}{v:V}{u:Value}{Q:Unit->Shared->Prop}(I:Inv X pins σ H s)(hN:X.N.Nodup)(hi:X.N[i]? =some x)(hx:Loc X.env.scope x)(r:RelV v u)
  (h:∀s',Inv X pins (σ.set i (some v)) H s'->Q () s') (hf:X.fn x=true\/X.env.scope.names.lookup x=some .local:=by first | exact .inl rfl | exact .inr rfl | assumption):wpAny M A (storeName X.env x u) Q E s:=
 rZ I hN hi hx r (fun s' I' _=>h s' I') hf
theorem Inv.call' {s':Shared}{ch:List Addr}(I:Inv X pins σ H s)(ho:s'.os=s.os)(u:Un (frs X.stack) ch H H' s.heap s'.heap)(hok:HOk X.prog X.w H' s'.heap)(hg:AllBare s'.gens)
  (hch:∀b∈ch,(b∈X.ex\/X.s₀.heap.objs.size<=b)/\b≠X.env.locals/\(∀x c,X.env.cells.lookup x=some c->c≠b)/\∀p∈X.pn++pins,p.1≠b):Inv X pins σ H' s':=by
 obtain⟨h',g',d',t',o'⟩:=s'
 have e:o'=s.os:=ho
 subst e
 exact I.call (g':=g') (t':=t') (d':=d') u hok hg hch
end
abbrev XK:=Value->Option Addr->Hp->Prop
abbrev St:=List (Option V)
variable {σ:St}
abbrev VK:=V->Hp->Prop
abbrev TE:=St->Hp->VK->Prop
variable {te:TE}{ta:TE}{tb:TE}
abbrev TT:=St->Hp->(Bool->Hp->Prop)->Prop
abbrev TA:=St->Hp->(List V->Hp->Prop)->Prop
variable {t:TA}
structure Ends where
 nx:St->Hp->Prop
 rt:VK
 bk:St->Hp->Prop:=fun _ _=>False
 ct:St->Hp->Prop:=fun _ _=>False
abbrev TS:=Ends->St->Hp->Prop
def EP (X:Cx)(pins:List (Addr×Obj))(σ:St)(Q:VK)(u:Value)(s':Shared):Prop:=∃v H',Inv X pins σ H' s'/\RelV v u/\Q v H'
def TP (X:Cx)(pins:List (Addr×Obj))(σ:St)(Q:Bool->Hp->Prop)(b:Bool)(s':Shared):Prop:=∃H',Inv X pins σ H' s'/\Q b H'
def AP (X:Cx)(pins:List (Addr×Obj))(σ:St)(Q:List V->Hp->Prop)(us:List Value)(s':Shared):Prop:=∃vs H',Inv X pins σ H' s'/\Vals vs us/\Q vs H'
def SP (X:Cx)(pins:List (Addr×Obj))(D:Ends)(f:Flow)(s':Shared):Prop:=
 match f with
 |.next=>∃σ' H',Inv X pins σ' H' s'/\D.nx σ' H'
 |.brk=>∃σ' H',Inv X pins σ' H' s'/\D.bk σ' H'
 |.cont=>∃σ' H',Inv X pins σ' H' s'/\D.ct σ' H'
 |.ret u=>∃v σ' H',Inv X pins σ' H' s'/\RelV v u/\D.rt v H'
def PE (X:Cx)(e:Expr)(t:TE):Prop:=
 ∀(pins:List (Addr×Obj))(s:Shared)(σ:St)(H:Hp)(Q:VK),Inv X pins σ H s->t σ H Q->wpAny (model X.prog X.w) X.A (eval e X.env) (EP X pins σ Q) X.xe s
def PT (X:Cx)(e:Expr)(t:TT):Prop:=
 ∀(pins:List (Addr×Obj))(s:Shared)(σ:St)(H:Hp)(Q:Bool->Hp->Prop),Inv X pins σ H s->t σ H Q->wpAny (model X.prog X.w) X.A (isTrue e X.env (eval e X.env)) (TP X pins σ Q) X.xe s
def PW (X:Cx)(e:Expr)(t:TT):Prop:=
 ∀(whole:Sem Value)(pins:List (Addr×Obj))(s:Shared)(σ:St)(H:Hp)(Q:Bool->Hp->Prop),Inv X pins σ H s->t σ H Q->wpAny (model X.prog X.w) X.A (isTrue e X.env whole) (TP X pins σ Q) X.xe s
theorem PW.pt {t:TT}(h:PW X e t):PT X e t:=h _
def PA (X:Cx)(es:List Expr)(t:TA):Prop:=
 ∀(pos:Pos)(pins:List (Addr×Obj))(s:Shared)(σ:St)(H:Hp)(Q:List V->Hp->Prop),Inv X pins σ H s->t σ H Q->wpAny (model X.prog X.w) X.A (spliced (backTo pos (starEach es X.env))) (AP X pins σ Q) X.xe s
def PS (X:Cx)(st:Stmt)(t:TS):Prop:=
 ∀(pins:List (Addr×Obj))(s:Shared)(σ:St)(H:Hp)(D:Ends),Inv X pins σ H s->t D σ H->wpAny (model X.prog X.w) X.A (exec st X.env) (SP X pins D) X.xe s
def PSs (X:Cx)(st:List Stmt)(t:TS):Prop:=
 ∀(pins:List (Addr×Obj))(s:Shared)(σ:St)(H:Hp)(D:Ends),Inv X pins σ H s->t D σ H->wpAny (model X.prog X.w) X.A (execs st X.env) (SP X pins D) X.xe s
theorem thn {α:Type}{t:Sem α}{Q Q':α->Shared->Prop}{M:Model}(h:wpAny M A t Q E s)(hQ:∀a s,Q a s->Q' a s):wpAny M A t Q' E s:=Xe h hQ fun _ _ x=>x
section
theorem bin {a b:Expr}{ta tb:TE}(ha:PE X a ta)(hb:PE X b tb){pins:List (Addr×Obj)}{s:Shared}{σ:St}{H:Hp}{R:V->V->Hp->Prop}(I:Inv X pins σ H s)(h:ta σ H fun x H1=>tb σ H1 fun y H2=>R x y H2)
  {α:Type} {Q:α->Shared->Prop} {f:Value->Value->Sem α}
  (hf:∀v u s2 x y H2,Inv X pins σ H2 s2->RelV x v->RelV y u->R x y H2->wpAny (model X.prog X.w) X.A (f v u) Q X.xe s2) :
  wpAny (model X.prog X.w) X.A (eval a X.env) (fun v s₁=>wpAny (model X.prog X.w) X.A (eval b X.env) (fun u s₂=>wpAny (model X.prog X.w) X.A (f v u) Q X.xe s₂) X.xe s₁) X.xe s:=by
 refine thn (ha pins s σ H _ I h) fun v s1 hz9=>?_
 obtain⟨x,H1,I1,r1,q1⟩:=hz9
 refine thn (hb pins s1 σ H1 _ I1 q1) fun u s2 hz9=>?_
 obtain⟨y,H2,I2,r2,q2⟩:=hz9
 exact hf v u s2 x y H2 I2 r1 r2 q2
def b5A (i:Nat):TE:=fun σ H Q=>∃v,σ[i]? =some (some v)/\Q v H
def tC (v:V):TE:=fun _ H Q=>Q v H
theorem a7C (hN:X.N[i]? =some x)(hv:Vis X.env.scope x)(hd:(x == ("__debug__":Str))=false:=by decide)(hcd:(x == ("__classdict__":Str))=false:=by decide):PE X (.Name x pos) (b5A i):=by
 intro pins s σ H Q I h
 obtain⟨v,e,h⟩:=h
 obtain⟨m,hn,hl⟩:=I.loc
 obtain⟨u,r,l⟩:=hl i x v hN e hv
 have fin:EP X pins σ Q u s:=⟨v,H,I,r,h⟩
 rcases l with ⟨hk,hm⟩ | ⟨hk,c,hc,hcell⟩
 ·exact wpAny_Name (wpAny_loadName_local I.ok.kind hk hn hm fin) hd
 ·rcases hk with hk | hk
  ·exact wpAny_Name (wpAny_loadName_cell I.ok.kind hk hc hcell fin) hd
  ·exact wpAny_Name (wpAny_loadName_free I.ok.kind hk hc hcell fin hcd) hd
theorem aG {i j pos}:PE X (.Constant (.int i) j pos) (tC (.int i)):=fun _ _ _ H _ I h=>wpAny_Constant_int ⟨.int i,H,I.tok _,⟨_,rfl⟩,h⟩
theorem iD {b j pos}:PE X (.Constant (.bool b) j pos) (tC (.bl b)):=fun _ _ _ H _ I h=>Constant_bool ⟨.bl b,H,I,rfl,h⟩
theorem nW {j pos}:PE X (.Constant .none j pos) (tC .non):=fun _ _ _ H _ I h=>Constant_none ⟨.non,H,I,rfl,h⟩
theorem bD {x j pos}:PE X (.Constant (.str x) j pos) (tC (.str x)):=fun _ _ _ H _ I h=>Calls.Constant_str ⟨.str x,H,I.tok _,⟨_,rfl⟩,h⟩
def Gl (X:Cx)(x:Str):Prop:=X.env.kindOf x=some .globalImplicit
theorem lK {E:Value->Shared->Prop}{pins:List (Addr×Obj)}{s:Shared}{σ:St}{H:Hp}{x:Str}{u:Value}{pos:Pos}{Q:Value->Shared->Prop}(I:Inv X pins σ H s)(hg:Gl X x)(hm:X.mg x=some u)(h:Q u s)
  (hd:(x == ("__debug__":Str))=false:=by decide):wpAny (model X.prog X.w) X.A (eval (.Name x pos) X.env) Q E s:=
 Calls.Name_function_global I.ok.kind hg (Calls.loadGlobal_global (by rw[I.ok.glob];exact I.mod.glob.keeps I.bk) hm h) hd
theorem oE {E:Value->Shared->Prop}{pins:List (Addr×Obj)}{s:Shared}{σ:St}{H:Hp}{x:Str}{u:Value}{pos:Pos}{Q:Value->Shared->Prop}(I:Inv X pins σ H s)(hg:Gl X x)(hm:X.mg x=none)(hv:bootBuiltins x=some u)(h:Q u s)
  (hn:x≠"__name__":=by decide) (hd:(x == ("__debug__":Str))=false:=by decide):wpAny (model X.prog X.w) X.A (eval (.Name x pos) X.env) Q E s:=by
 obtain⟨mb,h1,h2⟩:=I.mod.blt
 exact Calls.Name_function_global I.ok.kind hg (Calls.loadGlobal_builtin (by rw[I.ok.glob];exact I.mod.glob.keeps I.bk) hm (by rw[I.ok.blt];exact h1.keeps I.bk) ((h2 x hn).trans hv) h) hd
theorem bA {v:V}(hg:Gl X x)(hm:X.mg x=some u)(r:RelV v u)(hd:(x == ("__debug__":Str))=false:=by decide):PE X (.Name x pos) (tC v):=
 fun _ _ _ H _ I h=>lK I hg hm ⟨v,H,I,r,h⟩ hd
theorem b1R {v:V}(hg:Gl X x)(hm:X.mg x=none)(hv:bootBuiltins x=some u)(r:RelV v u)(hn:x≠"__name__":=by decide)(hd:(x == ("__debug__":Str))=false:=by decide):PE X (.Name x pos) (tC v):=
 fun _ _ _ H _ I h=>oE I hg hm hv ⟨v,H,I,r,h⟩ hn hd
variable {a b:Expr}
def PC (X:Cx)(op:CmpOp)(a b:Expr)(t:TE):Prop:=
 ∀ (pins:List (Addr×Obj))(s:Shared)(σ:St)(H:Hp)(Q:VK),Inv X pins σ H s->t σ H Q->
  wpAny (model X.prog X.w) X.A (eval a X.env) (fun v s₁=>wpAny (model X.prog X.w) X.A (eval b X.env) (fun u s₂=>wpAny (model X.prog X.w) X.A (compareOp op v u) (EP X pins σ Q) X.xe s₂) X.xe s₁) X.xe s
def tB (t:TE):TT:=fun σ H Q=>t σ H fun x H1=>∃c,x= .bl c/\Q c H1
theorem c2R {t:TE}(h:PC X op a b t)(h1:behindInMarks op b=false:=by first | exact nobehind _ (by decide) (by decide) | rfl):PT X (.Compare a [op] [b] pos) (tB t):=by
 intro pins s σ H Q I hw
 refine wpAny_isTrue_Compare1 (thn (h pins s σ H _ I hw) fun v s1 h1=>thn h1 fun u s2 h2=>thn h2 fun c s3 hz9=>?_) h1
 obtain⟨x,H1,I1,r1,q1⟩:=hz9
 obtain⟨d,rfl,q⟩:=q1
 cases r1
 exact Xc ⟨H1,I1,q⟩
theorem b5Z {t:TE}(h:PE X e t)(he:∀whole,isTrue e X.env whole=(do let v<-whole;standAt e.pos;holding [v] (truthy v)):=by intro _;rfl):PT X e (tB t):=by
 intro pins s σ H Q I hw
 refine isTrue_plain (thn (h pins s σ H _ I hw) fun v s1 hz9=>?_) (he _)
 obtain⟨x,H1,I1,r1,q1⟩:=hz9
 obtain⟨d,rfl,q⟩:=q1
 cases r1
 exact Xc ⟨H1,I1,q⟩
variable {tA tB':TT}{rest:List Expr}
def c2J (t u:TT):TT:=fun σ H Q=>t σ H fun c H1=>if c=true then u σ H1 Q else Q false H1
def tOr (t u:TT):TT:=fun σ H Q=>t σ H fun c H1=>if c=true then Q true H1 else u σ H1 Q
def c2C (t:TT):TT:=fun σ H Q=>t σ H fun c H1=>Q (!c) H1
theorem jM (ha:PT X a tA):PW X (.BoolOp .And [a] pos) tA:=by
 intro wh pins s σ H Q I h
 refine isTrue_and (thn (ha pins s σ H Q I h) fun c s1 e=>?_)
 cases c with
 |true=>exact isTrue_and_nil e
 |false=>exact e
theorem nU (ha:PT X a tA):PW X (.BoolOp .Or [a] pos) tA:=by
 intro wh pins s σ H Q I h
 refine isTrue_or (thn (ha pins s σ H Q I h) fun c s1 e=>?_)
 cases c with
 |false=>exact isTrue_or_nil e
 |true=>exact e
theorem kO (ha:PT X a tA)(hb:PW X (.BoolOp .And (b::rest) pos) tB'):PW X (.BoolOp .And (a::b::rest) pos) (c2J tA tB'):=by
 intro wh pins s σ H Q I h
 refine isTrue_and (thn (ha pins s σ H _ I h) fun c s1 hz9=>?_)
 obtain⟨H1,I1,q1⟩:=hz9
 cases c with
 |true=>exact hb wh pins s1 σ H1 Q I1 q1
 |false=>exact⟨H1,I1,q1⟩
theorem sH (ha:PT X a tA)(hb:PW X (.BoolOp .Or (b::rest) pos) tB'):PW X (.BoolOp .Or (a::b::rest) pos) (tOr tA tB'):=by
 intro wh pins s σ H Q I h
 refine isTrue_or (thn (ha pins s σ H _ I h) fun c s1 hz9=>?_)
 obtain⟨H1,I1,q1⟩:=hz9
 cases c with
 |true=>exact⟨H1,I1,q1⟩
 |false=>exact hb wh pins s1 σ H1 Q I1 q1
theorem fL (ha:PT X a tA):PT X (.UnaryOp .Not a pos) (c2C tA):=by
 intro pins s σ H Q I h
 exact isTrue_not (ha pins s σ H (fun c H1=>Q (!c) H1) I h)
def a5F (ta tb:TE):TE:=fun σ H Q=>ta σ H fun x H1=>∃c,x= .bl c/\if c=true then tb σ H1 Q else Q (.bl false) H1
def b5B (ta tb:TE):TE:=fun σ H Q=>ta σ H fun x H1=>∃c,x= .bl c/\if c=true then Q (.bl true) H1 else tb σ H1 Q
def a5E (ta:TE):TE:=fun σ H Q=>ta σ H fun x H1=>∃c,x= .bl c/\Q (.bl (!c)) H1
theorem yR {op}{t:TE}(h:PE X a t):PE X (.BoolOp op [a] pos) t:=fun pins s σ H Q I hw=>BoolOp_one (h pins s σ H Q I hw)
theorem b6G (ha:PE X a ta)(hb:PE X (.BoolOp .And (b::rest) pos) tb):PE X (.BoolOp .And (a::b::rest) pos) (a5F ta tb):=by
 intro pins s σ H Q I h
 refine BoolOp_and (thn (ha pins s σ H _ I h) fun v s1 hz9=>?_)
 obtain⟨x,H1,I1,r1,q1⟩:=hz9
 obtain⟨c,rfl,q1⟩:=q1
 cases r1
 refine Xc ?_
 cases c with
 |true=>exact hb pins s1 σ H1 Q I1 q1
 |false=>exact⟨.bl false,H1,I1,rfl,q1⟩
theorem b9W (ha:PE X a ta)(hb:PE X (.BoolOp .Or (b::rest) pos) tb):PE X (.BoolOp .Or (a::b::rest) pos) (b5B ta tb):=by
 intro pins s σ H Q I h
 refine BoolOp_or (thn (ha pins s σ H _ I h) fun v s1 hz9=>?_)
 obtain⟨x,H1,I1,r1,q1⟩:=hz9
 obtain⟨c,rfl,q1⟩:=q1
 cases r1
 refine Xc ?_
 cases c with
 |false=>exact hb pins s1 σ H1 Q I1 q1
 |true=>exact⟨.bl true,H1,I1,rfl,q1⟩
theorem b6E (ha:PE X a ta):PE X (.UnaryOp .Not a pos) (a5E ta):=by
 intro pins s σ H Q I h
 refine UnaryOp_ (thn (ha pins s σ H _ I h) fun v s1 hz9=>?_)
 obtain⟨x,H1,I1,r1,q1⟩:=hz9
 obtain⟨c,rfl,q1⟩:=q1
 cases r1
 exact not_of (Xc ⟨.bl (!c),H1,I1,rfl,q1⟩)
def tIf (t:TT)(ta tb:TE):TE:=fun σ H Q=>t σ H fun c H1=>if c=true then ta σ H1 Q else tb σ H1 Q
theorem cH (hc:PT X c tA)(ha:PE X a ta)(hb:PE X b tb):PE X (.IfExp c a b pos) (tIf tA ta tb):=by
 intro pins s σ H Q I h
 refine wpAny_IfExp (thn (hc pins s σ H _ I h) fun d s1 hz9=>?_)
 obtain⟨H1,I1,q1⟩:=hz9
 cases d with
 |true=>exact ha pins s1 σ H1 Q I1 q1
 |false=>exact hb pins s1 σ H1 Q I1 q1
end
def SqL (K:W.Frag)(H:Hp)(a:Addr)(xs:List V):Prop:=
 Rd H a (.lst xs)\/
  ∃(o:Obj)(its:Array Value)(n:Nat),K.lookup a=some o/\o.cls= .type "list"/\o.dict=none/\o.data= .seq its n/\its.size<=sizeLine/\Vals xs its.toList
def SqT (K:W.Frag)(H:Hp)(a:Addr)(xs:List V):Prop:=
 Rd H a (.tup xs)\/
  ∃(o:Obj)(its:Array Value)(n:Nat),K.lookup a=some o/\o.cls= .type "tuple"/\o.data= .seq its n/\its.size<=sizeLine/\Vals xs its.toList
def c3S:Value->Option V
 |.none=>some .non
 |.bool b=>some (.bl b)
 |.int i _=>some (.int i)
 |.str x _=>some (.str x)
 |.bytes b _=>some (.byt b)
 |.float b _=>some (.flt b)
 |.ref a=>some (.ref a)
 |.type n=>some (.ty n)
 |_=>none
theorem RelV.abs {x:V}(r:RelV x u):c3S u=some x:=by
 cases x with
 |non=>cases r;rfl
 |bl _=>cases r;rfl
 |int _=>obtain⟨t,rfl⟩:=r;rfl
 |str _=>obtain⟨t,rfl⟩:=r;rfl
 |byt _=>obtain⟨t,rfl⟩:=r;rfl
 |flt _=>obtain⟨t,rfl⟩:=r;rfl
 |ref _=>cases r;rfl
 |ty _=>cases r;rfl
theorem RelV.inj {x y:V}(r:RelV x u)(q:RelV y u):x=y:=Yo (r.abs.symm.trans q.abs)
theorem Vals.inj:∀{xs ys:List V}{us:List Value},Vals xs us->Vals ys us->xs=ys
 |_,_,_,.nil,.nil=>rfl
 |_,_,_,.cons r t,.cons r' t'=>by rw[r.inj r',Vals.inj t t']
section
variable {xs ys:List V}
theorem SqL.of (h:H a=some (.lst xs)):SqL K H a xs:= .inl (.inl h)
theorem SqT.of (h:H a=some (.tup xs)):SqT K H a xs:= .inl (.inl h)
theorem Inv.list (I:Inv X pins σ H s)(h:SqL X.K H a xs):∃its:List Value,Vals xs its/\PlainL s.heap a its.toArray/\xs.length<=sizeLine:=by
 rcases h with h | ⟨o,its,n,hk,hc,hd,hs,hz,r⟩
 ·obtain⟨z,its,n,r,e⟩:=h.ok I.hok
  exact⟨its,r,⟨_,n,e,rfl,rfl,rfl⟩,z⟩
 ·refine⟨its.toList,r,⟨o,n,I.kIn a o hk,hc,hd,by simpa using hs⟩,?_⟩
  have e:=r.length
  simp only[XU]at e
  omega
theorem Inv.tuple (I:Inv X pins σ H s)(h:SqT X.K H a xs):∃its:List Value,Vals xs its/\IsTup s.heap a its.toArray/\xs.length<=sizeLine:=by
 rcases h with h | ⟨o,its,n,hk,hc,hs,hz,r⟩
 ·obtain⟨z,its,r,p⟩:=h.ok I.hok
  exact⟨its,r,p,z⟩
 ·refine⟨its.toList,r,⟨o,I.kIn a o hk,hc,n,by simpa using hs⟩,?_⟩
  have e:=r.length
  simp only[XU]at e
  omega
theorem Inv.list_inj (I:Inv X pins σ H s)(h:SqL X.K H a xs)(h':SqL X.K H a ys):xs=ys:=by
 obtain⟨its,r,⟨o,n,e,_,_,d⟩,_⟩:=I.list h
 obtain⟨its',r',⟨o',n',e',_,_,d'⟩,_⟩:=I.list h'
 rw[e]at e';cases e'
 rw[d]at d'
 injection d' with d1 _
 have:its=its':=by simpa using YT Array.toList d1
 subst this
 exact r.inj r'
theorem Inv.tuple_inj (I:Inv X pins σ H s)(h:SqT X.K H a xs)(h':SqT X.K H a ys):xs=ys:=by
 obtain⟨its,r,⟨o,e,_,n,d⟩,_⟩:=I.tuple h
 obtain⟨its',r',⟨o',e',_,n',d'⟩,_⟩:=I.tuple h'
 rw[e]at e';cases e'
 rw[d]at d'
 injection d' with d1 _
 have:its=its':=by simpa using YT Array.toList d1
 subst this
 exact r.inj r'
end
abbrev Cx.wish (X:Cx)(E:Value->Shared->Prop):Cx:={ X with xe:=E }
abbrev Cx.nox (X:Cx):Cx:=X.wish fun _ _=>False
theorem Cx.Ok.wish (ok:X.Ok)(E:Value->Shared->Prop):(X.wish E).Ok:=
 ⟨ok.mod,ok.kind,ok.glob,ok.blt,ok.above,ok.inj,ok.has,ok.cab,ok.hd,ok.frames,ok.stk,ok.exf,ok.bs,ok.bsz,ok.noex,ok.exfs,ok.funs,ok.frf⟩
theorem Cx.Ok.unwish (ok:(X.wish E).Ok):X.Ok:=
 ⟨ok.mod,ok.kind,ok.glob,ok.blt,ok.above,ok.inj,ok.has,ok.cab,ok.hd,ok.frames,ok.stk,ok.exf,ok.bs,ok.bsz,ok.noex,ok.exfs,ok.funs,ok.frf⟩
section
theorem Inv.wish (I:Inv X pins σ H s)(E:Value->Shared->Prop):Inv (X.wish E) pins σ H s:=⟨I.ok.wish E,I.os,I.bare,I.base,I.loc,I.cell,I.free,I.freeC,I.pin,I.hok,I.len⟩
theorem Inv.unwish (I:Inv (X.wish E) pins σ H s):Inv X pins σ H s:=⟨I.ok.unwish,I.os,I.bare,I.base,I.loc,I.cell,I.free,I.freeC,I.pin,I.hok,I.len⟩
theorem SP.unwish {D:Ends}{f:Flow}{s':Shared}(h:SP (X.wish E) pins D f s'):SP X pins D f s':=by
 cases f with
 |next=>obtain⟨σ',H',I,q⟩:=h;exact⟨σ',H',I.unwish,q⟩
 |brk=>obtain⟨σ',H',I,q⟩:=h;exact⟨σ',H',I.unwish,q⟩
 |cont=>obtain⟨σ',H',I,q⟩:=h;exact⟨σ',H',I.unwish,q⟩
 |ret u=>obtain⟨v,σ',H',I,r,q⟩:=h;exact⟨v,σ',H',I.unwish,r,q⟩
theorem PSs.nox {st:List Stmt}{t:TS}(h:PSs X.nox st t):PSs X st t:=fun pins s σ H D I hw=>
 Xe (h pins s σ H D (I.wish _) hw) (fun _ _ q=>q.unwish) fun _ _ z=>False.elim z
end
section
variable {st:Stmt}{rest:List Stmt}{t u:TS}
def b9G:TS:=fun D σ H=>D.nx σ H
def c2A (t u:TS):TS:=fun D σ H=>t { D with nx:=u D } σ H
theorem aV:PSs X [] b9G:=fun _ _ σ H _ I h=>wpAny_execs_nil ⟨σ,H,I,h⟩
theorem aC (h1:PS X st t)(h2:PSs X rest u):PSs X (st::rest) (c2A t u):=by
 intro pins s σ H D I h
 refine wpAny_execs_cons (thn (h1 pins s σ H { D with nx:=u D } I h) fun f s1 q=>?_)
 cases f with
 | next=>
  obtain⟨σ',H',I',q⟩:=q
  exact h2 pins s1 σ' H' D I' q
 |ret v=>exact q
 |brk=>exact q
 |cont=>exact q
theorem aF (h1:PS X st t):PSs X [st] t:=by
 intro pins s σ H D I h
 refine wpAny_execs_cons (thn (h1 pins s σ H D I h) fun f s1 q=>?_)
 cases f with
 |next=>exact wpAny_execs_nil q
 |ret v=>exact q
 |brk=>exact q
 |cont=>exact q
theorem Inv.quiet (I:Inv X pins σ H s):interactive X.env=false:=by simp[interactive,I.ok.kind]
def b9H (te:TE):TS:=fun D σ H=>te σ H fun _ H1=>D.nx σ H1
theorem bB (he:PE X e te)(hs:swapsWith e none pos.line X.env=pure false:=by rfl):PS X (.Expr e pos) (b9H te):=by
 intro pins s σ H D I h
 exact wpAny_Expr_any (thn (he pins s σ H _ I h) fun v s1 ⟨x,H1,I1,r1,q1⟩=>⟨σ,H1,I1,q1⟩) I.quiet hs
def c2B (te:TE):TS:=fun D σ H=>te σ H D.rt
theorem aM (he:PE X e te):PS X (.Return (some e) pos) (c2B te):=by
 intro pins s σ H D I h
 exact wpAny_Return_some (thn (he pins s σ H _ I h) fun v s1 ⟨x,H1,I1,r1,q1⟩=>⟨x,σ,H1,I1,r1,q1⟩)
def c2E (c:TT)(t u:TS):TS:=fun D σ H=>c σ H fun b H1=>if b=true then t D σ H1 else u D σ H1
theorem bJ {a b:List Stmt}{tc:TT}(hc:PT X c tc)(ha:PSs X a t)(hb:PSs X b u):PS X (.If c a b pos) (c2E tc t u):=by
 intro pins s σ H D I h
 refine wpAny_If (thn (hc pins s σ H _ I h) fun d s1 hz9=>?_)
 obtain⟨H1,I1,q1⟩:=hz9
 cases d with
 |true=>exact ha pins s1 σ H1 D I1 q1
 |false=>exact hb pins s1 σ H1 D I1 q1
end
abbrev TG:=V->St->Hp->(St->Hp->Prop)->Prop
abbrev TGs:=List V->St->Hp->(St->Hp->Prop)->Prop
def PG (X:Cx)(target:Expr)(t:TG):Prop:=
 ∀ (pins:List (Addr×Obj))(s:Shared)(σ:St)(H:Hp)(v:V)(u:Value)(Q:St->Hp->Prop),Inv X pins σ H s->RelV v u->t v σ H Q->
  wpAny (model X.prog X.w) X.A (assign target X.env u) (fun _ s'=>∃σ' H',Inv X pins σ' H' s'/\Q σ' H') X.xe s
def PGs (X:Cx)(ts:List Expr)(t:TGs):Prop:=
 ∀ (pins:List (Addr×Obj))(s:Shared)(σ:St)(H:Hp)(vs:List V)(us:List Value)(Q:St->Hp->Prop),Inv X pins σ H s->Vals vs us->t vs σ H Q->
  wpAny (model X.prog X.w) X.A (assignInOrder ((assignEach ts X.env).map (·.2)) us) (fun _ s'=>∃σ' H',Inv X pins σ' H' s'/\Q σ' H') X.xe s
abbrev b8L:=V->V->V->Hp->(Hp->Prop)->Prop
def b8O (X:Cx)(t:b8L):Prop:=
 ∀ (pins:List (Addr×Obj))(s:Shared)(σ:St)(H:Hp)(o i v:V)(ov iv u:Value)(Q:Hp->Prop),Inv X pins σ H s->RelV o ov->RelV i iv->RelV v u->t o i v H Q->
  wpAny (model X.prog X.w) X.A (setItem ov iv u) (fun _ s'=>∃H',Inv X pins σ H' s'/\Q H') X.xe s
section
def wW (i:Nat):TG:=fun v σ H Q=>Q (σ.set i (some v)) H
theorem cQ (hN:X.N.Nodup)(hi:X.N[i]? =some x)(hx:Loc X.env.scope x)(hf:X.fn x=true\/X.env.scope.names.lookup x=some .local:=by first | exact .inl rfl | exact .inr rfl | assumption):PG X (.Name x pos) (wW i):=by
 intro pins s σ H v u Q I r h
 exact wpAny_assign_Name (qC I hN hi hx r (fun s' I'=>⟨_,H,I',h⟩) hf)
def c0X:TGs:=fun vs σ H Q=>vs= []/\Q σ H
def a8U (t:TG)(u:TGs):TGs:=fun vs σ H Q=>∃v r,vs=v::r/\t v σ H fun σ' H'=>u r σ' H' Q
theorem uC:PGs X [] c0X:=by
 intro pins s σ H vs us Q I r h
 obtain⟨e,h⟩:=h
 subst e
 cases r
 exact assignInOrder_nil ⟨σ,H,I,h⟩
theorem jE {e:Expr}{es:List Expr}{t:TG}{u:TGs}(h1:PG X e t)(h2:PGs X es u)
  (hs:(assignEach (e::es) X.env).map (·.2)=assign e X.env::(assignEach es X.env).map (·.2):=by rfl):PGs X (e::es) (a8U t u):=by
 intro pins s σ H vs us Q I r h
 obtain⟨v,vr,e1,h⟩:=h
 subst e1
 cases r with
 | cons r rr=>
  rw[hs]
  refine assignInOrder_cons (thn (h1 pins s σ H _ _ _ I r h) fun _ s1 hz9=>?_)
  obtain⟨σ1,H1,I1,q1⟩:=hz9
  exact h2 pins s1 σ1 H1 _ _ Q I1 rr q1
def c0W (K:W.Frag)(n:Nat)(t:TGs):TG:=fun v σ H Q=>∃a xs,v= .ref a/\SqT K H a xs/\xs.length=n/\t xs σ H Q
theorem yQ {es:List Expr}{k:Nat}{t:TGs}{n:Nat}(hc:X.calm=true)(h:PGs X es t)
  (hn:(assignEach es X.env).length=n:=by rfl) (hst:(assignEach es X.env).findIdx? (·.1)=none:=by rfl):PG X (.Tuple es k pos) (c0W X.K n t):=by
 intro pins s σ H v u Q I r hw
 obtain⟨a,xs,e1,hq,hl,hw⟩:=hw
 subst e1
 cases r
 obtain⟨its,rv,ht,hz⟩:=I.tuple hq
 refine assign_Tuple_tuple (I.ok.hd hc) ht (by simp[hn,<-hl,rv.length]) hst fun h' hx=>?_
 have I1:Inv X pins σ H { s with heap:=h' }:=I.kept (t':=s.toks) fun b o e=>hx b o (YO (Ys e)) e
 exact h pins _ σ H xs _ Q I1 (by simpa using rv) hw
def c3E (to ti:TE)(t:b8L):TG:=fun v σ H Q=>to σ H fun o H1=>ti σ H1 fun i H2=>t o i v H2 fun H3=>Q σ H3
theorem b6C {o i:Expr}{to ti:TE}{t:b8L}(ho:PE X o to)(hi:PE X i ti)(hs:b8O X t)
  (ha:∀v,assign (.Subscript o i pos) X.env v=(do
   let ov<-holding [v] (eval o X.env)
   let iv<-holding [v,ov] (eval i X.env)
   standAt pos
   holding [v,ov,iv] (setItem ov iv v)
   release [v,ov,iv] []):=by intro _;rfl):PG X (.Subscript o i pos) (c3E to ti t):=by
 intro pins s σ H v u Q I r h
 rw[ha]
 refine Y4 (wpAny_holding (thn (ho pins s σ H _ I h) fun ov s1 hz9=>?_))
 obtain⟨x,H1,I1,r1,q1⟩:=hz9
 refine Y4 (wpAny_holding (thn (hi pins s1 σ H1 _ I1 q1) fun iv s2 hz9=>?_))
 obtain⟨y,H2,I2,r2,q2⟩:=hz9
 refine Y4 (wpAny_standAt (Y4 (wpAny_holding (thn (hs pins s2 σ H2 x y v ov iv u _ I2 r1 r2 r q2) fun _ s3 hz9=>?_))))
 obtain⟨H3,I3,q3⟩:=hz9
 exact wpAny_release ⟨σ,H3,I3,q3⟩
def b5G (te:TE)(g:TG):TS:=fun D σ H=>te σ H fun x H1=>g x σ H1 D.nx
theorem b6A {tg e:Expr}{te:TE}{g:TG}(he:PE X e te)(hg:PG X tg g)(hs:swapsWithSole [tg] e pos.line X.env=pure false:=by rfl)(hw:swappedStores [tg] e X.env=pure none:=by rfl)
  (h1:(assignEach [tg] X.env).map (·.2)= [assign tg X.env]:=by rfl):PS X (.Assign [tg] e pos) (b5G te g):=by
 intro pins s σ H D I h
 refine wpAny_Assign_stores (thn (he pins s σ H _ I h) fun v s1 hz9=>?_) hs hw
 obtain⟨x,H1,I1,r1,q1⟩:=hz9
 rw[h1]
 exact thn (hg pins s1 σ H1 x v _ I1 r1 q1) fun _ s2 q=>q
theorem aX {pos':Pos}(hN:X.N.Nodup)(hi:X.N[i]? =some x)(hx:Loc X.env.scope x)(he:PE X e te)(hs:swapsWith e (some (.Name x pos')) pos.line X.env=pure false:=by rfl)(hf:X.fn x=true\/X.env.scope.names.lookup x=some .local:=by first | exact .inl rfl | exact .inr rfl | assumption):
  PS X (.Assign [.Name x pos'] e pos) (b5G te (wW i)):=by
 intro pins s σ H D I h
 refine wpAny_Assign_Name (thn (he pins s σ H _ I h) fun v s1 hz9=>?_) hs
 obtain⟨y,H1,I1,r1,q1⟩:=hz9
 exact qC I1 hN hi hx r1 (fun s2 I2=>⟨_,H1,I2,q1⟩) hf
end
section
def b4Z (c:TT)(tb:TS):TS:=fun D σ H=>∃W:Nat->St->Hp->Prop,(∃m,W m σ H)/\∀m σ H,W m σ H->
 c σ H fun b H1=>if b=true then ∃N:St->Hp->Prop,(∀σ' H',N σ' H'->∃m',m'<m/\W m' σ' H')/\tb { D with nx:=N,ct:=N,bk:=D.nx } σ H1 else D.nx σ H1
theorem wA {body:List Stmt}{tc:TT}{tb:TS}(hp:PassesOwn (model X.prog X.w) X.A X.env X.xe)(hc:PT X c tc)(hb:PSs X body tb):PS X (.While c body [] pos) (b4Z tc tb):=by
 intro pins s σ H D I h
 obtain⟨W,⟨m0,w0⟩,turn⟩:=h
 refine wpAny_While (codeAny_whileLoop (fun n s'=>∃σ' H',Inv X pins σ' H' s'/\W n σ' H') ?_ m0 ⟨σ,H,I,w0⟩)
 rintro n s1 ⟨σ1,H1,I1,w1⟩
 refine XQ hp (thn (hc pins s1 σ1 H1 _ I1 (turn n σ1 H1 w1)) fun b s2 hz9=>?_)
 obtain⟨H2,I2,q2⟩:=hz9
 cases b with
 | true=>
  obtain⟨N,hN,q2⟩:=q2
  rw[if_pos rfl]
  refine XQ hp (thn (hb pins s2 σ1 H2 _ I2 q2) fun f s3 q3=>?_)
  cases f with
  | next=>
   obtain⟨σ3,H3,I3,n3⟩:=q3
   obtain⟨m',hm,w3⟩:=hN σ3 H3 n3
   exact⟨m',hm,σ3,H3,I3,w3⟩
  | cont=>
   obtain⟨σ3,H3,I3,n3⟩:=q3
   obtain⟨m',hm,w3⟩:=hN σ3 H3 n3
   exact⟨m',hm,σ3,H3,I3,w3⟩
  |brk=>exact q3
  |ret v=>exact q3
 | false=>
  rw[if_neg Yq]
  exact wpAny_execs_nil ⟨σ1,H2,I2,q2⟩
end
structure It where
 go:Nat->Hp->Prop
 yld:Nat->Hp->V->Hp->Prop
 stop:Nat->Hp->Prop
def pB (X:Cx)(pins:List (Addr×Obj))(H:Hp)(b:Addr):Prop:=
 H b=none/\b≠X.env.locals/\b∉X.fs/\(b∈X.ex\/X.s₀.heap.objs.size<=b)/\(∀x c,X.env.cells.lookup x=some c->c≠b)/\∀p∈X.pn++pins,p.1≠b
theorem Inv.fpOk (I:Inv X pins σ H s)(hb:s.heap.objs.size<=b)(hn:H' b=none):pB X pins H' b:=by
 refine⟨hn,Nat.ne_of_gt (Yj I.lt hb),I.nofs hb,.inr (Y9 I.sz hb),fun x c e z=>?_,fun p hp z=>?_⟩
 ·obtain⟨v,q⟩:=I.cell x c e
  exact absurd (Yj q.lt (by rw[z];exact hb)) (Y3 _)
 ·exact absurd (Yj (Ys (I.pin p hp).1) (by rw[z];exact hb)) (Y3 _)
structure Turn (P:Program)(w:World)(K:W.Frag)(tg:Expr)(J:It)(fp:List Addr)(it:Addr)(tn:Nat->Heap->Prop):Prop where
 mem:it∈fp
 obj:∀i h,tn i h->∀b∈fp,∃o,h.get? b=some o/\∀v,o.data≠ .cell v
 keep:∀i h h',tn i h->(∀b∈fp,∀o,h.get? b=some o->h'.get? b=some o)->tn i h'
 item :∀(X:Cx),X.prog=P->X.w=w->X.K=K->X.calm=true->∀(i:Nat)(pins:List (Addr×Obj))(s:Shared)(σ:St)(H:Hp)(E:Value->Shared->Prop),Inv X pins σ H s->(∀b∈fp,pB X pins H b)->tn i s.heap->J.go i H->
  wpAny (model P w) X.A (pyNext (.ref it)) (fun r s1=>∃u,r=some u/\
   wpAny (model P w) X.A (letOwnedTupleGo tg (.ref it) u) (fun _ s2=>∃x H',Inv X pins σ H' s2/\RelV x u/\J.yld i H x H'/\tn (i+1) s2.heap/\∀b∈fp,H' b=none) E s1) E s
 done:∀(X:Cx),X.prog=P->X.w=w->X.K=K->X.calm=true->∀(i:Nat)(pins:List (Addr×Obj))(s:Shared)(σ:St)(H:Hp)(E:Value->Shared->Prop),Inv X pins σ H s->(∀b∈fp,pB X pins H b)->tn i s.heap->J.stop i H->
  wpAny (model P w) X.A (pyNext (.ref it)) (fun r s1=>r=none/\Inv X pins σ H s1) E s
 self:∀(A:Around)(i:Nat)(s:Shared)(Q:Value->Shared->Prop)(E:Value->Shared->Prop),tn i s.heap->Q (.ref it) s->wpAny (model P w) A (pyIter (.ref it)) Q E s
abbrev TI:=St->Hp->(It->Hp->Prop)->Prop
def PIE (X:Cx)(pins:List (Addr×Obj))(σ:St)(tg:Expr)(R:It->Hp->Prop)(itv:Value)(s2:Shared):Prop:=
 ∃(it:Addr)(fp:List Addr)(tn:Nat->Heap->Prop)(J:It)(H':Hp),itv= .ref it/\Inv X pins σ H' s2/\Turn X.prog X.w X.K tg J fp it tn/\tn 0 s2.heap/\(∀b∈fp,pB X pins H' b)/\R J H'
def PI (X:Cx)(tg iter:Expr)(wi:TI):Prop:=
 ∀ (pins:List (Addr×Obj))(s:Shared)(σ:St)(H:Hp)(R:It->Hp->Prop),Inv X pins σ H s->wi σ H R->
  wpAny (model X.prog X.w) X.A (eval iter X.env) (fun v s1=>wpAny (model X.prog X.w) X.A (pyIter v) (PIE X pins σ tg R) X.xe s1) X.xe s
theorem a1L {M:Model}{A:Around}{E:Value->Shared->Prop}{s:Shared}{tg:Expr}{it:Addr}{u:Value}{o:Obj}{n:String}{vs:Array Value}{Q:Unit->Shared->Prop}(ho:s.heap.get? it=some o)(hc:o.cls= .type n)(hd:o.data= .fields vs)
    (hn:["enumerate","zip","dict_itemiterator","dict_reverseitemiterator","odict_iterator","itertools.zip_longest","itertools.pairwise"].contains n=false) (hQ:Q () s):wpAny M A (letOwnedTupleGo tg (.ref it) u) Q E s:=by
  unfold letOwnedTupleGo
  cases tg <;> first
    |exact Xj hQ
    | (cases u <;> first
        |exact Xj hQ
        | (refine Y4 (wpAny_load ho ?_)
           rw[hc,hd]
           show wpAny M A (if (["enumerate","zip","dict_itemiterator","dict_reverseitemiterator","odict_iterator","itertools.zip_longest","itertools.pairwise"].contains n && vs[0]? == some (rawInt _))=true then _ else _) Q E s
           rw[if_neg (by intro h;rw[hn,Jc]at h;cases h)]
           exact Xj hQ))
def Itl (K:W.Frag)(a:Addr):It:=
 ⟨fun i H=>∃xs x,SqL K H a xs/\xs[i]? =some x,fun i H x H'=>H'=H/\∀xs,SqL K H a xs->xs[i]? =some x,fun i H=>∃xs,SqL K H a xs/\xs.length<=i⟩
def Itt (K:W.Frag)(a:Addr):It:=
 ⟨fun i H=>∃xs x,SqT K H a xs/\xs[i]? =some x,fun i H x H'=>H'=H/\∀xs,SqT K H a xs->xs[i]? =some x,fun i H=>∃xs,SqT K H a xs/\xs.length<=i⟩
def Itr (lo:Int)(n:Nat):It:=⟨fun i _=>i<n,fun i H x H'=>H'=H/\x= .int (lo+i),fun i _=>n<=i⟩
theorem rY (a it:Addr):Turn P w K tg (Itl K a) [it] it (fun i h=>h.IsListIter it a i) where
 mem:=by simp
 obj:=fun i h st b hb=>by
  have e:b=it:=by simpa using hb
  subst e
  obtain⟨o,e,c,d⟩:=st
  exact⟨o,e,fun v z=>by rw[d]at z;cases z⟩
 keep:=fun i h h' st k=>st.at fun o e=>k it (by simp) o e
 item:=by
  intro X hP hw hK hc i pins s σ H E I hf st hg
  subst hP hw hK
  obtain⟨xs,x,hq,hx⟩:=hg
  obtain⟨its,rv,p,hz⟩:=I.list hq
  obtain⟨u,hu,ru⟩:=rv.get hx
  obtain⟨f0,f1,f2,f3,f4,f5⟩:=hf it (by simp)
  refine wpAny_pyNext_list_item st p.isList (x:=u) (by simpa using hu) fun h' st' sb=>?_
  have I1:Inv X pins σ H { s with heap:=h' }:=I.turned (t':=s.toks) (fun b o hb e=>(sb.2 b hb).trans e) f0 f1 f3 f4 f5
  obtain⟨o,e,c,d⟩:=id st'
  exact⟨u,rfl,a1L (s:={ s with heap:=h' }) e c d (by decide) ⟨x,H,I1,ru,⟨rfl,fun ys hy=>by rw[I.list_inj hy hq];exact hx⟩,st',fun b hb=>(hf b hb).1⟩⟩
 done:=by
  intro X hP hw hK hc i pins s σ H E I hf st hg
  subst hP hw hK
  obtain⟨xs,hq,hx⟩:=hg
  obtain⟨its,rv,p,hz⟩:=I.list hq
  obtain⟨f0,f1,f2,f3,f4,f5⟩:=hf it (by simp)
  have hl:=rv.length
  exact wpAny_pyNext_list_end (I.ok.hd hc) st p.isList (by simp;omega) fun h' eb=>⟨rfl,I.turned (t':=s.toks) (fun b o hb e=>eb b o hb e) f0 f1 f3 f4 f5⟩
 self:=fun _ _ _ _ _ st h=>wpAny_pyIter_listiter st h
theorem xZ (a it:Addr):Turn P w K tg (Itt K a) [it] it (fun i h=>h.IsTupleIter it a i) where
 mem:=by simp
 obj:=fun i h st b hb=>by
  have e:b=it:=by simpa using hb
  subst e
  obtain⟨o,e,c,d⟩:=st
  exact⟨o,e,fun v z=>by rw[d]at z;cases z⟩
 keep:=fun i h h' st k=>st.at fun o e=>k it (by simp) o e
 item:=by
  intro X hP hw hK hc i pins s σ H E I hf st hg
  subst hP hw hK
  obtain⟨xs,x,hq,hx⟩:=hg
  obtain⟨its,rv,p,hz⟩:=I.tuple hq
  obtain⟨u,hu,ru⟩:=rv.get hx
  obtain⟨f0,f1,f2,f3,f4,f5⟩:=hf it (by simp)
  refine wpAny_pyNext_tuple_item st (show s.heap.IsTuple a its.toArray from p) (x:=u) (by simpa using hu) fun h' st' sb=>?_
  have I1:Inv X pins σ H { s with heap:=h' }:=I.turned (t':=s.toks) (fun b o hb e=>(sb.2 b hb).trans e) f0 f1 f3 f4 f5
  obtain⟨o,e,c,d⟩:=id st'
  exact⟨u,rfl,a1L (s:={ s with heap:=h' }) e c d (by decide) ⟨x,H,I1,ru,⟨rfl,fun ys hy=>by rw[I.tuple_inj hy hq];exact hx⟩,st',fun b hb=>(hf b hb).1⟩⟩
 done:=by
  intro X hP hw hK hc i pins s σ H E I hf st hg
  subst hP hw hK
  obtain⟨xs,hq,hx⟩:=hg
  obtain⟨its,rv,p,hz⟩:=I.tuple hq
  obtain⟨f0,f1,f2,f3,f4,f5⟩:=hf it (by simp)
  have hl:=rv.length
  exact wpAny_pyNext_tuple_end (I.ok.hd hc) st (show s.heap.IsTuple a its.toArray from p) (by simp;omega) fun h' eb=>⟨rfl,I.turned (t':=s.toks) (fun b o hb e=>eb b o hb e) f0 f1 f3 f4 f5⟩
 self:=fun _ _ _ _ _ st h=>wpAny_pyIter_tupleiter st h
theorem yC (it:Addr)(lo:Int)(n:Nat):Turn P w K tg (Itr lo n) [it] it (fun i h=>IsRangeIter h it (lo+(i:Nat)*1) ((n:Int)-(i:Nat)) 1) where
 mem:=by simp
 obj :=fun i h st b hb=>by
  have e:b=it:=by simpa using hb
  subst e
  exact⟨_,st,fun v z=>by
   have z':Data.fields _=Data.cell v:=z
   cases z'⟩
 keep:=fun i h h' st k=>k it (by simp) _ st
 item:=by
  intro X hP hw hK hc i pins s σ H E I hf st hg
  subst hP hw hK
  obtain⟨f0,f1,f2,f3,f4,f5⟩:=hf it (by simp)
  have W:=Walks.range (prog:=X.prog) (w:=X.w) (I.ok.hd hc) it lo 1 n
  refine W.item i s _ _ hg st fun v h' tk hv st' kk=>?_
  obtain⟨t,rfl⟩:=hv
  have I1:Inv X pins σ H { s with heap:=h',toks:=tk }:=I.turned (fun b o hb e=>kk b o (by simpa using hb) e) f0 f1 f3 f4 f5
  refine⟨_,rfl,a1L (s:={ s with heap:=h',toks:=tk }) (n:="range_iterator") st' rfl rfl (by decide) ⟨.int (lo+i),H,I1,⟨t,?_⟩,⟨rfl,rfl⟩,st',fun b hb=>(hf b hb).1⟩⟩
  rw[Int.mul_one]
 done:=by
  intro X hP hw hK hc i pins s σ H E I hf st hg
  subst hP hw hK
  obtain⟨f0,f1,f2,f3,f4,f5⟩:=hf it (by simp)
  exact wpAny_pyNext_range_end (I.ok.hd hc) st (by have:n<=i:=hg;omega) fun h' eb=>⟨rfl,I.turned (t':=s.toks) (fun b o hb e=>eb b o hb e) f0 f1 f3 f4 f5⟩
 self:=fun _ _ _ _ _ st h=>wpAny_pyIter_rangeiter st h
section
def c0V (K:W.Frag)(tl:TE):TI:=fun σ H R=>tl σ H fun x H1=>∃a,x= .ref a/\(∃xs,SqL K H1 a xs)/\R (Itl K a) H1
theorem b1P {l:Expr}{tl:TE}(hl:PE X l tl):PI X tg l (c0V X.K tl):=by
 intro pins s σ H R I h
 refine thn (hl pins s σ H _ I h) fun v s1 hz9=>?_
 obtain⟨x,H1,I1,r1,q1⟩:=hz9
 obtain⟨a,e,⟨xs,hq⟩,q⟩:=q1
 subst e
 cases r1
 obtain⟨its,rv,p,hz⟩:=I1.list hq
 refine wpAny_pyIter_list p.isList ?_
 refine⟨s1.heap.objs.size, [s1.heap.objs.size],_,_,H1,rfl,I1.kept (t':=s1.toks) fun b o e=>Yp _ e,rY a _,⟨_,YL _ rfl,rfl,rfl⟩,fun b hb=>?_,q⟩
 have e:b=s1.heap.objs.size:=by simpa using hb
 subst e
 exact I1.fpOk (Yd _) (I1.hok.fresh (Yd _))
theorem a6U {pins:List (Addr×Obj)}{σ:St}{H:Hp}{s:Shared}{R:It->Hp->Prop}{E:Value->Shared->Prop}{lo hi:Int}{t u v:Tok}{tk:Nat}(I:Inv X pins σ H s)(h1: -(2 ^ 62)<=lo)(h2:lo<2 ^ 62)(h3: -(2 ^ 62)<=hi)(h4:hi<2 ^ 62)
  (q:R (Itr lo (hi-lo).toNat) H):wpAny (model X.prog X.w) X.A (pyIter (.ref s.heap.objs.size)) (PIE X pins σ tg R) E { s with heap:=s.heap.push { cls:= .type "range",data:= .fields #[.int lo t,.int hi u,.int 1 v] },toks:=tk }:=by
 refine wpAny_pyIter_range (IsRange.new ..) (small_one h1 h2 h3 h4) ?_
 have I1:Inv X pins σ H { s with heap:=s.heap.push { cls:= .type "range",data:= .fields #[.int lo t,.int hi u,.int 1 v] },toks:=tk }:=I.kept fun b o e=>Yp _ e
 refine⟨(s.heap.push { cls:= .type "range",data:= .fields #[.int lo t,.int hi u,.int 1 v] }).objs.size, [(s.heap.push { cls:= .type "range",data:= .fields #[.int lo t,.int hi u,.int 1 v] }).objs.size],_,_,H,rfl,
  I1.kept (t':=tk) fun b o e=>Yp _ e,yC _ lo (hi-lo).toNat,?_,fun b hb=>?_,q⟩
 ·have e1:lo+((0:Nat):Int)*1=lo:=by simp
  have e2:(((hi-lo).toNat:Nat):Int)-((0:Nat):Int)=Builtin.Range.rangeSize lo hi 1:=by rw[rangeSize_one];split <;> omega
  show IsRangeIter _ _ (lo+((0:Nat):Int)*1) ((((hi-lo).toNat:Nat):Int)-((0:Nat):Int)) 1
  rw[e1,e2]
  exact YL _ rfl
 ·have e:b=(s.heap.push { cls:= .type "range",data:= .fields #[.int lo t,.int hi u,.int 1 v] }).objs.size:=by simpa using hb
  subst e
  exact I1.fpOk (Yd _) (I1.hok.fresh (Yd _))
def c0U (ta:TA):TI:=fun σ H R=>ta σ H fun vs H1=>∃j:Int,vs= [.int j]/\ -(2 ^ 62)<=j/\j<2 ^ 62/\R (Itr 0 j.toNat) H1
theorem a3F {a:Expr}{ta:TA}(hg:Gl X "range")(hm:X.mg "range"=none)(ha:PA X [a] ta)(hs:starEach [a] X.env= [(false,eval a X.env)]:=by rfl):PI X tg (.Call (.Name "range" p) [a] [] pos) (c0U ta):=by
 intro pins s σ H R I h
 refine Call_ (oE I hg hm boot_range (XN (thn (ha pos pins s σ H _ I h) fun us s1 hz9=>?_) hs rfl))
 obtain⟨vs,H1,I1,r1,q1⟩:=hz9
 obtain⟨j,e,q1,q2,q⟩:=q1
 subst e
 cases r1 with
 | cons r rr=>
  cases rr
  obtain⟨t,rfl⟩:=r
  exact call_range_1 (a6U I1 (by omega) (by omega) q1 q2 (by simpa using q))
def c2F (wi:TI)(g:TG)(tb:TS):TS:=fun D σ H=>wi σ H fun J H1=>∃W:Nat->Nat->St->Hp->Prop,(∃m,W 0 m σ H1)/\∀i m σ H,W i m σ H->
 (J.stop i H/\D.nx σ H)\/(J.go i H/\∃N:St->Hp->Prop,(∀σ' H',N σ' H'->∃m',m'<m/\W (i+1) m' σ' H')/\∀x H',J.yld i H x H'->g x σ H' fun σ2 H2=>tb { D with nx:=N,ct:=N,bk:=D.nx } σ2 H2)
def qJ (fp:List Addr)(h:Heap):List (Addr×Obj):=fp.filterMap fun b=>(h.get? b).map fun o=>(b,o)
theorem jR {o:Obj}(hb:b∈fp)(e:h.get? b=some o):(b,o)∈qJ fp h:=List.mem_filterMap.mpr ⟨b,hb,by rw[e];rfl⟩
theorem a3G {p:Addr×Obj}(hp:p∈qJ fp h):p.1∈fp/\h.get? p.1=some p.2:=by
 obtain⟨b,hb,e⟩:=List.mem_filterMap.mp hp
 cases q:h.get? b with
 |none=>rw[q]at e;cases e
 | some o=>
  rw[q]at e
  have e':(b,o)=p:=Yo e
  subst e'
  exact⟨hb,q⟩
theorem Inv.pinned (I:Inv X pins σ H s)(hf:∀b∈fp,pB X pins H b)(ho:∀b∈fp,∃o,s.heap.get? b=some o/\∀v,o.data≠ .cell v):Inv X (pins++qJ fp s.heap) σ H s:=
 I.pins_of fun p hp=>(YI.mp hp).elim (fun z=>I.pin p (YZ _ z)) fun z=>by
  obtain⟨hb,e⟩:=a3G z
  obtain⟨f0,f1,f2,_⟩:=hf p.1 hb
  obtain⟨o,e',d⟩:=ho p.1 hb
  rw[e]at e';cases e'
  exact⟨e,f0,f1,f2,d⟩
theorem Inv.unpinned {pl:List (Addr×Obj)}(I:Inv X (pins++pl) σ H s):Inv X pins σ H s:=I.pins_of fun p hp=>I.pin p (YZ _ (Xy _ hp))
theorem eV {iter:Expr}{body:List Stmt}{wi:TI}{g:TG}{tb:TS}{pos:Pos}(hp:PassesOwn (model X.prog X.w) X.A X.env X.xe)(hc:X.calm=true)(hi:PI X tg iter wi)(hg:PG X tg g)(hb:PSs X body tb)
  (hs:∀x,foldedSetIterable iter X.env x=pure x:=by intro _;rfl):PS X (.For tg iter body [] pos) (c2F wi g tb):=by
 intro pins s σ H D I h
 refine wpAny_For (thn (hi pins s σ H _ I h) fun v s1 h1=>thn h1 fun itv s2 h2=>?_) hs
 obtain⟨it,fp,tn,J,H2,e,I2,T,st2,f2,W,⟨m0,w0⟩,turn⟩:=h2
 subst e
 have stat:∀{H':Hp},(∀b∈fp,H' b=none)->∀b∈fp,pB X pins H' b:=fun hn b hb=>⟨hn b hb,(f2 b hb).2⟩
 refine codeAny_forLoop_any (fun n s'=>∃i σ' H',Inv X pins σ' H' s'/\tn i s'.heap/\(∀b∈fp,H' b=none)/\W i n σ' H') ?_ m0 ⟨0,σ,H2,I2,st2,fun b hb=>(f2 b hb).1,w0⟩
 rintro n s3 ⟨i,σ3,H3,I3,st3,fr3,w3⟩
 rcases turn i n σ3 H3 w3 with ⟨stop,qn⟩ | ⟨go,N,hN,step⟩
 ·refine XQ hp (thn (T.done X rfl rfl rfl hc i pins s3 σ3 H3 X.xe I3 (stat fr3) st3 stop) fun r s4 ⟨hr,I4⟩=>?_)
  subst hr
  exact wpAny_execs_nil ⟨σ3,H3,I4,qn⟩
 ·refine XQ hp (thn (T.item X rfl rfl rfl hc i pins s3 σ3 H3 X.xe I3 (stat fr3) st3 go) fun r s4 hz9=>?_)
  obtain⟨u,hr,h4⟩:=hz9
  subst hr
  refine XQ hp (thn h4 fun _ s5 hz9=>?_)
  obtain⟨x,H5,I5,r5,y5,st5,fr5⟩:=hz9
  have I5':=I5.pinned (stat fr5) (T.obj _ _ st5)
  refine XQ hp (thn (hg _ s5 σ3 H5 x u _ I5' r5 (step x H5 y5)) fun _ s6 hz9=>?_)
  obtain⟨σ6,H6,I6,q6⟩:=hz9
  refine XQ hp (thn (hb _ s6 σ6 H6 _ I6 q6) fun f s7 q7=>?_)
  have again:∀{σ7:St}{H7:Hp},Inv X (pins++qJ fp s5.heap) σ7 H7 s7->N σ7 H7->∃m,m<n/\∃i σ' H',Inv X pins σ' H' s7/\tn i s7.heap/\(∀b∈fp,H' b=none)/\W i m σ' H':=fun {σ7 H7} I7 n7=>by
   obtain⟨m',hm,w7⟩:=hN σ7 H7 n7
   refine⟨m',hm,i+1,σ7,H7,I7.unpinned,T.keep _ _ _ st5 fun b hb o e=>(I7.pin (b,o) (YZ _ (YZ _ (jR hb e)))).1,fun b hb=>?_,w7⟩
   obtain⟨o,e,d⟩:=T.obj _ _ st5 b hb
   exact(I7.pin (b,o) (YZ _ (YZ _ (jR hb e)))).2.1
  cases f with
  |next=>obtain⟨σ7,H7,I7,n7⟩:=q7;exact again I7 n7
  |cont=>obtain⟨σ7,H7,I7,n7⟩:=q7;exact again I7 n7
  |brk=>obtain⟨σ7,H7,I7,q7⟩:=q7;exact⟨σ7,H7,I7.unpinned,q7⟩
  |ret v=>obtain⟨x7,σ7,H7,I7,r7,q7⟩:=q7;exact⟨x7,σ7,H7,I7.unpinned,r7,q7⟩
end
theorem gM {K:W.Frag}{a:Addr}{xs:List V}{g:TG}{tb:TS}{D:Ends}{σ:St}{H:Hp}(Pv:Nat->St->Hp->Prop)(h0:Pv 0 σ H)(hl:∀i σ H,i<=xs.length->Pv i σ H->SqL K H a xs)
  (hs:∀i x σ H,xs[i]? =some x->Pv i σ H->g x σ H fun σ2 H2=>tb { D with nx:=Pv (i+1),ct:=Pv (i+1),bk:=D.nx } σ2 H2) (hd:∀σ H,Pv xs.length σ H->D.nx σ H) :
  ∃ W:Nat->Nat->St->Hp->Prop,(∃m,W 0 m σ H)/\∀i m σ H,W i m σ H->
   ((Itl K a).stop i H/\D.nx σ H)\/((Itl K a).go i H/\∃N:St->Hp->Prop,(∀σ' H',N σ' H'->∃m',m'<m/\W (i+1) m' σ' H')/\∀x H',(Itl K a).yld i H x H'->g x σ H' fun σ2 H2=>tb { D with nx:=N,ct:=N,bk:=D.nx } σ2 H2):=by
 refine⟨fun i m σ H=>m=xs.length-i/\i<=xs.length/\Pv i σ H,⟨xs.length,by simp,Xu _,h0⟩,?_⟩
 rintro i m σ H ⟨rfl,hi,p⟩
 have q:=hl i σ H hi p
 by_cases hlt:i<xs.length
 ·refine .inr ⟨⟨xs,xs[i],q,by simp[hlt]⟩,Pv (i+1),fun σ' H' p'=>⟨xs.length-(i+1),by omega,rfl,hlt,p'⟩,fun x H' y=>?_⟩
  obtain⟨e,y⟩:=y
  subst e
  exact hs i x σ _ (y xs q) p
 ·have e:i=xs.length:=by omega
  subst e
  exact .inl ⟨⟨xs,q,Yd _⟩,hd σ H p⟩
theorem jG {lo:Int}{n:Nat}{g:TG}{tb:TS}{D:Ends}{σ:St}{H:Hp}(Pv:Nat->St->Hp->Prop)(h0:Pv 0 σ H)
  (hs:∀i σ H,i<n->Pv i σ H->g (.int (lo+i)) σ H fun σ2 H2=>tb { D with nx:=Pv (i+1),ct:=Pv (i+1),bk:=D.nx } σ2 H2) (hd:∀σ H,Pv n σ H->D.nx σ H) :
  ∃ W:Nat->Nat->St->Hp->Prop,(∃m,W 0 m σ H)/\∀i m σ H,W i m σ H->
   ((Itr lo n).stop i H/\D.nx σ H)\/((Itr lo n).go i H/\∃N:St->Hp->Prop,(∀σ' H',N σ' H'->∃m',m'<m/\W (i+1) m' σ' H')/\∀x H',(Itr lo n).yld i H x H'->g x σ H' fun σ2 H2=>tb { D with nx:=N,ct:=N,bk:=D.nx } σ2 H2):=by
 refine⟨fun i m σ H=>m=n-i/\i<=n/\Pv i σ H,⟨n,by simp,Xu _,h0⟩,?_⟩
 rintro i m σ H ⟨rfl,hi,p⟩
 by_cases hlt:i<n
 ·refine .inr ⟨hlt,Pv (i+1),fun σ' H' p'=>⟨n-(i+1),by omega,rfl,hlt,p'⟩,fun x H' y=>?_⟩
  obtain⟨e,y⟩:=y
  subst e y
  exact hs i σ _ hlt p
 ·have e:i=n:=by omega
  subst e
  exact .inl ⟨Yd _,hd σ H p⟩
abbrev R2:=V->V->Hp->VK->Prop
variable {r:R2}
def OpR (X:Cx)(f:Value->Value->Sem Value)(r:R2):Prop:=
 ∀ (pins:List (Addr×Obj))(s:Shared)(σ:St)(H:Hp)(x y:V)(v u:Value)(Q:VK),Inv X pins σ H s->RelV x v->RelV y u->r x y H Q->
  wpAny (model X.prog X.w) X.A (f v u) (EP X pins σ Q) X.xe s
def UnR (X:Cx)(f:Value->Sem Value)(r:V->Hp->VK->Prop):Prop:=
 ∀ (pins:List (Addr×Obj))(s:Shared)(σ:St)(H:Hp)(x:V)(v:Value)(Q:VK),Inv X pins σ H s->RelV x v->r x H Q->
  wpAny (model X.prog X.w) X.A (f v) (EP X pins σ Q) X.xe s
def fH (X:Cx)(f:Value)(r:List V->Hp->VK->Prop):Prop:=
 ∀ (pins:List (Addr×Obj))(s:Shared)(σ:St)(H:Hp)(xs:List V)(us:List Value)(Q:VK),Inv X pins σ H s->Vals xs us->r xs H Q->
  wpAny (model X.prog X.w) X.A (call f us) (EP X pins σ Q) X.xe s
def tOp (r:R2)(ta tb:TE):TE:=fun σ H Q=>ta σ H fun x H1=>tb σ H1 fun y H2=>r x y H2 Q
def tUn (r:V->Hp->VK->Prop)(ta:TE):TE:=fun σ H Q=>ta σ H fun x H1=>r x H1 Q
def rI (C:Int->Int->Prop)(g:Int->Int->V):R2:=fun x y H Q=>∃i j,x= .int i/\y= .int j/\C i j/\Q (g i j) H
def rI0 (g:Int->Int->V):R2:=fun x y H Q=>∃i j,x= .int i/\y= .int j/\Q (g i j) H
def rU (g:Int->V):V->Hp->VK->Prop:=fun x H Q=>∃i,x= .int i/\Q (g i) H
section
variable {a b:Expr}{tc:TE}
theorem b8J (ha:PE X a ta)(hb:PE X b tb){pins:List (Addr×Obj)}{s:Shared}{σ:St}{H:Hp}{R:V->V->Hp->Prop}(I:Inv X pins σ H s)
  (h:ta σ H fun x H1=>tb σ H1 fun y H2=>R x y H2) {Q:Value->Shared->Prop} {f:Value->Value->Sem Value}
  (hf:∀v u s2 x y H2,Inv X pins σ H2 s2->RelV x v->RelV y u->R x y H2->wpAny (model X.prog X.w) X.A (f v u) Q X.xe s2) :
  wpAny (model X.prog X.w) X.A (eval a X.env) (fun v s₁=>wpAny (model X.prog X.w) X.A (eval b X.env) (fun u s₂=>wpAny (model X.prog X.w) X.A (f v u) Q X.xe s₂) X.xe s₁) X.xe s:=by
 refine thn (ha pins s σ H _ I h) fun v s1 hz9=>?_
 obtain⟨x,H1,I1,r1,q1⟩:=hz9
 refine thn (hb pins s1 σ H1 _ I1 q1) fun u s2 hz9=>?_
 obtain⟨y,H2,I2,r2,q2⟩:=hz9
 exact hf v u s2 x y H2 I2 r1 r2 q2
theorem aU {op:Operator}(ho:OpR X (binaryOp op) r)(ha:PE X a ta)(hb:PE X b tb):PE X (.BinOp a op b pos) (tOp r ta tb):=by
 intro pins s σ H Q I h
 exact wpAny_BinOp (b8J ha hb I h fun v u s2 x y H2 I2 rx ry q=>ho pins s2 σ H2 x y v u Q I2 rx ry q)
theorem a0R {op:UnaryOp}{r:V->Hp->VK->Prop}(ho:UnR X (unaryOp op) r)(ha:PE X a ta):PE X (.UnaryOp op a pos) (tUn r ta):=by
 intro pins s σ H Q I h
 exact UnaryOp_ (thn (ha pins s σ H _ I h) fun v s1 ⟨x,H1,I1,r1,q1⟩=>ho pins s1 σ H1 x v Q I1 r1 q1)
theorem opI {f:Value->Value->Sem Value}{C:Int->Int->Prop}{g:Int->Int->Int}
  (rule:∀(i j:Int)(t u:Tok)(s:Shared)(Q:Value->Shared->Prop)(E:Value->Shared->Prop),C i j->Q (.int (g i j) s.toks) { s with toks:=s.toks+1 }->wpAny (model X.prog X.w) X.A (f (.int i t) (.int j u)) Q E s) :
  OpR X f (rI C fun i j=> .int (g i j)):=by
 intro pins s σ H x y v u Q I rx ry h
 obtain⟨i,j,rfl,rfl,hc,q⟩:=h
 obtain⟨t,rfl⟩:=rx
 obtain⟨t',rfl⟩:=ry
 exact rule i j t t' s _ _ hc ⟨.int (g i j),H,I.tok _,⟨_,rfl⟩,q⟩
theorem b1V {f:Value->Value->Sem Value}{g:Int->Int->Int}
  (rule:∀(i j:Int)(t u:Tok)(s:Shared)(Q:Value->Shared->Prop)(E:Value->Shared->Prop),Q (.int (g i j) s.toks) { s with toks:=s.toks+1 }->wpAny (model X.prog X.w) X.A (f (.int i t) (.int j u)) Q E s) :
  OpR X f (rI0 fun i j=> .int (g i j)):=by
 intro pins s σ H x y v u Q I rx ry h
 obtain⟨i,j,rfl,rfl,q⟩:=h
 obtain⟨t,rfl⟩:=rx
 obtain⟨t',rfl⟩:=ry
 exact rule i j t t' s _ _ ⟨.int (g i j),H,I.tok _,⟨_,rfl⟩,q⟩
theorem b1W {f:Value->Value->Sem Value}{g:Int->Int->Bool}
  (rule:∀(i j:Int)(t u:Tok)(s:Shared)(Q:Value->Shared->Prop)(E:Value->Shared->Prop),Q (.bool (g i j)) s->wpAny (model X.prog X.w) X.A (f (.int i t) (.int j u)) Q E s) :
  OpR X f (rI0 fun i j=> .bl (g i j)):=by
 intro pins s σ H x y v u Q I rx ry h
 obtain⟨i,j,rfl,rfl,q⟩:=h
 obtain⟨t,rfl⟩:=rx
 obtain⟨t',rfl⟩:=ry
 exact rule i j t t' s _ _ ⟨.bl (g i j),H,I,rfl,q⟩
def c1T (i j:Int):Prop:=0<j/\j<1073741824
theorem xX (k:Nat):(0:Int)<=2 ^ k:=by
 rw[two_pow_cast]
 exact Int.natCast_nonneg _
theorem b6Q:OpR X (binaryOp .Add) (rI0 fun i j=> .int (i+j)):=b1V fun _ _ _ _ _ _ _ q=>add_int q
theorem b6J:OpR X (binaryOp .Sub) (rI0 fun i j=> .int (i-j)):=b1V fun _ _ _ _ _ _ _ q=>sub_int q
theorem b1U:OpR X (binaryOp .FloorDiv) (rI c1T fun i j=> .int (i / j)):=opI fun i j _ _ _ _ _ hc q=>by
 have h1:(0:Int)<j:=hc.1
 have h2:j<1073741824:=hc.2
 exact floordiv_int (by omega) (by rw[Int.fdiv_eq_ediv_of_nonneg i (by omega)];exact q) (.inl (PyProof.noPylong_small (by omega)))
theorem b6M:OpR X (binaryOp .Mod) (rI (fun _ j=>0<j) fun i j=> .int (i % j)):=opI fun i j _ _ _ _ _ hc q=>by
 have h1:(0:Int)<j:=hc
 exact mod_int' (by omega) (by rw[Int.fmod_eq_emod_of_nonneg i (by omega)];exact q)
theorem b6K:OpR X (binaryOp .RShift) (rI (fun _ j=>0<=j) fun i j=> .int (i / 2 ^ j.toNat)):=opI fun i j _ _ _ _ _ hc q=>
 rshift_int hc (by rw[Int.fdiv_eq_ediv_of_nonneg i (xX _)];exact q)
theorem b6P:OpR X (binaryOp .BitAnd) (rI0 fun i j=> .int (Builtin.bitAnd i j)):=b1V fun _ _ _ _ _ _ _ q=>and_int q
theorem b6I:OpR X (binaryOp .BitXor) (rI0 fun i j=> .int (Builtin.bitXor i j)):=b1V fun _ _ _ _ _ _ _ q=>xor_int q
theorem unI {f:Value->Sem Value}{g:Int->Int}
  (rule:∀(i:Int)(t:Tok)(s:Shared)(Q:Value->Shared->Prop)(E:Value->Shared->Prop),Q (.int (g i) s.toks) { s with toks:=s.toks+1 }->wpAny (model X.prog X.w) X.A (f (.int i t)) Q E s) :
  UnR X f (rU fun i=> .int (g i)):=by
 intro pins s σ H x v Q I rx h
 obtain⟨i,rfl,q⟩:=h
 obtain⟨t,rfl⟩:=rx
 exact rule i t s _ _ ⟨.int (g i),H,I.tok _,⟨_,rfl⟩,q⟩
theorem b4X:UnR X (unaryOp .USub) (rU fun i=> .int (-i)):=unI fun _ _ _ _ _ q=>neg_int q
end
def b5V:V->V->Bool
 |.non,.non=>true | .non,.int _=>true | .int _,.non=>true | .non,.bl _=>true | .bl _,.non=>true | .non,.str _=>true | .str _,.non=>true
 |.int _,.int _=>true | .bl _,.bl _=>true | .str _,.str _=>true | .byt _,.byt _=>true
 |.int _,.str _=>true | .str _,.int _=>true | .bl _,.str _=>true | .str _,.bl _=>true
 |_,_=>false
def rEq:R2:=fun x y H Q=>b5V x y=true/\Q (.bl (decide (x=y))) H
def rNe:R2:=fun x y H Q=>b5V x y=true/\Q (.bl (!decide (x=y))) H
theorem a1T {i j:Int}:decide (V.int i=V.int j)=(i == j):=by
 rw[Xx]
 simp
theorem a9C {i j:Bool}:decide (V.bl i=V.bl j)=(i == j):=by
 rw[Xx]
 simp
theorem a1S {i j:Str}:decide (V.str i=V.str j)=(i == j):=by
 rw[Xx]
 simp
theorem a1U {i j:Array UInt8}:decide (V.byt i=V.byt j)=(i.toList == j.toList):=by
 rw[Xx]
 cases i
 cases j
 simp
section
variable {a b:Expr}{tc:TE}
theorem cD {Q:VK}{k k':Bool}(I:Inv X pins σ H s)(q:Q (.bl k) H)(e:k=k'):EP X pins σ Q (.bool k') s:=by
 subst e
 exact⟨.bl k,H,I,rfl,q⟩
theorem c0C:OpR X (compareOp .Eq) rEq:=by
 intro pins s σ H x y v u Q I rx ry h
 obtain⟨hs,q⟩:=h
 cases x with
 | non=>
  cases rx
  cases y with
  |non=>cases ry;exact PySem.EqNone.eq_none_none (cD I q (by simp))
  |bl j=>cases ry;exact PySem.EqNone.eq_none_bool (cD I q (by simp))
  |int j=>obtain⟨t',rfl⟩:=ry;exact PySem.EqNone.eq_none_int (cD I q (by simp))
  |str j=>obtain⟨t',rfl⟩:=ry;exact PySem.EqNone.eq_none_str (cD I q (by simp))
  |_=>exact absurd (show false=true from hs) Yq
 | bl i=>
  cases rx
  cases y with
  |non=>cases ry;exact PySem.EqNone.eq_bool_none (cD I q (by simp))
  |bl j=>cases ry;exact eq_bool (cD I q a9C)
  |str j=>obtain⟨t',rfl⟩:=ry;exact PySem.EqMixed.eq_bool_str (cD I q (by simp))
  |_=>exact absurd (show false=true from hs) Yq
 | int i=>
  obtain⟨t,rfl⟩:=rx
  cases y with
  |non=>cases ry;exact PySem.EqNone.eq_int_none (cD I q (by simp))
  |int j=>obtain⟨t',rfl⟩:=ry;exact eq_int (cD I q a1T)
  |str j=>obtain⟨t',rfl⟩:=ry;exact PySem.EqMixed.eq_int_str (cD I q (by simp))
  |_=>exact absurd (show false=true from hs) Yq
 | str i=>
  obtain⟨t,rfl⟩:=rx
  cases y with
  |non=>cases ry;exact PySem.EqNone.eq_str_none (cD I q (by simp))
  |bl j=>cases ry;exact PySem.EqMixed.eq_str_bool (cD I q (by simp))
  |int j=>obtain⟨t',rfl⟩:=ry;exact PySem.EqMixed.eq_str_int (cD I q (by simp))
  |str j=>obtain⟨t',rfl⟩:=ry;exact eq_str (cD I q a1S)
  |_=>exact absurd (show false=true from hs) Yq
 | byt i=>
  obtain⟨t,rfl⟩:=rx
  cases y with
  |byt j=>obtain⟨t',rfl⟩:=ry;exact W.eq_bytes (cD I q a1U)
  |_=>exact absurd (show false=true from hs) Yq
 |_=>cases y <;> exact absurd (show false=true from hs) Yq
theorem b9X:OpR X (compareOp .NotEq) rNe:=by
 intro pins s σ H x y v u Q I rx ry h
 obtain⟨hs,q⟩:=h
 cases x with
 | non=>
  cases rx
  cases y with
  |non=>cases ry;exact PySem.EqNone.ne_none_none (cD I q (by simp))
  |bl j=>cases ry;exact PySem.EqNone.ne_none_bool (cD I q (by simp))
  |int j=>obtain⟨t',rfl⟩:=ry;exact PySem.EqNone.ne_none_int (cD I q (by simp))
  |str j=>obtain⟨t',rfl⟩:=ry;exact PySem.EqNone.ne_none_str (cD I q (by simp))
  |_=>exact absurd (show false=true from hs) Yq
 | bl i=>
  cases rx
  cases y with
  |non=>cases ry;exact PySem.EqNone.ne_bool_none (cD I q (by simp))
  |bl j=>cases ry;exact ne_bool (cD I q (YT not a9C))
  |str j=>obtain⟨t',rfl⟩:=ry;exact PySem.EqMixed.ne_bool_str (cD I q (by simp))
  |_=>exact absurd (show false=true from hs) Yq
 | int i=>
  obtain⟨t,rfl⟩:=rx
  cases y with
  |non=>cases ry;exact PySem.EqNone.ne_int_none (cD I q (by simp))
  |int j=>obtain⟨t',rfl⟩:=ry;exact ne_int (cD I q (YT not a1T))
  |str j=>obtain⟨t',rfl⟩:=ry;exact PySem.EqMixed.ne_int_str (cD I q (by simp))
  |_=>exact absurd (show false=true from hs) Yq
 | str i=>
  obtain⟨t,rfl⟩:=rx
  cases y with
  |non=>cases ry;exact PySem.EqNone.ne_str_none (cD I q (by simp))
  |bl j=>cases ry;exact PySem.EqMixed.ne_str_bool (cD I q (by simp))
  |int j=>obtain⟨t',rfl⟩:=ry;exact PySem.EqMixed.ne_str_int (cD I q (by simp))
  |str j=>obtain⟨t',rfl⟩:=ry;exact ne_str (cD I q (YT not a1S))
  |_=>exact absurd (show false=true from hs) Yq
 | byt i=>
  obtain⟨t,rfl⟩:=rx
  cases y with
  |byt j=>obtain⟨t',rfl⟩:=ry;exact W.ne_bytes (cD I q (YT not a1U))
  |_=>exact absurd (show false=true from hs) Yq
 |_=>cases y <;> exact absurd (show false=true from hs) Yq
theorem b9Y:OpR X (compareOp .Lt) (rI0 fun i j=> .bl (decide (i<j))):=b1W fun _ _ _ _ _ _ _ q=>lt_int q
theorem b9Z:OpR X (compareOp .LtE) (rI0 fun i j=> .bl (decide (i<=j))):=b1W fun _ _ _ _ _ _ _ q=>le_int q
theorem c0A:OpR X (compareOp .Gt) (rI0 fun i j=> .bl (decide (j<i))):=b1W fun _ _ _ _ _ _ _ q=>gt_int q
theorem c0B:OpR X (compareOp .GtE) (rI0 fun i j=> .bl (decide (j<=i))):=b1W fun _ _ _ _ _ _ _ q=>ge_int q
theorem b6N:OpR X (compareOp .Is) (fun x y H Q=>y= .non/\Q (.bl (decide (x= .non))) H):=by
 intro pins s σ H x y v u Q I rx ry h
 obtain⟨rfl,q⟩:=h
 cases ry
 refine is_none_gen (cD I q ?_)
 cases x <;> first
  |(cases rx;rfl)
  |(obtain⟨t,rfl⟩:=rx;rfl)
theorem aR (b:Expr)(h:op≠ .In:=by decide)(h2:op≠ .NotIn:=by decide):behindInMarks op b=false:=by
 have e1:(op == CmpOp.In)=false:=by cases op <;> first | rfl | exact absurd rfl h
 have e2:(op == CmpOp.NotIn)=false:=by cases op <;> first | rfl | exact absurd rfl h2
 cases b <;> simp[behindInMarks,e1,e2]
theorem cL (ho:OpR X (compareOp op) r)(ha:PE X a ta)(hb:PE X b tb)(hm:behindInMarks op b=false):PE X (.Compare a [op] [b] pos) (tOp r ta tb):=by
 intro pins s σ H Q I h
 exact wpAny_Compare1 (b8J ha hb I h fun v u s2 x y H2 I2 rx ry q=>ho pins s2 σ H2 x y v u Q I2 rx ry q) hm
def a0J (t:TE):TT:=fun σ H Q=>t σ H fun x H'=>∃k,x= .bl k/\Q k H'
theorem b1F (ho:OpR X (compareOp op) r)(ha:PE X a ta)(hb:PE X b tb)(hm:behindInMarks op b=false):PT X (.Compare a [op] [b] pos) (a0J (tOp r ta tb)):=by
 intro pins s σ H Q I h
 refine wpAny_isTrue_Compare1 (thn (ha pins s σ H _ I h) fun v s1 ⟨x,H1,I1,r1,q1⟩=>thn (hb pins s1 σ H1 _ I1 q1) fun u s2 ⟨y,H2,I2,r2,q2⟩=>
  thn (ho pins s2 σ H2 x y v u _ I2 r1 r2 q2) fun c s3 ⟨z,H3,I3,r3,k,e,q3⟩=>?_) hm
 subst e
 cases r3
 exact Xc ⟨H3,I3,q3⟩
def tY (r r':R2)(ta tb tc:TE):TE:=fun σ H Q=>ta σ H fun x H1=>tb σ H1 fun y H2=>r x y H2 fun z H3=>∃k,z= .bl k/\
 (if k=true then tc σ H3 fun w' H4=>r' y w' H4 Q else Q (.bl false) H3)
theorem a7I {op op':CmpOp}{r r':R2}(ho:OpR X (compareOp op) r)(ho':OpR X (compareOp op') r')(ha:PE X a ta)(hb:PE X b tb)(hc:PE X c tc)
  (hm:lastMarks [op,op'] [b,c]=false:=by with_unfolding_all rfl):PE X (.Compare a [op,op'] [b,c] pos) (tY r r' ta tb tc):=by
 intro pins s σ H Q I h
 refine Compare_chain (thn (ha pins s σ H _ I h) fun v s1 ⟨x,H1,I1,r1,q1⟩=>chain_link (thn (hb pins s1 σ H1 _ I1 q1) fun u s2 ⟨y,H2,I2,r2,q2⟩=>
  thn (ho pins s2 σ H2 x y v u _ I2 r1 r2 q2) fun d s3 ⟨z,H3,I3,r3,k,e,q3⟩=>?_)) hm
 subst e
 cases r3
 refine Xc ?_
 cases k with
 |false=>exact ite_ff ⟨.bl false,H3,I3,rfl,q3⟩
 |true=>exact ite_tt (chain_last (thn (hc pins s3 σ H3 _ I3 q3) fun w' s4 ⟨z',H4,I4,r4,q4⟩=>ho' pins s4 σ H4 y z' u w' Q I4 r2 r4 q4))
theorem a6Z {op op':CmpOp}{r r':R2}(ho:OpR X (compareOp op) r)(ho':OpR X (compareOp op') r')(ha:PE X a ta)(hb:PE X b tb)(hc:PE X c tc)
  (hm:lastMarks [op,op'] [b,c]=false:=by with_unfolding_all rfl):PT X (.Compare a [op,op'] [b,c] pos) (a0J (tY r r' ta tb tc)):=by
 intro pins s σ H Q I h
 refine isTrue_chain (thn (ha pins s σ H _ I h) fun v s1 ⟨x,H1,I1,r1,q1⟩=>test_link (thn (hb pins s1 σ H1 _ I1 q1) fun u s2 ⟨y,H2,I2,r2,q2⟩=>
  thn (ho pins s2 σ H2 x y v u _ I2 r1 r2 q2) fun d s3 ⟨z,H3,I3,r3,k,e,q3⟩=>?_)) hm
 subst e
 cases r3
 refine Xc ?_
 cases k with
 | false=>
  obtain⟨k',e',q'⟩:=q3
  cases e'
  exact ite_ff ⟨H3,I3,q'⟩
 | true=>
  refine ite_tt (test_last (thn (hc pins s3 σ H3 _ I3 q3) fun w' s4 ⟨z',H4,I4,r4,q4⟩=>thn (ho' pins s4 σ H4 y z' u w' _ I4 r2 r4 q4) fun d' s5 ⟨z2,H5,I5,r5,k2,e2,q5⟩=>?_))
  subst e2
  cases r5
  exact Xc ⟨H5,I5,q5⟩
theorem uH:(sizeLine:Nat)<2 ^ 63:=by rw[sizeLine_eq];decide
theorem vals1 {x:V}(r:Vals [x] us):∃u,us= [u]/\RelV x u:=by
 cases r with
 |cons r1 r2=>cases r2;exact⟨_,rfl,r1⟩
theorem vals2 {x y:V}(r:Vals [x,y] us):∃u w',us= [u,w']/\RelV x u/\RelV y w':=by
 cases r with
 | cons r1 r2=>
  cases r2 with
  |cons r3 r4=>cases r4;exact⟨_,_,rfl,r1,r3⟩
theorem a4I (hc:X.calm=true):fH X (.builtin "max") (fun xs H Q=>∃i j,xs= [.int i,.int j]/\Q (.int (if j > i then j else i)) H):=by
 intro pins s σ H xs us Q I r h
 obtain⟨i,j,rfl,q⟩:=h
 obtain⟨u,w',rfl,⟨t,rfl⟩,⟨t',rfl⟩⟩:=vals2 r
 refine max_two_ints (I.ok.hd hc) fun h' tk k=>⟨_,H,I.kept k,?_,q⟩
 by_cases hj:j > i
 ·rw[if_pos hj,if_pos hj];exact⟨_,rfl⟩
 ·rw[if_neg hj,if_neg hj];exact⟨_,rfl⟩
theorem a4J:fH X (.type "int") (fun xs H Q=>(∃i,xs= [.int i]/\Q (.int i) H)\/∃k,xs= [.bl k]/\Q (.int (if k then 1 else 0)) H):=by
 intro pins s σ H xs us Q I r h
 rcases h with ⟨i,rfl,q⟩ | ⟨k,rfl,q⟩
 ·obtain⟨u,rfl,t,rfl⟩:=vals1 r
  exact call_int_int ⟨.int i,H,I,⟨_,rfl⟩,q⟩
 ·obtain⟨u,rfl,r1⟩:=vals1 r
  cases r1
  exact call_int_bool ⟨.int (if k then 1 else 0),H,I.tok _,⟨_,rfl⟩,q⟩
end
structure zZ (h:Heap)(x dx C:Addr)(mA:Str->Option Value):Prop where
 obj:h.get? x=some (W.instObj C dx)
 ns:h.Ns1 dx mA
 ne:dx≠x
theorem a3Q (n:h.Ns1 dx mA):∃od,h.get? dx=some od/\∀name,W.lookIn name od=some (mA name):=by
 obtain⟨o,es,ep,ho,hd,hk,_,hm⟩:=n
 refine⟨o,ho,fun name=>?_⟩
 have e:=hm name
 unfold nsFind findBy at e
 rw[<-Array.find?_toList]at e
 unfold W.lookIn
 rw[hd]
 dsimp only
 split
 ·rename_i y q
  rw[q]at e
  exact YT some e
 ·rename_i q
  rw[q]at e
  have a:es.toList.any (·.refKey)=false:=by
   rw[List.any_eq_false]
   intro y hy
   obtain⟨z,t,hkey⟩:=hk y (Array.mem_toList_iff.mp hy)
   simp[DictEntry.refKey,hkey]
  have a':¬ es.toList.any (·.refKey)=true:=by rw[a];exact Yq
  rw[if_neg a']
  exact YT some e
theorem zZ.look {x:Addr}(I:zZ h x dx C mA):∃od,W.InstAt h x (W.instObj C dx) C (some od)/\∀name,W.lookIn name od=some (mA name):=
 let ⟨od,ho,hl⟩:=a3Q I.ns
 ⟨od,⟨I.obj,rfl,rfl,ho⟩,hl⟩
section
variable {prog:Program}{x:Addr}{name:Str}
theorem b2I {expr:Bool}{Q:Value->Shared->Prop}(X:K.In s.heap)(I:zZ s.heap x dx C mA)(hg:W.plainGet K C name=true)(hh:W.hasDictIn K C=true)
  (ha:W.findIn K (.ref C) name=some none) (hv:mA name=some v) (hv':W.handedIn v=true) (h:Q v { s with toks:=s.toks+1 }) :
  wpAny (model prog w) A (getAttr (.ref x) name expr) Q E s:=by
 obtain⟨od,J,hl⟩:=I.look
 exact W.get_value X J (W.plainGet_of hg).1 (W.findObj_own hh ha rfl (by rw[hl,hv])) hv' h
theorem a8R {pl:Sem Bool}{Q:Value×List Value->Shared->Prop}(X:K.In s.heap)(I:zZ s.heap x dx C mA)(hg:W.plainGet K C name=true)
  (hf:W.findIn K (.ref C) name=some (some (.ref f))) (ht:W.isFn K (.ref f)=true) (hv:mA name=none) (h:Q (.ref f, [.ref x]) s) :
  wpAny (model prog w) A (getMethod (.ref x) name pl) Q E s:=by
 obtain⟨od,J,hl⟩:=I.look
 exact W.method_fn X J (W.plainGet_of hg).1 (W.plainGet_of hg).2 hf (XH.mp ht) (by show (W.lookIn name od).map (·.isSome)=some false;rw[hl,hv];rfl) h
theorem b0Z {ns:List Str}{Q:Unit->Shared->Prop}(X:K.In s.heap)(I:zZ s.heap x dx C mA)
  (hs:W.findIn K (.ref C) "__setattr__"=some (some (.builtin "object.__setattr__"))) (hp:W.plainOver K C=true) (ht:W.takerIn K C name=some none) (hh:W.hasDictIn K C=true)
  (hw:PySem.Within mA ns) (hsz:ns.length<=sizeLine)
  (h:∀h',zZ h' x dx C (fun y=>if y=name then some v else mA y)->Heap.SameBut dx s.heap h'->Q () { s with heap:=h',toks:=s.toks+2 }) :
  wpAny (model prog w) A (setAttr (.ref x) name v) Q E s:=by
 obtain⟨od,J,hl⟩:=I.look
 refine W.set_plain X J hs (W.osa_open (s:={ s with toks:=s.toks+1 }) (r:=none) X J hp ht fun b=>?_)
 obtain⟨cd,hc,hd'⟩:=W.any_some hh
 have hx:s.heap.get? x=some ⟨.ref C,some dx,.plain, #[]⟩:=I.obj
 refine Y4 (Xj (Y4 (Y4 (wpAny_loadPart hx (Y4 (W.Looks.here (s:={ s with toks:=s.toks+1 }) (W.looks_clsIn X hc) ?_))))))
 rw[hd']
 refine Xj (a:=some dx) (Y4 (Xj (Y4 ?_)))
 refine wpAny_nsSet1 (s:={ s with toks:=s.toks+1 }) I.ns fun h' hn2 hs2=>?_
 obtain⟨oD,esD,epD,hoD,hdD,hcD⟩:=hn2.count (PySem.Within.cons name v hw)
 refine Y4 (wpAny_lookBehind hoD (by rw[hdD];exact pastItsLine_dict (Y9 hcD (by rw[Yz];omega))) ?_)
 exact Xj (h _ ⟨(hs2.2 _ (Ne.symm I.ne)).trans I.obj,hn2,I.ne⟩ hs2)
theorem a8B {R:Result->Shared->Prop}{vs:List Value}{kw:List (Str×Value)}(X:K.In s.heap)(hm:W.makesIn K C=true)
  (hi:W.findIn K (.ref C) "__init__"=some (some (.ref f))) (hf:W.typeIn K (.ref f)=some (.type "function"))
  (h :codeAny (model prog w) (A.under (.builtin "type.__call__" ⟨.ref C::vs,kw⟩)) (.call (.ref f) ⟨.ref (s.heap.objs.size+1)::vs,kw⟩) (W.InitBack (s.heap.objs.size+1) R)
   { s with heap:=(s.heap.push W.emptyDict).push (W.instObj C s.heap.objs.size) }) :
  codeAny (model prog w) A (.call (.ref C) ⟨vs,kw⟩) R s:=by
 obtain⟨hh,g,d,t,os⟩:=s
 exact W.make_core (W.makes_of X hm) (W.looks_findIn X hi) (fun self=>W.bind_fn X self hf) (.inl rfl) h
theorem a3M {R:Result->Shared->Prop}(X:K.In s.heap)(hm:W.makesIn K C=true)
  (hi:W.findIn K (.ref C) "__init__"=some (some (.builtin "object.__init__")))
  (hb:∀self,W.Looks (model prog w) s.heap (bindSpecial (.builtin "object.__init__") self) (.builtin "object.__init__", [self]))
  (h :codeAny (model prog w) (A.under (.builtin "type.__call__" ⟨[.ref C], []⟩)) (.call (.builtin "object.__init__") ⟨[.ref (s.heap.objs.size+1)], []⟩) (W.InitBack (s.heap.objs.size+1) R)
   { s with heap:=(s.heap.push W.emptyDict).push (W.instObj C s.heap.objs.size) }) :
  codeAny (model prog w) A (.call (.ref C) ⟨[], []⟩) R s:=by
 obtain⟨hh,g,d,t,os⟩:=s
 exact W.make_core (W.makes_of X hm) (W.looks_findIn X hi) hb (.inr ⟨rfl,rfl⟩) h
end
def dZ (f:Str)(v:V):List (Str×V)->List (Str×V)
 |[]=>[(f,v)]
 |(g,x)::r=>if g=f then (g,v)::r else (g,x)::dZ f v r
theorem oR (f g:Str)(v:V):∀fs:List (Str×V),(dZ f v fs).lookup g=if g=f then some v else fs.lookup g
 | [] =>by
  show List.lookup g [(f,v)]=_
  by_cases h:g=f
  ·have hb:(g == f)=true:=XH.mpr h
   simp only[List.lookup,hb,if_pos h]
  ·have hb:(g == f)=false:=Xs.mpr h
   simp only[List.lookup,hb,if_neg h]
 | (k, x)::r=>by
  have ih:=oR f g v r
  rw[show dZ f v ((k,x)::r)=(if k=f then (k,v)::r else (k,x)::dZ f v r) from rfl]
  by_cases hk:k=f
  ·rw [if_pos hk]
   by_cases h:g=k
   ·have hb:(g == k)=true:=XH.mpr h
    simp only[List.lookup,hb,if_pos (h.trans hk)]
   ·have hb:(g == k)=false:=Xs.mpr h
    simp only[List.lookup,hb,if_neg (fun e:g=f=>h (e.trans hk.symm))]
  ·rw [if_neg hk]
   by_cases h:g=k
   ·have hb:(g == k)=true:=XH.mpr h
    simp only[List.lookup,hb,if_neg (fun e:g=f=>hk (h.symm.trans e))]
   ·have hb:(g == k)=false:=Xs.mpr h
    simp only[List.lookup,hb]
    exact ih
theorem oG (f:Str)(v:V):∀fs:List (Str×V),f∈(dZ f v fs).map (·.1)/\∀g,g∈fs.map (·.1)->g∈(dZ f v fs).map (·.1)
 |[]=>⟨by simp[dZ],fun g h=>by simp at h⟩
 | (k, x)::r=>by
  obtain⟨i1,i2⟩:=oG f v r
  rw[show dZ f v ((k,x)::r)=(if k=f then (k,v)::r else (k,x)::dZ f v r) from rfl]
  by_cases hk:k=f
  ·rw[if_pos hk]
   subst hk
   exact⟨by simp,fun g h=>by simpa using h⟩
  ·rw [if_neg hk]
   refine⟨?_,fun g h=>?_⟩
   ·rw[YM]
    exact Yw _ i1
   ·rw[YM]at h ⊢
    rcases YG.mp h with e | e
    ·exact YG.mpr (.inl e)
    ·exact Yw _ (i2 g e)
theorem oW (f:Str)(v:V):∀fs:List (Str×V),(dZ f v fs).length<=fs.length+1
 |[]=>by simp[dZ]
 | (k,x)::r=>by
  have ih:=oW f v r
  rw[show dZ f v ((k,x)::r)=(if k=f then (k,v)::r else (k,x)::dZ f v r) from rfl]
  by_cases hk:k=f
  ·rw[if_pos hk,Yz,Yz];omega
  ·rw[if_neg hk,Yz,Yz];omega
theorem lU.some_of {v:V}{o:Option Value}(r:lU (some v) o):∃u,o=some u/\RelV v u:=by
 cases o with
 |none=>exact(show False from r).elim
 |some u=>exact⟨u,rfl,r⟩
theorem lU.none_of {o:Option Value}(r:lU none o):o=none:=by
 cases o with
 |none=>rfl
 |some u=>exact(show False from r).elim
theorem a4B {v:V}(r:RelV v u):W.handedIn u=true:=by
 cases v with
 |non=>cases (show u=Value.none from r);rfl
 |bl b=>cases (show u=Value.bool b from r);rfl
 |int i=>obtain⟨t,e⟩:=(show ∃t,u=Value.int i t from r);cases e;rfl
 |str x=>obtain⟨t,e⟩:=(show ∃t,u=Value.str x t from r);cases e;rfl
 |byt b=>obtain⟨t,e⟩:=(show ∃t,u=Value.bytes b t from r);cases e;rfl
 |flt b=>obtain⟨t,e⟩:=(show ∃t,u=Value.float b t from r);cases e;rfl
 |ref a=>cases (show u=Value.ref a from r);rfl
 |ty n=>cases (show u=Value.type n from r);rfl
section
variable {fs fs':List (Str×V)}
theorem pM (hok:HOk P w H h)(e:H a=some (.ins C dx fs)):∃mA,zZ h a dx C mA/\(∀f,lU (fs.lookup f) (mA f))/\PySem.Within mA (fs.map (·.1))/\fs.length<=1000/\H dx=some (.own a):=by
 obtain⟨d,z,ne,ob,mA,n,r,q⟩:=(show dU P w H h a (.ins C dx fs) from hok a _ e)
 exact⟨mA,⟨ob,n,ne⟩,r,q,z,d⟩
end
structure Cls (K:W.Frag)(C:Addr):Prop where
 pg:W.plainGet K C Str.empty=true
 hd:W.hasDictIn K C=true
 po:W.plainOver K C=true
 sa:W.findIn K (.ref C) "__setattr__"=some (some (.builtin "object.__setattr__"))
theorem Cls.get (c:Cls K C)(f:Str):W.plainGet K C f=true:=c.pg
def bH (K:W.Frag)(C:Addr)(f:Str):Prop:=W.findIn K (.ref C) f=some none
theorem bH.taker {f:Str}(n:bH K C f):W.takerIn K C f=some none:=by
 unfold W.takerIn
 rw[show W.findIn K (.ref C) f=some none from n]
 rfl
structure Meth (K:W.Frag)(C:Addr)(m:Str)(f:Addr):Prop where
 at_:W.findIn K (.ref C) m=some (some (.ref f))
 fn:W.isFn K (.ref f)=true
 kp:W.keepIn K (.ref f)=true
section
variable {fs:List (Str×V)}{f:Str}{v:V}
theorem zH {b:Bool}{Q:Value->Shared->Prop}(I:Inv X pins σ H s)(e:H a=some (.ins C dx fs))(c:Cls X.K C)(n:bH X.K C f)(l:fs.lookup f=some v)
  (h:∀u s',Inv X pins σ H s'->RelV v u->Q u s'):wpAny (model X.prog X.w) A (getAttr (.ref a) f b) Q E s:=by
 obtain⟨mA,O,r,_,_,_⟩:=pM I.hok e
 obtain⟨u,hu,ru⟩:=lU.some_of (v:=v) (o:=mA f) (by rw[<-l];exact r f)
 exact b2I I.kIn O (c.get f) c.hd n hu (a4B ru) (h u _ (I.tok _) ru)
theorem fM {m:Str}{g:Addr}{pl:Sem Bool}{Q:Value×List Value->Shared->Prop}(I:Inv X pins σ H s)(e:H a=some (.ins C dx fs))(c:Cls X.K C)(k:Meth X.K C m g)(l:fs.lookup m=none)
  (h:Q (.ref g, [.ref a]) s):wpAny (model X.prog X.w) A (getMethod (.ref a) m pl) Q E s:=by
 obtain⟨mA,O,r,_,_,_⟩:=pM I.hok e
 have hn:mA m=none:=lU.none_of (by rw[<-l];exact r m)
 exact a8R I.kIn O (c.get m) k.at_ k.fn hn h
theorem yN {y:V}{u:Value}{Q:Unit->Shared->Prop}(I:Inv X pins σ H s)(e:H a=some (.ins C dx fs))(c:Cls X.K C)(n:bH X.K C f)(hl:fs.length<1000)(ry:RelV y u)
  (h:∀s',Inv X pins σ (upd H a (.ins C dx (dZ f y fs))) s'->Q () s'):wpAny (model X.prog X.w) A (setAttr (.ref a) f u) Q E s:=by
 obtain⟨mA,O,r,wi,_,ho⟩:=pM I.hok e
 have hz:(fs.map (·.1)).length<=sizeLine:=by rw[Ya,sizeLine_eq];omega
 refine b0Z I.kIn O c.sa c.po n.taker c.hd wi hz fun h' O' sb=>h _ ?_
 have hd:∃o,h'.get? dx=some o:=let ⟨o,_,_,e',_⟩:=O'.ns;⟨o,e'⟩
 refine I.write (x:=a) (e:=dx) (by rw[e];exact True.intro) (.inr ho) (fun b q hb z=>(sb.2 b hb).trans z) hd ?_
 refine⟨by rw[aH O.ne];exact ho,?_,O.ne,O'.obj,_,O'.ns,fun g=>?_,fun g hg=>?_⟩
 ·have:=oW f y fs;omega
 ·show lU ((dZ f y fs).lookup g) (if g=f then some u else mA g)
  rw[oR]
  by_cases q:g=f
  ·rw[if_pos q,if_pos q];exact ry
  ·rw[if_neg q,if_neg q];exact r g
 ·by_cases q:g=f
  ·rw[q];exact(oG f y fs).1
  ·refine(oG f y fs).2 g (wi g fun z=>hg ?_)
   show (if g=f then some u else mA g)=none
   rw[if_neg q];exact z
theorem Inv.made (I:Inv X pins σ H s):Inv X pins σ (upd (upd H s.heap.objs.size (.own (s.heap.objs.size+1))) (s.heap.objs.size+1) (.ins C s.heap.objs.size []))
  { s with heap:=(s.heap.push W.emptyDict).push (W.instObj C s.heap.objs.size) }:=by
 have e1:(s.heap.push W.emptyDict).get? s.heap.objs.size=some W.emptyDict:=YL s.heap rfl
 have e2:((s.heap.push W.emptyDict).push (W.instObj C s.heap.objs.size)).get? (s.heap.objs.size+1)=some (W.instObj C s.heap.objs.size):=by
  have:=YL (s.heap.push W.emptyDict) (o:=W.instObj C s.heap.objs.size) rfl
  rwa [Heap.size_push]at this
 have e3:(s.heap.push W.emptyDict).Ns s.heap.objs.size (fun _=>none):=⟨W.emptyDict, #[],_,e1,rfl,(fun e he=>absurd he (by simp)),fun _=>rfl⟩
 have I1:=I.laid (a:=s.heap.objs.size) (o:= .own (s.heap.objs.size+1)) (h':=s.heap.push W.emptyDict) (t':=s.toks) (fun b u q=>Yp _ q) (Yd _) ⟨_,e1⟩
 refine I1.laid (a:=s.heap.objs.size+1) (o:= .ins C s.heap.objs.size []) (t':=s.toks) (fun b u q=>Yp _ q) (Nat.le_of_eq (Heap.size_push _ _)) ?_
 have ne:s.heap.objs.size≠s.heap.objs.size+1:=YO (YW _)
 refine⟨by rw[aH ne,aB],Xu _,ne,e2,fun _=>none,(Heap.Ns1.of_empty e3).at fun o q=>Yp _ q,fun _=>True.intro,fun y hy=>absurd rfl hy⟩
theorem b2W {prog:Program}{w:World}{env:Env}{e:Expr}{f:Str}{pos:Pos}{s:Shared}{Q:Value->Shared->Prop}(hb:attributeBase e f env (eval e env)=eval e env)
  (h:wpAny (model prog w) A (eval e env) (fun o s₁=>wpAny (model prog w) A (getAttr o f true) Q E s₁) E s):wpAny (model prog w) A (eval (.Attribute e f pos) env) Q E s:=
 Attribute_any_ h (by rw[arm_eval_Attribute,hb])
end
def c2G (K:W.Frag)(ta:TE)(f:Str):TE:=fun σ H Q=>ta σ H fun x H1=>∃a C dx fs v,x= .ref a/\H1 a=some (.ins C dx fs)/\Cls K C/\bH K C f/\fs.lookup f=some v/\Q v H1
def c2L (K:W.Frag)(ta tv:TE)(f:Str):TS:=fun D σ H=>tv σ H fun y H1=>ta σ H1 fun x H2=>∃a C dx fs,x= .ref a/\H2 a=some (.ins C dx fs)/\Cls K C/\bH K C f/\fs.length<1000/\
 D.nx σ (upd H2 a (.ins C dx (dZ f y fs)))
section
variable {o value:Expr}{f:Str}{pos' tpos:Pos}{tv:TE}
theorem a7F (he:PE X e ta)(hb:attributeBase e f X.env (eval e X.env)=eval e X.env):PE X (.Attribute e f pos) (c2G X.K ta f):=by
 intro pins s σ H Q I h
 refine b2W hb (thn (he pins s σ H _ I h) fun u s1 hz9=>?_)
 obtain⟨x,H1,I1,rx,a,C,dx,fs,v,ex,ea,c,n,l,q⟩:=hz9
 subst ex
 obtain rfl:u=Value.ref a:=rx
 exact zH I1 ea c n l fun u' s2 I2 ru=>⟨v,H1,I2,ru,q⟩
theorem a7A (ha:PE X o ta)(hv:PE X value tv)(hs:swapsWith value (some (.Attribute o f pos')) pos.line X.env=pure false):PS X (.Assign [.Attribute o f pos'] value pos) (c2L X.K ta tv f):=by
 intro pins s σ H D I h
 refine plainObj_wpAny_Assign_Attribute (thn (hv pins s σ H _ I h) fun u s1 ⟨y,H1,I1,ry,q⟩=>thn (ha pins s1 σ H1 _ I1 q) fun ov s2 ⟨x,H2,I2,rx,a,C,dx,fs,ex,ea,c,n,l,q2⟩=>?_) hs
 subst ex
 obtain rfl:ov=Value.ref a:=rx
 exact yN I2 ea c n l ry fun s3 I3=>⟨σ,_,I3,q2⟩
theorem b4B {pl:Sem Bool}{m:Str}{apos:Pos}{args:List Expr}{pins:List (Addr×Obj)}{s:Shared}{σ:St}{H:Hp}{Q:Value->Shared->Prop}{te:TE}(he:PE X e te)(I:Inv X pins σ H s)
  (h :te σ H fun x H1=>∃a C dx fs g,x= .ref a/\H1 a=some (.ins C dx fs)/\Cls X.K C/\Meth X.K C m g/\fs.lookup m=none/\
   ∀s1,Inv X pins σ H1 s1->wpAny (model X.prog X.w) X.A (callWith pos (.ref g) [.ref a] (backTo pos (starEach args X.env)) (backToKw pos (keywordEach [] X.env))) Q X.xe s1)
  (ht:eval (.Call (.Attribute e m apos) args [] pos) X.env=(do
   let ov<-eval e X.env
   standAt apos.atName
   let (f,first)<-holding [ov] (getMethod ov m pl)
   callWith pos f first (backTo pos (starEach args X.env)) (backToKw pos (keywordEach [] X.env)))) :
  wpAny (model X.prog X.w) X.A (eval (.Call (.Attribute e m apos) args [] pos) X.env) Q X.xe s:=by
 refine XE (pl:=pl) (thn (he pins s σ H _ I h) fun u s1 hz9=>?_) ht
 obtain⟨x,H1,I1,rx,a,C,dx,fs,g,ex,ea,c,k,l,q⟩:=hz9
 subst ex
 obtain rfl:u=Value.ref a:=rx
 exact fM I1 ea c k l (q s1 I1)
end
section
variable {Q:Value->Shared->Prop}{c:Value}{b:Bool}
inductive nO (K:W.Frag)(H:Hp):V->Value->Prop where
  |non:nO K H .non (.type "NoneType")
  |bl (x:Bool):nO K H (.bl x) (.type "bool")
  |int (i:Int):nO K H (.int i) (.type "int")
  |str (x:Str):nO K H (.str x) (.type "str")
  |flt (x:UInt64):nO K H (.flt x) (.type "float")
  |lst {a:Addr} {xs:List V} (e:H a=some (.lst xs)):nO K H (.ref a) (.type "list")
  |frz {a:Addr} {o:Obj} {xs:List V} (e:H a=some (.frz o (.lst xs))):nO K H (.ref a) (.type "list")
  |tup {a:Addr} {xs:List V} (e:H a=some (.tup xs)):nO K H (.ref a) (.type "tuple")
  |dK {a:Addr} {kvs:List (Key×V)} (e:H a=some (.dK kvs)):nO K H (.ref a) (.type "dict")
  |dT {a:Addr} {kvs:List (List Key×V)} (e:H a=some (.dT kvs)):nO K H (.ref a) (.type "dict")
  | ins {a C dx:Addr} {fs:List (Str×V)} (e:H a=some (.ins C dx fs)) (cl:Cls K C) (ha:W.findIn K (.ref C) "__class__"=some (some (.builtin "object.__class__")))
      (hn:W.specialIn K (.builtin "object.__class__") "__get__"=some (some (.builtin "getset_descriptor.__get__"))) (htk:W.takesIn K (.builtin "object.__class__")=some true)
      (hm:W.mroIn K C (.type "object")=some true):nO K H (.ref a) (.ref C)
theorem a3W {x:V}{t:Value}(I:Inv X pins σ H s)(rx:RelV x u)(ty:nO X.K H x t)(e:W.kitOne X.K t c=some b)(h:∀tk,Q (.bool b) { s with toks:=tk }):
  wpAny (model X.prog X.w) A (call (.builtin "isinstance") [u,c]) Q E s:=by
 cases ty with
 |non=>cases (show u=Value.none from rx);exact XZ W.kitx_none I.kIn True.intro e (fun z=>nomatch z) h
 |bl y=>cases (show u=Value.bool y from rx);exact XZ W.kitx_bool I.kIn True.intro e (fun z=>nomatch z) h
 |int i=>obtain⟨t,q⟩:=(show ∃t,u=Value.int i t from rx);cases q;exact XZ W.kitx_int I.kIn True.intro e (fun z=>nomatch z) h
 |str y=>obtain⟨t,q⟩:=(show ∃t,u=Value.str y t from rx);cases q;exact XZ W.kitx_str I.kIn True.intro e (fun z=>nomatch z) h
 |flt y=>obtain⟨t,q⟩:=(show ∃t,u=Value.float y t from rx);cases q;exact XZ W.kitx_float I.kIn True.intro e (fun z=>nomatch z) h
 | @lst a xs ea=>
  cases (show u=Value.ref a from rx)
  obtain⟨_,_,n,_,h1⟩:=(show dU X.prog X.w H s.heap a (.lst xs) from I.hok a _ ea)
  exact XZ W.kitx_list I.kIn ⟨_,h1,rfl⟩ e (fun z=>nomatch z) h
 | @frz a ob xs ea=>
  cases (show u=Value.ref a from rx)
  obtain⟨_,_,_,n,_,h1⟩:=(show dU X.prog X.w H s.heap a (.frz ob (.lst xs)) from I.hok a _ ea)
  exact XZ W.kitx_list I.kIn ⟨_,h1,rfl⟩ e (fun z=>nomatch z) h
 | @tup a xs ea=>
  cases (show u=Value.ref a from rx)
  obtain⟨_,_,_,p⟩:=(show dU X.prog X.w H s.heap a (.tup xs) from I.hok a _ ea)
  obtain⟨o,h1,h2,_⟩:=p
  exact XZ W.kitx_tuple I.kIn ⟨o,h1,h2⟩ e (fun z=>nomatch z) h
 | @dK a kvs ea=>
  cases (show u=Value.ref a from rx)
  obtain⟨_,_,vs,_,p⟩:=(show dU X.prog X.w H s.heap a (.dK kvs) from I.hok a _ ea)
  obtain⟨o,es,ep,h1,h2,_⟩:=p
  exact XZ W.kitx_dict I.kIn ⟨o,h1,h2.1⟩ e (fun z=>nomatch z) h
 | @dT a kvs ea=>
  cases (show u=Value.ref a from rx)
  obtain⟨_,_,xs,_,o,es,ep,h1,h2,_⟩:=(show dU X.prog X.w H s.heap a (.dT kvs) from I.hok a _ ea)
  exact XZ W.kitx_dict I.kIn ⟨o,h1,h2.1⟩ e (fun z=>nomatch z) h
 | @ins a C dx fs ea cl ha hn htk hm=>
  cases (show u=Value.ref a from rx)
  obtain⟨mA,O,_⟩:=pM I.hok ea
  obtain⟨od,J,_⟩:=O.look
  exact XZ (W.kitx_own (cl.get _) cl.hd ha hn htk hm) I.kIn J e (fun z=>nomatch z) h
end
structure dR (k:Nat)(A:Around):Prop where
 hd:A.handled=none
 dp:A.depth+3*k+5<recursionLimit
 un:A.units+16*k+200<cLine
theorem dR.mono (r:dR k A)(h:j<=k):dR j A:=⟨r.hd,by have:=r.dp;omega,by have:=r.un;omega⟩
theorem dR.deeper (r:dR (k+1) A)(env:Env):dR k (A.deeper env):=
 ⟨r.hd,by have:=r.dp;show A.depth+1+3*k+5<_;omega,by have:=r.un;show A.units+3+16*k+200<_;omega⟩
theorem yV {kw:List (Str×Value)}:(A.under (.builtin "type.__call__" ⟨.ref C::us,kw⟩)).depth=A.depth+1:=by
 first | rfl | simp[Around.under,Code.weight,Code.isCreation,Code.isGuard,Code.isCaller,Code.frames,Code.isFrame,guardIds]
theorem yU {kw:List (Str×Value)}:(A.under (.builtin "type.__call__" ⟨.ref C::us,kw⟩)).units=A.units+1:=by
 first | rfl | simp[Around.under,Code.cUnits,Code.frames,Code.isFrame]
theorem dR.make (r:dR (k+1) A)(C:Addr)(us:List Value)(kw:List (Str×Value)):dR k (A.under (.builtin "type.__call__" ⟨.ref C::us,kw⟩)):=
 ⟨r.hd,by have:=r.dp;rw[yV];omega,by have:=r.un;rw[yU];omega⟩
theorem dR.depth (r:dR k A):A.depth<recursionLimit:=by have:=r.dp;omega
theorem dR.units (r:dR k A):A.units+64<cLine:=by have:=r.un;omega
def a2N:TA:=fun _ H Q=>Q [] H
def b9K (ta:TE)(tr:TA):TA:=fun σ H Q=>ta σ H fun x H1=>tr σ H1 fun xs H2=>Q (x::xs) H2
section
theorem aD:PA X [] a2N:=fun _ _ _ _ H Q I h=>Calls.spliced_nil ⟨[],H,I,.nil,h⟩
theorem aA (ha:PE X e te)(hr:PA X es t)(hs:starEach (e::es) X.env=(false,eval e X.env)::starEach es X.env:=by rfl):PA X (e::es) (b9K te t):=by
 intro pos pins s σ H Q I h
 rw[hs]
 show wpAny _ _ (spliced ((false,eval e X.env)::backTo pos (starEach es X.env))) _ _ s
 refine Calls.spliced_cons (thn (ha pins s σ H _ I h) fun u s1 hz9=>?_)
 obtain⟨x,H1,I1,r1,q1⟩:=hz9
 exact thn (hr pos pins s1 σ H1 _ I1 q1) fun us s2 ⟨xs,H2,I2,r2,q2⟩=>⟨x::xs,H2,I2,.cons r1 r2,q2⟩
def c1Z (t:TA):TE:=fun σ H Q=>t σ H fun xs H1=>xs.length<=sizeLine/\∀p,H1 p=none->Q (.ref p) (upd H1 p (.tup xs))
def c2D (t:TA):TE:=fun σ H Q=>t σ H fun xs H1=>xs.length<=sizeLine/\∀p,H1 p=none->Q (.ref p) (upd H1 p (.lst xs))
theorem bU {x1}(h:PA X es t):PE X (.Tuple es x1 pos) (c1Z t):=by
 intro pins s σ H Q I hq
 refine wpAny_Tuple_spliced (thn (h pos pins s σ H _ I hq) fun us s1 ⟨xs,H1,I1,r,z,q⟩=>⟨by rw[<-r.length];exact z,?_⟩)
 have hf:H1 s1.heap.objs.size=none:=I1.hok.fresh (Yd _)
 refine⟨.ref s1.heap.objs.size,upd H1 s1.heap.objs.size (.tup xs),I1.laid (t':=s1.toks) (fun b u e=>Yp _ e) (Yd _) ?_,rfl,q _ hf⟩
 exact⟨z,us,r,⟨_,YL _ rfl,rfl,_,rfl⟩⟩
theorem cW (h:PA X es t):PE X (.List es pos) (c2D t):=by
 intro pins s σ H Q I hq
 refine wpAny_List_spliced (thn (h pos pins s σ H _ I hq) fun us s1 ⟨xs,H1,I1,r,z,q⟩=>⟨by rw[<-r.length];exact z,?_⟩)
 have hf:H1 s1.heap.objs.size=none:=I1.hok.fresh (Yd _)
 refine⟨.ref s1.heap.objs.size,upd H1 s1.heap.objs.size (.lst xs),I1.laid (t':=s1.toks) (fun b u e=>Yp _ e) (Yd _) ?_,rfl,q _ hf⟩
 exact⟨z,us,0,r,YL _ rfl⟩
end
abbrev Sp:=List V->Hp->VK->XK->Prop
variable {sp:Sp}
abbrev CXT:=List Env->Hp->Shared->XK->Value->Shared->Prop
variable {CX:CXT}
structure rG (P:Program)(w:World)(K:W.Frag)(mg:Str->Option Value)(base:Heap)(A:Around)(outer:List Env)(s:Shared)(H:Hp):Prop where
 frames:A.frames=some outer
 mod:Mod K mg base
 bs:∀b o,base.get? b=some o->s.heap.get? b=some o/\H b=none
 bsz:base.objs.size<=s.heap.objs.size
 funs:s.heap.FunFrames base outer
 frf:∀b∈frs outer,H b=none
 hok:HOk P w H s.heap
 bare:AllBare s.gens
def CE (outer:List Env)(P:Program)(w:World)(H:Hp)(s:Shared)(Q:VK)(u:Value)(s':Shared):Prop:=
 ∃v H',s'.os=s.os/\AllBare s'.gens/\Un (frs outer) [] H H' s.heap s'.heap/\HOk P w H' s'.heap/\RelV v u/\Q v H'
def CR (CX:CXT)(outer:List Env)(P:Program)(w:World)(H:Hp)(s:Shared)(Q:VK)(E:XK)(r:Result)(s':Shared):Prop:=
 match r with
 |.ok (.ret u)=>CE outer P w H s Q u s'
 |.ok _=>False
 |.error e=>CX outer H s E e s'
structure fQ (P:Program)(w:World)(K:W.Frag)(mg:Str->Option Value)(base:Heap)(CX:CXT)(k:Nat)(f:Addr)(fd:FuncData)(ps:List Str)(sp:Sp):Prop where
 len:∀vs H Q E,sp vs H Q E->vs.length=ps.length
 run:∀(A:Around)(outer:List Env)(s:Shared)(H:Hp)(args:Args)(us:List Value)(vs:List V)(Q:VK)(E:XK),dR k A->rG P w K mg base A outer s H->BindsTo s fd args (ps.zip us)->Vals vs us->sp vs H Q E->
  codeAny (model P w) A (.call (.ref f) args) (CR CX outer P w H s Q E) s
theorem fQ.mono {mg:Str->Option Value}{base:Heap}(F:fQ P w K mg base CX j f fd ps sp)(h:j<=k):
  fQ P w K mg base CX k f fd ps sp:=⟨F.len,fun A outer s H args us vs Q E hr=>F.run A outer s H args us vs Q E (hr.mono h)⟩
theorem rG.make {mg:Str->Option Value}{base:Heap}{outer:List Env}(e:rG P w K mg base A outer s H)(C:Addr)(us:List Value)(kw:List (Str×Value)):
  rG P w K mg base (A.under (.builtin "type.__call__" ⟨.ref C::us,kw⟩)) outer s H:=⟨by first | exact e.frames | (simpa [Around.under,Code.envs,Code.isFrame,pushEnvs] using e.frames),e.mod,e.bs,e.bsz,e.funs,e.frf,e.hok,e.bare⟩
section
variable {s':Shared}
theorem Inv.env0 (I:Inv X pins σ H s):rG X.prog X.w X.K X.mg X.base X.A X.stack s H:=
 ⟨I.ok.frames,I.ok.mod,I.bs,Y9 I.ok.bsz I.sz,I.stack,I.stkFree,I.hok,I.bare⟩
theorem Inv.after {Q:VK}(I:Inv X pins σ H s)(h:CE X.stack X.prog X.w H s Q u s'):EP X pins σ Q u s':=by
 obtain⟨v,H',os,bare,un,hok,r,q⟩:=h
 obtain⟨hh,g,d,t,os'⟩:=s'
 obtain rfl:os'=s.os:=os
 exact⟨v,H',I.call (h':=hh) (g':=g) (d':=d) (t':=t) (ch:=[]) un hok bare (fun b z=>absurd z (by simp)),r,q⟩
end
def b3P (sp:Sp)(dvs:List V)(E:XK)(t:TA):TE:=fun σ H Q=>t σ H fun vs H1=>sp (vs++dvs) H1 Q E
def b3M (C:Addr)(m:Str)(sp:Sp)(dvs:List V)(E:XK)(ta:TE)(t:TA):TE:=fun σ H Q=>ta σ H fun x H1=>∃a dx fs,x= .ref a/\H1 a=some (.ins C dx fs)/\fs.lookup m=none/\
 t σ H1 fun vs H2=>sp (x::(vs++dvs)) H2 Q E
def b3N (C:Addr)(sp:Sp)(dvs:List V)(E:XK)(t:TA):TE:=fun σ H Q=>t σ H fun vs H1=>∀x dx,H1 x=none->H1 dx=none->dx≠x->
 sp (.ref x::(vs++dvs)) (upd (upd H1 dx (.own x)) x (.ins C dx [])) (fun v H2=>v= .non/\Q (.ref x) H2) E
def Binds (K:W.Frag)(fd:FuncData)(ps:List Str)(ds:List Value):Prop:=
 ∀(s:Shared)(us:List Value),K.In s.heap->(us++ds).length=ps.length->BindsTo s fd ⟨us, []⟩ (ps.zip (us++ds))
theorem Binds.all (h:∀us:List Value,us.length=ps.length->bindArgs fd ⟨us, []⟩=pure (ps.zip us)):Binds K fd ps []:=fun s us _ hl=>by
 rw[YS]at hl ⊢
 exact .of_eq (h us hl)
def fP (CX:CXT)(X:Cx)(E:XK):Prop:=∀(pins:List (Addr×Obj))(σ:St)(H:Hp)(s:Shared)(e:Value)(s':Shared),Inv X pins σ H s->CX X.stack H s E e s'->X.xe e s'
section
variable {dvs:List V}{ds:List Value}{E:XK}{m:Str}{apos:Pos}{o:Expr}
theorem kJ {pins:List (Addr×Obj)}{σ:St}{H:Hp}{s:Shared}{Q:VK}{us:List Value}{vs:List V}(F:fQ X.prog X.w X.K X.mg X.base CX k f fd ps sp)(hr:dR k X.A)(hb:Binds X.K fd ps ds)(hd:Vals dvs ds)(hx:fP CX X E)
  (I:Inv X pins σ H s) (r:Vals vs us) (h:sp (vs++dvs) H Q E):wpAny (model X.prog X.w) X.A (call (.ref f) us) (EP X pins σ Q) X.xe s:=by
 have r2:Vals (vs++dvs) (us++ds):=r.append hd
 have hl:(us++ds).length=ps.length:=by rw[<-r2.length];exact F.len _ _ _ _ h
 refine wpAny_call (Ji (F.run X.A X.stack s H ⟨us, []⟩ (us++ds) (vs++dvs) Q E hr I.env0 (hb s us I.kIn hl) r2 h) fun r s' hq=>?_)
 cases r with
 |error e=>exact hx pins σ H s e s' I hq
 | ok fl=>
  cases fl with
  |ret u=>exact I.after hq
  |next=>exact False.elim hq
  |brk=>exact False.elim hq
  |cont=>exact False.elim hq
theorem aQ (F:fQ X.prog X.w X.K X.mg X.base CX k f fd ps sp)(hr:dR k X.A)(hg:Gl X x)(hm:X.mg x=some (.ref f))(hk:W.keepIn X.K (.ref f)=true)(hb:Binds X.K fd ps ds)(hd:Vals dvs ds)(hx:fP CX X E)
  (ha:PA X (e::es) t) (hdb:(x == ("__debug__":Str))=false:=by decide) (he:starEach (e::es) X.env=(false,eval e X.env)::starEach es X.env:=by rfl) (hpl:(backTo pos (starEach es X.env)).any (·.1)=false:=by rfl) :
  PE X (.Call (.Name x p) (e::es) [] pos) (b3P sp dvs E t):=by
 intro pins s σ H Q I h
 refine Xn (lK I hg hm ?_ hdb)
 refine X4 (h₀:=X.base) I.ok.mod.kin hk (thn (ha pos pins s σ H _ I h) fun us s1 ⟨vs,H1,I1,r,q⟩=>⟨I1.kIn,?_⟩) he hpl
 exact kJ F hr hb hd hx I1 r q
theorem wB (F:fQ X.prog X.w X.K X.mg X.base CX k f fd ps sp)(hr:dR k X.A)(hg:Gl X x)(hm:X.mg x=some (.ref f))(hk:W.keepIn X.K (.ref f)=true)(hb:Binds X.K fd ps ds)(hd:Vals dvs ds)(hx:fP CX X E)
  (hdb:(x == ("__debug__":Str))=false:=by decide):PE X (.Call (.Name x p) [] [] pos) (b3P sp dvs E a2N):=by
 intro pins s σ H Q I h
 refine Xn (lK I hg hm ?_ hdb)
 exact W.callWith_K0 I.kIn hk (kJ (us:=[]) F hr hb hd hx I .nil h)
theorem b1Q {pl:Sem Bool}(he:PE X o ta)(c:Cls X.K C)(hm:Meth X.K C m f)(F:fQ X.prog X.w X.K X.mg X.base CX k f fd ps sp)(hr:dR k X.A)(hb:Binds X.K fd ps ds)(hd:Vals dvs ds)(hx:fP CX X E)(ha:PA X (e::es) t)
  (hst:starEach (e::es) X.env=(false,eval e X.env)::starEach es X.env:=by rfl) (hpl:(backTo pos (starEach es X.env)).any (·.1)=false:=by rfl)
  (ht:eval (.Call (.Attribute o m apos) (e::es) [] pos) X.env=(do
   let ov<-eval o X.env
   standAt apos.atName
   let (f,first)<-holding [ov] (getMethod ov m pl)
   callWith pos f first (backTo pos (starEach (e::es) X.env)) (backToKw pos (keywordEach [] X.env))):=by rfl) :
  PE X (.Call (.Attribute o m apos) (e::es) [] pos) (b3M C m sp dvs E ta t):=by
 intro pins s σ H Q I h
 refine XE (pl:=pl) (thn (he pins s σ H _ I h) fun u s1 hz9=>?_) ht
 obtain⟨x,H1,I1,rx,a,dx,fs,ex,ea,l,q⟩:=hz9
 subst ex
 obtain rfl:u=Value.ref a:=rx
 refine fM I1 ea c hm l ?_
 refine X4 (first:=[.ref a]) (h₀:=X.base) I.ok.mod.kin hm.kp (thn (ha pos pins s1 σ H1 _ I1 q) fun us s2 ⟨vs,H2,I2,r,q2⟩=>⟨I2.kIn,?_⟩) hst hpl
 exact kJ (us:= .ref a::us) (vs:= .ref a::vs) F hr hb hd hx I2 (.cons rfl r) q2
theorem a7D {pl:Sem Bool}(he:PE X o ta)(c:Cls X.K C)(hm:Meth X.K C m f)(F:fQ X.prog X.w X.K X.mg X.base CX k f fd ps sp)(hr:dR k X.A)(hb:Binds X.K fd ps ds)(hd:Vals dvs ds)(hx:fP CX X E)
  (ht:eval (.Call (.Attribute o m apos) [] [] pos) X.env=(do
   let ov<-eval o X.env
   standAt apos.atName
   let (f,first)<-holding [ov] (getMethod ov m pl)
   callWith pos f first (backTo pos (starEach [] X.env)) (backToKw pos (keywordEach [] X.env))):=by rfl) :
  PE X (.Call (.Attribute o m apos) [] [] pos) (b3M C m sp dvs E ta a2N):=by
 intro pins s σ H Q I h
 refine XE (pl:=pl) (thn (he pins s σ H _ I h) fun u s1 hz9=>?_) ht
 obtain⟨x,H1,I1,rx,a,dx,fs,ex,ea,l,q⟩:=hz9
 subst ex
 obtain rfl:u=Value.ref a:=rx
 refine fM I1 ea c hm l ?_
 exact W.callWith_K0 (first:=[.ref a]) I1.kIn hm.kp (kJ (us:=[.ref a]) (vs:=[.ref a]) F hr hb hd hx I1 (.cons rfl .nil) q)
structure Mk (K:W.Frag)(C f:Addr):Prop where
 makes:W.makesIn K C=true
 init:W.findIn K (.ref C) "__init__"=some (some (.ref f))
 fn:W.isFn K (.ref f)=true
 kp:W.keepIn K (.ref C)=true
theorem vW {pins:List (Addr×Obj)}{σ:St}{H:Hp}{s:Shared}{Q:VK}{us:List Value}{vs:List V}(M:Mk X.K C f)(F:fQ X.prog X.w X.K X.mg X.base CX k f fd ps sp)(hr:dR (k+1) X.A)(hb:Binds X.K fd ps ds)(hd:Vals dvs ds)
  (hx:fP CX X E) (I:Inv X pins σ H s) (r:Vals vs us)
  (h:∀x dx,H x=none->H dx=none->dx≠x->sp (.ref x::(vs++dvs)) (upd (upd H dx (.own x)) x (.ins C dx [])) (fun v H2=>v= .non/\Q (.ref x) H2) E) :
  wpAny (model X.prog X.w) X.A (call (.ref C) us) (EP X pins σ Q) X.xe s:=by
 have hq:=h (s.heap.objs.size+1) s.heap.objs.size (I.hok.fresh (Nat.le_succ _)) (I.hok.fresh (Yd _)) (YO (YW _))
 have I2:=Inv.made (C:=C) I
 have r2:Vals (V.ref (s.heap.objs.size+1)::(vs++dvs)) (Value.ref (s.heap.objs.size+1)::(us++ds)):= .cons rfl (r.append hd)
 have hl:(Value.ref (s.heap.objs.size+1)::us++ds).length=ps.length:=by
  have e:=r2.length
  rw[F.len _ _ _ _ hq]at e
  exact e.symm
 refine wpAny_call (a8B (f:=f) I.kIn M.makes M.init (XH.mp M.fn) (Ji (F.run _ X.stack _ _ ⟨Value.ref (s.heap.objs.size+1)::us, []⟩ (Value.ref (s.heap.objs.size+1)::(us++ds)) _ _ E (hr.make C us [])
  (I2.env0.make C us []) (hb _ (Value.ref (s.heap.objs.size+1)::us) I2.kIn hl) r2 hq) fun r s' hq'=>?_))
 cases r with
 |error e=>exact hx pins σ _ _ e s' I2 hq'
 | ok fl=>
  cases fl with
  | ret u=>
   obtain⟨v,H',I3,rv,ev,q3⟩:=I2.after hq'
   subst ev
   exact⟨rv,⟨V.ref (s.heap.objs.size+1),H',I3,rfl,q3⟩⟩
  |next=>exact False.elim hq'
  |brk=>exact False.elim hq'
  |cont=>exact False.elim hq'
theorem bV (M:Mk X.K C f)(F:fQ X.prog X.w X.K X.mg X.base CX k f fd ps sp)(hr:dR (k+1) X.A)(hg:Gl X x)(hm:X.mg x=some (.ref C))(hb:Binds X.K fd ps ds)(hd:Vals dvs ds)(hx:fP CX X E)
  (ha:PA X (e::es) t) (hdb:(x == ("__debug__":Str))=false:=by decide) (he:starEach (e::es) X.env=(false,eval e X.env)::starEach es X.env:=by rfl) (hpl:(backTo pos (starEach es X.env)).any (·.1)=false:=by rfl) :
  PE X (.Call (.Name x p) (e::es) [] pos) (b3N C sp dvs E t):=by
 intro pins s σ H Q I h
 refine Xn (lK I hg hm ?_ hdb)
 refine X4 (h₀:=X.base) I.ok.mod.kin M.kp (thn (ha pos pins s σ H _ I h) fun us s1 ⟨vs,H1,I1,r,q⟩=>⟨I1.kIn,?_⟩) he hpl
 exact vW M F hr hb hd hx I1 r q
theorem mK (M:Mk X.K C f)(F:fQ X.prog X.w X.K X.mg X.base CX k f fd ps sp)(hr:dR (k+1) X.A)(hg:Gl X x)(hm:X.mg x=some (.ref C))(hb:Binds X.K fd ps ds)(hd:Vals dvs ds)(hx:fP CX X E)
  (hdb:(x == ("__debug__":Str))=false:=by decide):PE X (.Call (.Name x p) [] [] pos) (b3N C sp dvs E a2N):=by
 intro pins s σ H Q I h
 refine Xn (lK I hg hm ?_ hdb)
 exact W.callWith_K0 I.kIn M.kp (vW (us:=[]) M F hr hb hd hx I .nil h)
end
section
variable {ks:List Str}{E:XK}{m:Str}{apos kpos:Pos}{o:Expr}{kws:List Keyword}{tk:TA}{nm:Option Str}
variable {g:List Value->List Value->List Value}{gV:List V->List V->List V}
end
structure gY (N P:List Str)(sc:Scope):Prop where
 kind:sc.kind= .function
 co:sc.isCoroutine=false
 gen:sc.isGenerator=false
 nd:N.Nodup
 pre:N.take P.length=P
 par:∀x∈P,sc.names.lookup x=some .local\/sc.names.lookup x=some .cell
 nofree:∀y∈sc.names,y.2≠ .free
theorem tM:∀{binds:List (Str×Value)}{m:Str->Option Value},(∀v,(x,v)∉binds)->bindL kindOf binds m x=m x
 |[],_,_=>rfl
 | (n,v)::r,m,h=>by
  unfold bindL
  rw[tM fun w hw=>h w (Yw _ hw)]
  split
  ·have:x≠n:=by rintro rfl;exact h v YC
   simp[this]
  ·rfl
theorem tQ:∀{binds:List (Str×Value)}{m:Str->Option Value},(∀v,(x,v)∉binds)->bindC kindOf binds m x=m x
 |[],_,_=>rfl
 | (n,v)::r,m,h=>by
  unfold bindC
  rw[tQ fun w hw=>h w (Yw _ hw)]
  split
  ·rfl
  ·have:x≠n:=by rintro rfl;exact h v YC
   simp[this]
theorem tO:∀{P:List Str}{vs:List Value}{i:Nat}{m:Str->Option Value},P.Nodup->P[i]? =some x->vs[i]? =some v->kindOf x=some .local->
  bindL kindOf (P.zip vs) m x=some v
 |[],_,_,_,_,h,_,_=>by simp at h
 |_::_, [],_,_,_,_,h,_=>by simp at h
 | p::P,w::vs,0,m,nd,h1,h2,hk=>by
  simp at h1 h2;subst h1;subst h2
  show bindL kindOf ((p,w)::P.zip vs) m p=_
  unfold bindL
  rw[tM fun v hv=>(Y0.mp nd).1 (X6 hv).1,if_pos hk]
  simp
 | p::P,w::vs,i+1,m,nd,h1,h2,hk=>by
  show bindL kindOf ((p,w)::P.zip vs) m x=_
  unfold bindL
  exact tO (i:=i) (Y0.mp nd).2 (by simpa using h1) (by simpa using h2) hk
theorem tR:∀{P:List Str}{vs:List Value}{i:Nat}{m:Str->Option Value},P.Nodup->P[i]? =some x->vs[i]? =some v->kindOf x≠some .local->
  bindC kindOf (P.zip vs) m x=some v
 |[],_,_,_,_,h,_,_=>by simp at h
 |_::_, [],_,_,_,_,h,_=>by simp at h
 | p::P,w::vs,0,m,nd,h1,h2,hk=>by
  simp at h1 h2;subst h1;subst h2
  show bindC kindOf ((p,w)::P.zip vs) m p=_
  unfold bindC
  rw[tQ fun v hv=>(Y0.mp nd).1 (X6 hv).1,if_neg hk]
  simp
 | p::P,w::vs,i+1,m,nd,h1,h2,hk=>by
  show bindC kindOf ((p,w)::P.zip vs) m x=_
  unfold bindC
  exact tR (i:=i) (Y0.mp nd).2 (by simpa using h1) (by simpa using h2) hk
def start (N:List Str)(vs:List V):St:=vs.map some++List.replicate (N.length-vs.length) none
def uP (CX:CXT)(P:Program)(w:World)(K:W.Frag)(mg:Str->Option Value)(base:Heap)(N:List Str)(qual:Str)(scope:Scope)(f:Addr)(cd:Value)(A:Around)(outer:List Env)(s:Shared)(H:Hp)(E:XK):Cx where
 prog:=P
 w:=w
 K:=K
 mg:=mg
 base:=base
 A:=A.deeper (envOfC qual scope s.heap.objs.size f cd)
 N:=N
 s₀:=s
 H₀:=H
 env:=envOfC qual scope s.heap.objs.size f cd
 outer:=outer
 stack:=envOfC qual scope s.heap.objs.size f cd::outer
 ex:=[]
 calm:=true
 fn:=fun _=>true
 pn:=[]
 xe:=fun e s'=>wpAny (model P w) (A.deeper (envOfC qual scope s.heap.objs.size f cd)) (leaving (envOfC qual scope s.heap.objs.size f cd) e) (fun _ s''=>CX outer H s E e s'') (fun e' s''=>CX outer H s E e' s'') s'
theorem xM {sc:Scope}{n:Nat}(h:sc.names.lookup x=some .cell):∃c,(cellsFrom n sc.names []).lookup x=some c:=by
 have q:=W.cellsFrom_some sc.names n [] (.inl h)
 exact Option.isSome_iff_exists.mp q
theorem tD {CX:CXT}{P:Program}{w:World}{K:W.Frag}{mg:Str->Option Value}{base:Heap}{N ps:List Str}{qual:Str}{scope:Scope}{f:Addr}{cd:Value}{A:Around}{outer:List Env}{s s1:Shared}{H:Hp}{E:XK}{us:List Value}{vs:List V}
  (S:gY N ps scope) (hd:A.handled=none) (e0:rG P w K mg base A outer s H) (hl:vs.length=ps.length) (r:Vals vs us)
  (x:InCallC s s.heap.objs.size (bindL (envOfC qual scope s.heap.objs.size f cd).kindOf (ps.zip us) fun _=>none) (cellsFrom (s.heap.objs.size+1) scope.names []) (bindC (envOfC qual scope s.heap.objs.size f cd).kindOf (ps.zip us) fun _=>none) s1) :
  Inv (uP CX P w K mg base N qual scope f cd A outer s H E) [] (start N vs) H s1:=by
 have hpl:ps.length<=N.length:=by have:=YT List.length S.pre;rw[Yr]at this;omega
 obtain⟨h1,tk,rfl,hk⟩:=x.done
 have noA:∀b:Addr,b∉(uP CX P w K mg base N qual scope f cd A outer s H E).ex:=fun b z=>absurd (show b∈([]:List Addr) from z) (by simp)
 refine⟨⟨e0.mod,S.kind,rfl,rfl,Yd _,fun y z c h1 h2=>?_,fun y hy=>?_,fun y c _ h=>?_,fun _=>hd,Around.frames_deeper e0.frames,.inr ⟨rfl,rfl⟩,fun b z=>absurd z (noA b),e0.bs,e0.bsz,fun b _ _=>noA b,fun b z=>absurd z (noA b),e0.funs,e0.frf⟩,
  rfl,e0.bare,Un.kept hk,⟨_,x.toInCall.ns,fun i y v h1 h2 h3=>?_⟩,fun y c h=>⟨_,x.cell y c h⟩,e0.hok.fresh (Yd _),fun y c h=>?_,fun p hp=>absurd (show p∈([]:List (Addr×Obj)) from hp) (by simp),e0.hok.kept hk,?_⟩
 ·exact name_of_addr x.apart (Y7 h1) (Y7 h2)
 ·have hy:scope.names.lookup y=some .cell\/scope.names.lookup y=some .free:=hy
  rcases hy with hy | hy
  ·exact xM hy
  ·exact absurd rfl (S.nofree _ (Y7 hy))
 ·exact Xm (x.above y c (Y7 h))
 ·have hi:i<vs.length:=by
   unfold start at h2
   by_cases hi:i<vs.length
   ·exact hi
   ·rw[Yv (by simpa using hi)]at h2
    rw[X1]at h2
    split at h2 <;> cases h2
  have ha:vs[i]? =some v:=by
   unfold start at h2
   rw[YF (by simpa using hi),Yl]at h2
   cases e:vs[i]? with
   |none=>rw[e]at h2;cases h2
   |some a=>rw[e]at h2;cases h2;rfl
  obtain⟨u,hu,rv⟩:=r.get ha
  have hp:ps[i]? =some y:=by
   rw[<-S.pre,XC (by omega)];exact h1
  have ndP:ps.Nodup:=by rw[<-S.pre];exact S.nd.sublist (List.take_sublist _ _)
  refine⟨u,rv,?_⟩
  rcases S.par y (Yx hp) with k | k
  ·exact .inl ⟨k,tO ndP hp hu k⟩
  ·obtain⟨c,e⟩:=xM (n:=s.heap.objs.size+1) k
   refine .inr ⟨.inl k,c,e,?_⟩
   have q:=x.cell y c e
   rw[tR ndP hp hu (by show scope.names.lookup y≠_;rw[k];decide)]at q
   exact q
 ·exact e0.hok.fresh (Xm (x.above y c (Y7 h)))
 ·unfold start
  show _=N.length
  rw[Yc,Ya,Yu]
  omega
theorem c0Y {CX:CXT}{P:Program}{w:World}{K:W.Frag}{mg:Str->Option Value}{base:Heap}{k:Nat}{f:Addr}{name qual:Str}{params:Arguments}{body:List Stmt}{scope:Scope}{dV kV doc pm cdv ct oc:Value}{an od:Option Addr}
  {osl:Array (Option Value)} {N ps:List Str} {sp:Sp} (lk:K.lookup f=some ⟨oc,od,.func (W.fnOf name qual params body scope dV kV doc pm an cdv ct),osl⟩) (hcd:W.codeIn K cdv qual=true) (S:gY N ps scope)
  (len:∀vs H Q E,sp vs H Q E->vs.length=ps.length)
  (hbody:∀(A:Around)(outer:List Env)(s:Shared)(H:Hp)(vs:List V)(Q:VK)(E:XK),dR k (A.deeper (envOfC qual scope s.heap.objs.size f cdv))->sp vs H Q E->
   ∃t,PSs (uP CX P w K mg base N qual scope f cdv A outer s H E) body t/\t { nx:=fun _ H'=>Q .non H',rt:=Q } (start N vs) H) :
  fQ P w K mg base CX (k+1) f (W.fnOf name qual params body scope dV kV doc pm an cdv ct) ps sp:=by
 refine⟨len,fun A outer s H args us vs Q E hr e0 hb r hsp=>?_⟩
 have hl:=len _ _ _ _ hsp
 have KX:K.In s.heap:=e0.mod.kin.keeps fun b o e=>(e0.bs b o e).1
 have lim:s.heap.NoLimit:=e0.mod.nolimit.keeps fun b o e=>(e0.bs b o e).1
 have hkind:∀y∈ps.zip us,scope.names.lookup y.1=some .local\/(scope.names.lookup y.1=some .cell/\((cellsFrom (s.heap.objs.size+1) scope.names []).lookup y.1).isSome=true):=fun ⟨n,v⟩ hy=>by
  rcases S.par n (X6 hy).1 with q | q
  ·exact .inl q
  ·exact .inr ⟨q,W.cellsFrom_some _ _ _ (.inl q)⟩
 refine codeAny_call_function hr.depth (KX _ _ lk) rfl S.co S.gen rfl (W.codeRec_of KX hcd) (hb _ _ _ _ ?_)
 refine wpAny_newFunctionEnv_cells S.kind hkind fun env he s1 x=>?_
 subst he
 refine⟨lim.keeps x.toInCall.keep,codeAny_func ?_⟩
 obtain⟨t,ht,hq⟩:=hbody A outer s H vs Q E (hr.deeper _) hsp
 have I:Inv (uP CX P w K mg base N qual scope f cdv A outer s H E) [] (start N vs) H s1:=tD S hr.hd e0 hl r x
 refine Xe (ht [] s1 (start N vs) H _ I hq) (fun fl s' hs=>?_) fun e s' hs=>hs
 have fin:∀{σ':St}{H':Hp}{v:V}{u:Value},Inv (uP CX P w K mg base N qual scope f cdv A outer s H E) [] σ' H' s'->RelV v u->Q v H'->CE outer P w H s Q u s':=
  fun {σ' H' v u} J rv q=>⟨v,H',J.os,J.bare,J.base,J.hok,rv,q⟩
 cases fl with
 | ret u=>
  obtain⟨v,σ',H',J,rv,q⟩:=hs
  exact fin J rv q
 | next=>
  obtain⟨σ',H',J,q⟩:=hs
  exact fin (v:=V.non) (u:=Value.none) J rfl q
 | brk=>
  obtain⟨_,_,_,q⟩:=hs
  exact False.elim q
 | cont=>
  obtain⟨_,_,_,q⟩:=hs
  exact False.elim q
section
variable {id T:String}{r:List V->Hp->VK->Prop}
def tCB (r:List V->Hp->VK->Prop)(t:TA):TE:=fun σ H Q=>t σ H fun vs H1=>r vs H1 Q
theorem bK (hc:fH X (.builtin id) r)(hg:Gl X x)(hm:X.mg x=none)(hv:bootBuiltins x=some (.builtin id))(ha:PA X (e::es) t)(hn:x≠"__name__":=by decide)(hdb:(x == ("__debug__":Str))=false:=by decide)
  (he:starEach (e::es) X.env=(false,eval e X.env)::starEach es X.env:=by rfl) (hpl:(backTo pos (starEach es X.env)).any (·.1)=false:=by rfl):PE X (.Call (.Name x p) (e::es) [] pos) (tCB r t):=by
 intro pins s σ H Q I h
 refine Xn (oE I hg hm hv ?_ hn hdb)
 exact PyProof.Rows.callWith_builtin1 (thn (ha pos pins s σ H _ I h) fun us s1 ⟨vs,H1,I1,r1,q1⟩=>hc pins s1 σ H1 vs us Q I1 r1 q1) he hpl
theorem fU (hc:fH X (.type T) r)(hg:Gl X x)(hm:X.mg x=none)(hv:bootBuiltins x=some (.type T))(ha:PA X (e::es) t)(hn:x≠"__name__":=by decide)(hdb:(x == ("__debug__":Str))=false:=by decide)
  (he:starEach (e::es) X.env=(false,eval e X.env)::starEach es X.env:=by rfl) (hpl:(backTo pos (starEach es X.env)).any (·.1)=false:=by rfl):PE X (.Call (.Name x p) (e::es) [] pos) (tCB r t):=by
 intro pins s σ H Q I h
 refine Xn (oE I hg hm hv ?_ hn hdb)
 exact XN (thn (ha pos pins s σ H _ I h) fun us s1 ⟨vs,H1,I1,r1,q1⟩=>hc pins s1 σ H1 vs us Q I1 r1 q1) he hpl
end
end L2
namespace HT
open PySem PyProof.Rows
section
open PySem.SeqAt
open PySem.AutoSeq1 (wpAny_loadPart')
open PySem.MeetsSeq PySem.MeetsSeq2 PySem.MeetsSeq3
end
section
variable {prog:Program}{w:World}{A:Around}{E:Value->Shared->Prop}{s:Shared}
def sIx (n d:Nat):Option Int->Nat
 |none=>d
 |some v=>if v<0 then (v+(n:Int)).toNat else min v.toNat n
theorem sIx_none (n d:Nat):sIx n d none=d:=rfl
theorem sIx_nat (n d k:Nat):sIx n d (some (k:Int))=min k n:=by
 show (if (k:Int)<0 then ((k:Int)+(n:Int)).toNat else min (k:Int).toNat n)=min k n
 rw[if_neg (by omega),YB]
end
end HT
namespace L2
open PySem PySem.Spec PyProof.Rows
variable {α:Type}{pins:List (Addr×Obj)}{σ:St}{H:Hp}{s:Shared}{xs:List V}{A:Around}{x:V}{v:Value}{X:Cx}
abbrev TO:=St->Hp->(Option Int->Hp->Prop)->Prop
def PO (X:Cx)(e:Option Expr)(t:TO):Prop:=
 ∀ (pins:List (Addr×Obj))(s:Shared)(σ:St)(H:Hp)(Q:Option Int->Hp->Prop),Inv X pins σ H s->t σ H Q->
  wpAny (model X.prog X.w) X.A (evalPart e X.env) (fun u s'=>∃o H',Inv X pins σ H' s'/\IsPart u o/\Q o H') X.xe s
def b0F:TO:=fun _ H Q=>Q none H
def b9F (t:TE):TO:=fun σ H Q=>t σ H fun x H1=>∃i,x= .int i/\Q (some i) H1
theorem intsAre_of {ns:List Int}:∀{us:List Value},Vals (ns.map V.int) us->IntsAre us ns:=by
 induction ns with
 |nil=>intro us r;rw[List.map_nil]at r;cases r;exact .nil
 | cons n ns ih=>
  intro us r
  rw[YM]at r
  cases r with
  | cons r1 r2=>
   obtain⟨t,e⟩:=r1
   subst e
   exact .cons n t (ih r2)
section
variable {e:Expr}{te:TE}{lo hi:Option Expr}{tl th:TO}{pos p2:Pos}
theorem b1O:PO X none b0F:=by
 intro pins s σ H Q I h
 rw[evalPart_none]
 exact Xj ⟨none,H,I,.none,h⟩
theorem b1N (h:PE X e te):PO X (some e) (b9F te):=by
 intro pins s σ H Q I hw
 rw[evalPart_some]
 refine thn (h pins s σ H _ I hw) fun u s1 hz9=>?_
 obtain⟨x,H1,I1,r1,q1⟩:=hz9
 obtain⟨i,rfl,q⟩:=q1
 obtain⟨t,rfl⟩:=r1
 exact⟨some i,H1,I1,.int i t,q⟩
def SlR (X:Cx)(r:V->Option Int->Option Int->Hp->VK->Prop):Prop:=
 ∀ (pins:List (Addr×Obj))(s:Shared)(σ:St)(H:Hp)(x:V)(v vl vu:Value)(lo hi:Option Int)(sl:Addr)(Q:VK),Inv X pins σ H s->RelV x v->s.heap.IsSliceOf sl vl vu .none->IsPart vl lo->IsPart vu hi->r x lo hi H Q->
  ∃T id,typeLookup (.type T) "__getitem__"=pure (some (.builtin id))/\s.TypeIs v T/\wpAny (model X.prog X.w) X.A (getItem v (.ref sl)) (EP X pins σ Q) X.xe s
def tSl (r:V->Option Int->Option Int->Hp->VK->Prop)(te:TE)(tl th:TO):TE:=fun σ H Q=>te σ H fun x H1=>tl σ H1 fun l H2=>th σ H2 fun u H3=>r x l u H3 Q
theorem mJ {r:V->Option Int->Option Int->Hp->VK->Prop}(hr:SlR X r)(he:PE X e te)(hl:PO X lo tl)(hu:PO X hi th):PE X (.Subscript e (.Slice lo hi none p2) pos) (tSl r te tl th):=by
 intro pins s σ H Q I h
 refine Subscript_ (thn (he pins s σ H _ I h) fun v s1 hz9=>?_)
 obtain⟨x,H1,I1,r1,q1⟩:=hz9
 refine wpAny_Slice (thn (hl pins s1 σ H1 _ I1 q1) fun vl s2 ⟨l,H2,I2,pl,q2⟩=>thn (hu pins s2 σ H2 _ I2 q2) fun vu s3 ⟨u,H3,I3,pu,q3⟩=>?_)
 rw[evalPart_none]
 refine Xj ?_
 have I4:Inv X pins σ H3 { s3 with heap:=s3.heap.push { cls:= .type "slice",data:= .fields #[vl,vu,.none] } }:=I3.kept (t':=s3.toks) fun b ob q=>Yp _ q
 obtain⟨T,id,hT,ht,hg⟩:=hr pins { s3 with heap:=s3.heap.push { cls:= .type "slice",data:= .fields #[vl,vu,.none] } } σ H3 x v vl vu l u s3.heap.objs.size Q I4 r1 (Heap.IsSliceOf.new ..) pl pu q3
 show wpAny (model X.prog X.w) X.A (subscriptTail e (.Slice lo hi none p2) v (.ref s3.heap.objs.size)) (EP X pins σ Q) X.xe { s3 with heap:=s3.heap.push { cls:= .type "slice",data:= .fields #[vl,vu,.none] } }
 exact tail_any (ops:=[.ref s3.heap.objs.size,v]) ht hT hg (by with_unfolding_all rfl)
def lQ (xs:List V)(lo hi:Option Int):List V:=(xs.drop (HT.sIx xs.length 0 lo)).take (HT.sIx xs.length xs.length hi-HT.sIx xs.length 0 lo)
theorem xJ (xs:List V)(lo hi:Option Int):(lQ xs lo hi).length<=xs.length:=by
 unfold lQ
 rw[Yr,XS]
 omega
end
def ixN (n:Nat)(i:Int):Option Nat:=if 0<=i then (if i<n then some i.toNat else none) else if -(n:Int)<=i then some (i+n).toNat else none
def atI {α:Type}(xs:List α)(i:Int):Option α:=(ixN xs.length i).bind fun j=>xs[j]?
theorem a1J {n:Nat}{i:Int}{j:Nat}(h:ixN n i=some j):seqIndex? i n=some j/\j<n/\ -(n:Int)<=i/\i<n:=by
 unfold ixN at h
 by_cases h0:0<=i
 ·rw [if_pos h0]at h
  by_cases h1:i<n
  ·rw[if_pos h1]at h
   have e:i.toNat=j:=Yo h
   exact⟨by rw[seqIndex_of h0 h1,e],by omega,by omega,h1⟩
  ·rw[if_neg h1]at h;cases h
 ·rw [if_neg h0]at h
  by_cases h1: -(n:Int)<=i
  ·rw[if_pos h1]at h
   have e:(i+n).toNat=j:=Yo h
   exact⟨by rw[seqIndex_neg (by omega) h1,e],by omega,h1,by omega⟩
  ·rw[if_neg h1]at h;cases h
theorem a2B {xs:List α}{i:Int}{v:α}(h:atI xs i=some v):∃j,seqIndex? i xs.length=some j/\xs[j]? =some v/\j<xs.length/\ -(xs.length:Int)<=i/\i<xs.length:=by
 unfold atI at h
 cases e:ixN xs.length i with
 |none=>rw[e]at h;cases h
 | some j=>
  rw[e]at h
  obtain⟨h1,h2,h3,h4⟩:=a1J e
  exact⟨j,h1,h,h2,h3,h4⟩
theorem fB {xs:List α}{j:Nat}{v:α}(h:xs[j]? =some v):atI xs (j:Int)=some v:=by
 have hj:j<xs.length:=(Yf.mp h).1
 have e:ixN xs.length (j:Int)=some j:=by
  unfold ixN
  rw[if_pos (by omega),if_pos (by omega)];simp
 unfold atI;rw[e];exact h
def b2X (b:Expr):Prop:=∀o i,subscripted b false o i=operate [o,i] (getItem o i)
def IxR (X:Cx)(r:R2):Prop:=
 ∀ (value slice:Expr)(pins:List (Addr×Obj))(s:Shared)(σ:St)(H:Hp)(x y:V)(v u:Value)(Q:VK),Inv X pins σ H s->RelV x v->RelV y u->r x y H Q->
  subscripted slice false v u=operate [v,u] (getItem v u)->wpAny (model X.prog X.w) X.A (subscriptTail value slice v u) (EP X pins σ Q) X.xe s
def MtR (X:Cx)(id:String)(r:V->List V->Hp->VK->Prop):Prop:=
 ∀ (pins:List (Addr×Obj))(s:Shared)(σ:St)(H:Hp)(x:V)(xs:List V)(v:Value)(us:List Value)(Q:VK),Inv X pins σ H s->RelV x v->Vals xs us->r x xs H Q->
  wpAny (model X.prog X.w) X.A (call (.builtin id) (v::us)) (EP X pins σ Q) X.xe s
section
variable {a b:Expr}{ta tb:TE}{pos:Pos}
theorem bQ {r:R2}(hr:IxR X r)(ha:PE X a ta)(hb:PE X b tb)(hs:b2X b):PE X (.Subscript a b pos) (tOp r ta tb):=by
 intro pins s σ H Q I h
 exact Subscript_ (b8J ha hb I h fun v u s2 x y H2 I2 rx ry q=>hr a b pins s2 σ H2 x y v u Q I2 rx ry q (hs _ _))
def c2P (K:W.Frag):R2:=fun x y H Q=>∃p xs i v,x= .ref p/\y= .int i/\SqL K H p xs/\atI xs i=some v/\Q v H
def c2O (K:W.Frag):R2:=fun x y H Q=>∃p xs i v,x= .ref p/\y= .int i/\SqT K H p xs/\atI xs i=some v/\Q v H
theorem b2G:IxR X (c2P X.K):=by
 intro value slice pins s σ H x y v u Q I rx ry h hs
 obtain⟨p,xs,i,z,rfl,rfl,hq,he,q⟩:=h
 cases rx
 obtain⟨t,rfl⟩:=ry
 obtain⟨its,r,pl,hz⟩:=I.list hq
 obtain⟨j,h1,h2,h3,h4,h5⟩:=a2B he
 obtain⟨w,ew,rw'⟩:=r.get h2
 have hl:=r.length
 have hn:=uH
 have fin:EP X pins σ Q w s:=⟨z,H,I,rw',q⟩
 by_cases h0:0<=i
 ·have hj:i.toNat=j:=by
   rw[seqIndex_of h0 h5]at h1
   exact Yo h1
  exact item_listR pl.isList h0 (by omega) (by rw[hj];simpa using ew) fin hs
 ·have hj:(i+(its.toArray.size:Int)).toNat=j:=by
   rw[seqIndex_neg (by omega) h4]at h1
   rw[YE,<-hl]
   exact Yo h1
  exact subscriptTail_builtinR (x:=w) pl.isList.typeIs slot_list_getitem.lookup
   (wpAny_getItem_list_neg (Q:=fun r s'=>r=w/\EP X pins σ Q r s') pl.isList (by omega) (by rw[YE] <;> omega) (by omega) (by rw[hj];simpa using ew) ⟨rfl,fin⟩) hs
theorem b7H:IxR X (c2O X.K):=by
 intro value slice pins s σ H x y v u Q I rx ry h hs
 obtain⟨p,xs,i,z,rfl,rfl,hq,he,q⟩:=h
 cases rx
 obtain⟨t,rfl⟩:=ry
 obtain⟨its,r,pl,hz⟩:=I.tuple hq
 obtain⟨j,h1,h2,h3,h4,h5⟩:=a2B he
 obtain⟨w,ew,rw'⟩:=r.get h2
 have hl:=r.length
 have hn:=uH
 have fin:EP X pins σ Q w s:=⟨z,H,I,rw',q⟩
 exact subscriptTail_builtinR (x:=w) pl.typeIs slot_tuple_getitem.lookup
  (getItem_tuple (j:=j) (Q:=fun r s'=>r=w/\EP X pins σ Q r s') pl (by omega) (by omega) (by rw[YE,<-hl];exact h1) (by simpa using ew) ⟨rfl,fin⟩) hs
theorem yS (its:List Value)(n j:Nat)(u:Value):Obj.mapSeq (·.setIfInBounds j u) { cls:= .type "list",data:= .seq its.toArray n }={ cls:= .type "list",data:= .seq (its.set j u).toArray n }:=by
 simp[Obj.mapSeq]
theorem Inv.lst {p:Addr}(I:Inv X pins σ H s)(h:H p=some (.lst xs)):
  ∃(its:List Value)(n:Nat),Vals xs its/\s.heap.get? p=some { cls:= .type "list",data:= .seq its.toArray n }/\xs.length<=sizeLine:=by
 obtain⟨z,its,n,r,e⟩:=I.hok p _ h
 exact⟨its,n,r,e,z⟩
theorem Inv.lstUpd {pins:List (Addr×Obj)}{σ:St}{H:Hp}{s:Shared}{p:Addr}{xs ys:List V}{its its':List Value}{n n':Nat}{f:Obj->Obj}(I:Inv X pins σ H s)(h:H p=some (.lst xs))
  (ho:s.heap.get? p=some { cls:= .type "list",data:= .seq its.toArray n }) (hf:f { cls:= .type "list",data:= .seq its.toArray n }={ cls:= .type "list",data:= .seq its'.toArray n' }) (r:Vals ys its') (hz:ys.length<=sizeLine) (t:Nat) :
  Inv X pins σ (upd H p (.lst ys)) { s with heap:=s.heap.update p f,toks:=t }:=by
 have e:(s.heap.update p f).get? p=some { cls:= .type "list",data:= .seq its'.toArray n' }:=by
  rw[Heap.get?_update_self f ho (by rw[hf] <;> rfl),hf]
 refine I.write (x:=p) (e:=p) (by rw[h];trivial) (.inl rfl) (fun b u hb q=>(Heap.get?_update_other _ _ (Ne.symm hb)).trans q) ⟨_,e⟩ ?_
 exact⟨hz,its',n',r,e⟩
def b9V:V->V->V->Hp->(Hp->Prop)->Prop:=fun o i v H Q=>∃p xs k j,o= .ref p/\i= .int k/\H p=some (.lst xs)/\ixN xs.length k=some j/\Q (upd H p (.lst (xs.set j v)))
theorem set_list:b8O X b9V:=by
 intro pins s σ H o i v ov iv u Q I ro ri rv h
 obtain⟨p,xs,k,j,rfl,rfl,hp,hj,q⟩:=h
 cases ro
 obtain⟨t,rfl⟩:=ri
 obtain⟨its,n,r,ho,hz⟩:=I.lst hp
 obtain⟨h1,h2,h3,h4⟩:=a1J hj
 have hl:=r.length
 have hn:=uH
 have I':Inv X pins σ (upd H p (.lst (xs.set j v))) { s with heap:=s.heap.update p (Obj.mapSeq (·.setIfInBounds j u)) }:=
  I.lstUpd hp ho (yS its n j u) (r.set rv j) (by rw[Xp];exact hz) s.toks
 by_cases h0:0<=k
 ·have hk:k.toNat=j:=by
   rw[seqIndex_of h0 h4]at h1
   exact Yo h1
  exact W.ki_setAt ho h0 (by omega) (by rw[YE,<-hl];exact h4) (by rw[hk];exact⟨_,I',q⟩)
 ·have hk:(k+(its.toArray.size:Int)).toNat=j:=by
   rw[seqIndex_neg (by omega) h3]at h1
   rw[YE,<-hl]
   exact Yo h1
  exact W.ki_setBack ho (by omega) (by rw[YE,<-hl];exact h3) (by omega) (by rw[hk];exact⟨_,I',q⟩)
theorem uA (lo hi:Option Int)(n:Nat):(sliceBounds lo hi none n).1=((HT.sIx n 0 lo:Nat):Int)/\(sliceBounds lo hi none n).2.1=((HT.sIx n n hi:Nat):Int)/\(sliceBounds lo hi none n).2.2=1:=by
 refine⟨?_,?_,rfl⟩
 ·cases lo with
  |none=>simp[sliceBounds,HT.sIx]
  | some i=>
   simp only[sliceBounds,HT.sIx,Option.getD_none,show (1:Int) > 0 by decide,if_true]
   by_cases h:i<0
   ·simp only[h,if_true] <;> omega
   ·simp only[h,if_false] <;> omega
 ·cases hi with
  |none=>simp[sliceBounds,HT.sIx]
  | some i=>
   simp only[sliceBounds,HT.sIx,Option.getD_none,show (1:Int) > 0 by decide,if_true]
   by_cases h:i<0
   ·simp only[h,if_true] <;> omega
   ·simp only[h,if_false] <;> omega
theorem rJ (its:List Value)(lo hi:Option Int):slicePick its.toArray lo hi none=((its.drop (HT.sIx its.length 0 lo)).take (HT.sIx its.length its.length hi-HT.sIx its.length 0 lo)).toArray:=by
 obtain⟨h1,h2,h3⟩:=uA lo hi its.toArray.size
 unfold slicePick
 rw[h1,h2,h3]
 simp only[sliceRange_one,pick_run,YE] <;> rfl
def c2M (K:W.Frag):V->Option Int->Option Int->Hp->VK->Prop:=fun x lo hi H Q=>∃a xs,x= .ref a/\SqL K H a xs/\∀p,H p=none->Q (.ref p) (upd H p (.lst (lQ xs lo hi)))
theorem b0W:SlR X (c2M X.K):=by
 intro pins s σ H x v vl vu lo hi sl Q I rx hs pl pu h
 obtain⟨a,xs,rfl,hx,q⟩:=h
 cases rx
 obtain⟨its,r,ht,hz⟩:=I.list hx
 have hlen:=r.length
 refine⟨"list",_,slot_list_getitem.lookup,ht.isList.typeIs,?_⟩
 refine wpAny_getItem_list_slice ht.isList hs pl pu .none (by simp) ?_ (by rw[YE] <;> omega)
 rw[rJ,<-hlen]
 refine⟨.ref s.heap.objs.size,_,I.laid (t':=s.toks) (o:= .lst (lQ xs lo hi)) (fun b ob q=>Yp _ q) (Yd _) ?_,rfl,q _ (I.hok.fresh (Yd _))⟩
 exact⟨Y9 (xJ xs lo hi) hz,_,0,(r.drop (HT.sIx xs.length 0 lo)).take (HT.sIx xs.length xs.length hi-HT.sIx xs.length 0 lo),YL _ rfl⟩
def lY:V->Bool
 |.non=>true
 |.bl _=>true
 |.int _=>true
 |.str _=>true
 |_=>false
def eqV:V->V->Bool
 |.non,.non=>true
 |.bl a,.bl b=>a == b
 |.bl a,.int b=>(if a then 1 else 0) == b
 |.int a,.bl b=>a == (if b then 1 else 0)
 |.int a,.int b=>a == b
 |.str a,.str b=>a == b
 |_,_=>false
theorem b7Q {y:V}{u:Value}(ry:RelV y u)(rx:RelV x v)(fy:lY y=true)(fx:lY x=true):SeqAt.EqAt A s u v (eqV y x):=by
 cases y with
 | non=>
  cases ry
  cases x with
  |non=>cases rx;exact SeqAt.EqAt.same _
  |bl b=>cases rx;exact SeqAt.EqAt.none_bool b
  |int b=>obtain⟨t,rfl⟩:=rx;exact SeqAt.EqAt.none_int b t
  |str b=>obtain⟨t,rfl⟩:=rx;exact SeqAt.EqAt.none_str b t
  |_=>exact absurd (show false=true from fx) Yq
 | bl a=>
  cases ry
  cases x with
  |non=>cases rx;exact SeqAt.EqAt.bool_none a
  |bl b=>cases rx;exact SeqAt.EqAt.bool_bool a b
  |int b=>obtain⟨t,rfl⟩:=rx;exact SeqAt.EqAt.bool_int a b t
  |str b=>obtain⟨t,rfl⟩:=rx;exact SeqAt.EqAt.bool_str a b t
  |_=>exact absurd (show false=true from fx) Yq
 | int a=>
  obtain⟨t',rfl⟩:=ry
  cases x with
  |non=>cases rx;exact SeqAt.EqAt.int_none a t'
  |bl b=>cases rx;exact SeqAt.EqAt.int_bool a t' b
  |int b=>obtain⟨t,rfl⟩:=rx;exact SeqAt.EqAt.int_int a t' b t
  |str b=>obtain⟨t,rfl⟩:=rx;exact SeqAt.EqAt.int_str a t' b t
  |_=>exact absurd (show false=true from fx) Yq
 | str a=>
  obtain⟨t',rfl⟩:=ry
  cases x with
  |non=>cases rx;exact SeqAt.EqAt.str_none a t'
  |bl b=>cases rx;exact SeqAt.EqAt.str_bool a t' b
  |int b=>obtain⟨t,rfl⟩:=rx;exact SeqAt.EqAt.str_int a t' b t
  |str b=>obtain⟨t,rfl⟩:=rx;exact SeqAt.EqAt.str_str a t' b t
  |_=>exact absurd (show false=true from fx) Yq
 |_=>exact absurd (show false=true from fy) Yq
def eqU (x:V)(u:Value):Bool:=match u with
 |.none=>eqV .non x
 |.bool b=>eqV (.bl b) x
 |.int i _=>eqV (.int i) x
 |.str z _=>eqV (.str z) x
 |_=>false
theorem a8X {y:V}{u:Value}(r:RelV y u)(f:lY y=true):eqU x u=eqV y x:=by
 cases y with
 |non=>cases r;rfl
 |bl b=>cases r;rfl
 |int i=>obtain⟨t,rfl⟩:=r;rfl
 |str z=>obtain⟨t,rfl⟩:=r;rfl
 |_=>exact absurd (show false=true from f) Yq
theorem nJ:∀{xs:List V}{us:List Value},Vals xs us->xs.all lY=true->us.any (eqU x)=xs.any fun y=>eqV y x
 |_,_,.nil,_=>rfl
 | y::xs,u::us,.cons r t,f=>by
  rw[XD,Y1]at f
  rw[Xv,Xv,a8X r f.1,nJ t f.2]
theorem kZ (rx:RelV x v)(fx:lY x=true):∀{xs:List V}{us:List Value},Vals xs us->xs.all lY=true->∀u∈us,SeqAt.EqAt A s u v (eqU x u)
 |_,_,.nil,_=>fun u hu=>by cases hu
 | y::xs,u::us,.cons r t,f=>fun u' hu=>by
  rw[XD,Y1]at f
  rcases YG.mp hu with rfl | hu
  ·rw[a8X r f.1];exact b7Q r rx f.1 fx
  ·exact kZ rx fx t f.2 u' hu
def inV (x:V)(xs:List V):Bool:=xs.any fun y=>eqV y x
def rIn (K:W.Frag)(neg:Bool):R2:=fun x y H Q=>∃p xs,y= .ref p/\(SqL K H p xs\/SqT K H p xs)/\lY x=true/\xs.all lY=true/\Q (.bl (if neg then !inV x xs else inV x xs)) H
theorem sI:OpR X (compareOp .In) (rIn X.K false):=by
 intro pins s σ H x y v u Q I rx ry h
 obtain⟨p,xs,rfl,hq,fx,fs,q⟩:=h
 cases ry
 rcases hq with hq | hq
 ·obtain⟨its,r,pl,hz⟩:=I.list hq
  refine SeqAt.in_listAt (eqU x) pl.isList (fun w hw=>kZ rx fx r fs w (by simpa using hw)) ⟨.bl _,H,I,rfl,?_⟩
  rw[show its.toArray.any (eqU x)=its.any (eqU x) by simp,nJ r fs]
  exact q
 ·obtain⟨its,r,pl,hz⟩:=I.tuple hq
  refine SeqAt.in_tupleAt (eqU x) pl (fun w hw=>kZ rx fx r fs w (by simpa using hw)) ⟨.bl _,H,I,rfl,?_⟩
  rw[show its.toArray.any (eqU x)=its.any (eqU x) by simp,nJ r fs]
  exact q
theorem jO:OpR X (compareOp .NotIn) (rIn X.K true):=by
 intro pins s σ H x y v u Q I rx ry h
 obtain⟨p,xs,rfl,hq,fx,fs,q⟩:=h
 cases ry
 rcases hq with hq | hq
 ·obtain⟨its,r,pl,hz⟩:=I.list hq
  refine SeqAt.notIn_listAt (eqU x) pl.isList (fun w hw=>kZ rx fx r fs w (by simpa using hw)) ⟨.bl _,H,I,rfl,?_⟩
  rw[show its.toArray.any (eqU x)=its.any (eqU x) by simp,nJ r fs]
  exact q
 ·obtain⟨its,r,pl,hz⟩:=I.tuple hq
  refine SeqAt.notIn_tupleAt (eqU x) pl (fun w hw=>kZ rx fx r fs w (by simpa using hw)) ⟨.bl _,H,I,rfl,?_⟩
  rw[show its.toArray.any (eqU x)=its.any (eqU x) by simp,nJ r fs]
  exact q
theorem uU:fH X (.builtin "len") (fun xs H Q=>∃p ys,xs= [.ref p]/\(SqL X.K H p ys\/SqT X.K H p ys)/\Q (.int ys.length) H):=by
 intro pins s σ H xs us Q I r h
 obtain⟨p,ys,rfl,hq,q⟩:=h
 obtain⟨u,rfl,rx⟩:=vals1 r
 cases rx
 have hn:=uH
 rcases hq with hq | hq
 ·obtain⟨its,r',pl,hz⟩:=I.list hq
  have hlen:=r'.length
  exact Calls.call_len_list pl.isList (by simp only[YE] <;> omega) ⟨.int ys.length,H,I.tok _,⟨s.toks+1,by rw[YE,hlen]⟩,q⟩
 ·obtain⟨its,r',pl,hz⟩:=I.tuple hq
  have hlen:=r'.length
  exact len_tuple pl (by simp only[YE] <;> omega) ⟨.int ys.length,H,I.tok _,⟨s.toks+1,by rw[YE,hlen]⟩,q⟩
theorem uT:fH X (.type "list") (fun xs H Q=>∃p ys,xs= [.ref p]/\(SqL X.K H p ys\/SqT X.K H p ys)/\∀l,H l=none->Q (.ref l) (upd H l (.lst ys))):=by
  intro pins s σ H xs us Q I r h
  obtain⟨p,ys,rfl,hq,q⟩:=h
  obtain⟨u,rfl,rx⟩:=vals1 r
  cases rx
  have fin:∀(its:List Value),Vals ys its->ys.length<=sizeLine->∀(h':Heap)(c':Nat),(∀b o',s.heap.get? b=some o'->h'.get? b=some o')->
      h'.get? s.heap.objs.size=some { cls:= .type "list",dict:=none,data:= .seq its.toArray c',slots:=#[] }->EP X pins σ Q (.ref s.heap.objs.size) { s with heap:=h' }:=fun its r' hz h' c' kp e=>
    ⟨.ref s.heap.objs.size,_,I.laid (t':=s.toks) kp (Yd _) (show dU X.prog X.w _ h' _ (.lst ys) from ⟨hz,its,c',r',e⟩),rfl,q _ (I.hok.fresh (Yd _))⟩
  rcases hq with hq | hq
  · obtain⟨its,r',pl,hz⟩:=I.list hq
    have hlen:=r'.length
    obtain⟨o,ho,hc,n,hd⟩:=pl.isList
    exact call_list_seq p (.inl rfl) ho hc hd (fun h' c' kp e=>fin its r' hz h' c' kp e) (by simp only[YE] <;> omega)
  · obtain⟨its,r',pl,hz⟩:=I.tuple hq
    have hlen:=r'.length
    obtain⟨o,ho,hc,n,hd⟩:=pl
    exact call_list_seq p (.inr rfl) ho hc hd (fun h' c' kp e=>fin its r' hz h' c' kp e) (by simp only[YE] <;> omega)
def tyV (K:W.Frag)(T:String)(x:V)(H:Hp):Prop:=match x with
  |.str _=>T="str"
  |.int _=>T="int"
  | .ref p=>(T="list"/\∃xs,SqL K H p xs)\/(T="tuple"/\∃o,K.lookup p=some o/\o.cls= .type "tuple"/\o.dict=none)\/
      (T="dict"/\((∃kvs,H p=some (.dK kvs))\/∃kvs,H p=some (.dT kvs)))\/(T="set"/\∃S n,H p=some (.set S n))
  |_=>False
theorem a5B {T:String}(I:Inv X pins σ H s)(r:RelV x v)(ty:tyV X.K T x H):
  s.TypeIs v T/\∀a,v= .ref a->∃ob,s.heap.get? a=some ob/\ob.dict=none:=by
 cases x with
 | str z=>
  obtain⟨t,rfl⟩:=r
  cases (show T="str" from ty)
  exact⟨typeIs_str s z t,fun _ e=>nomatch e⟩
 | int i=>
  obtain⟨t,rfl⟩:=r
  cases (show T="int" from ty)
  exact⟨typeIs_int s i t,fun _ e=>nomatch e⟩
 | ref p =>
  cases r
  rcases ty with ⟨rfl,xs,hq⟩ | ⟨rfl,o,hk,hc,hd⟩ | ⟨rfl,hk⟩ | ⟨rfl,S,n,hk⟩
  ·obtain⟨its,_,pl,_⟩:=I.list hq
   refine⟨pl.isList.typeIs,fun a e=>?_⟩
   cases e
   obtain⟨o,n,e,c,hd,_⟩:=pl
   exact⟨o,e,hd⟩
  ·refine⟨⟨o,I.kIn p o hk,hc⟩,fun a e=>?_⟩
   cases e
   exact⟨o,I.kIn _ o hk,hd⟩
  ·have z:∃o,s.heap.get? p=some o/\o.ExactDict:=by
    rcases hk with ⟨kvs,hk⟩ | ⟨kvs,hk⟩
    ·obtain⟨_,_,_,_,o,_,_,e,ex,_⟩:=I.hok p _ hk
     exact⟨o,e,ex⟩
    ·obtain⟨_,_,_,_,o,_,_,e,ex,_⟩:=I.hok p _ hk
     exact⟨o,e,ex⟩
   obtain⟨o,e,ex⟩:=z
   refine⟨⟨o,e,ex.1⟩,fun a e2=>?_⟩
   cases e2
   exact⟨o,e,ex.2.1⟩
  ·obtain⟨o,_,_,_,e,ex,_⟩:=I.hok p _ hk
   refine⟨⟨o,e,ex.1⟩,fun a e2=>?_⟩
   cases e2
   exact⟨o,e,ex.2.1⟩
 |_=>exact False.elim ty
def c2I (K:W.Frag)(T:String)(r:V->List V->Hp->VK->Prop)(to:TE):TE:=fun σ H Q=>to σ H fun x H1=>tyV K T x H1/\r x [] H1 Q
def tBM (K:W.Frag)(T:String)(r:V->List V->Hp->VK->Prop)(to:TE)(t:TA):TE:=fun σ H Q=>to σ H fun x H1=>tyV K T x H1/\t σ H1 fun xs H2=>r x xs H2 Q
variable {o e:Expr}{es:List Expr}{to:TE}{t:TA}{name:Str}{apos cpos:Pos}{T id:String}{r:V->List V->Hp->VK->Prop}
theorem b6F (pa:PlainAttrs T)(slot:Slot T name id)(hty:typeOf (.builtin id)=pure (.type "method_descriptor"))(hm:MtR X id r)(ho:PE X o to)
  (hbase:attributeBase o name X.env (eval o X.env)=eval o X.env:=by rfl) (hline:(apos.endLine == cpos.line)=true:=by rfl):PE X (.Call (.Attribute o name apos) [] [] cpos) (c2I X.K T r to):=by
 intro pins s σ H Q I h
 refine wpAny_Call_method0_late hbase hline (thn (ho pins s σ H _ I h) fun v s1 hz9=>?_)
 obtain⟨x,H1,I1,r1,ty,q1⟩:=hz9
 obtain⟨h1,h2⟩:=a5B I1 r1 ty
 exact⟨T,id,pa,slot,hty,h1,h2,Calls.callWith_builtin rfl (PySem.evalArgs_none (hm pins s1 σ H1 x [] v [] Q I1 r1 .nil q1))⟩
theorem a0S (pa:PlainAttrs T)(slot:Slot T name id)(hty:typeOf (.builtin id)=pure (.type "method_descriptor"))(hm:MtR X id r)(ho:PE X o to)(ha:PA X (e::es) t)
  (hbase:attributeBase o name X.env (eval o X.env)=eval o X.env:=by rfl)
  (hfew:((backTo cpos (starEach (e::es) X.env)).all (fun x=>!x.1) && (backToKw cpos (keywordEach [] X.env)).all (fun x=>x.1.isSome)
   && decide ((e::es).length+([]:List Keyword).length+(if ([]:List Keyword).isEmpty then 0 else 1)<30))=true:=by rfl)
  (hline:(apos.endLine == cpos.line)=true:=by rfl) (hs:starEach (e::es) X.env=(false,eval e X.env)::starEach es X.env:=by rfl) (hplain:(backTo cpos (starEach es X.env)).any (·.1)=false:=by rfl) :
  PE X (.Call (.Attribute o name apos) (e::es) [] cpos) (tBM X.K T r to t):=by
 intro pins s σ H Q I h
 refine wpAny_Call_method_late hbase hfew hline rfl (thn (ho pins s σ H _ I h) fun v s1 hz9=>?_)
 obtain⟨x,H1,I1,r1,ty,q1⟩:=hz9
 obtain⟨h1,h2⟩:=a5B I1 r1 ty
 refine⟨T,id,pa,slot,hty,h1,h2,?_⟩
 have hA:=ha cpos pins s1 σ H1 _ I1 q1
 rw[hs]at hA ⊢
 refine Calls.callWith_builtin (by show (false || (backTo cpos (starEach es X.env)).any (·.1))=false;rw[hplain] <;> rfl) (Calls.evalArgs_plain ?_)
 exact thn hA fun us s2 ⟨vs,H2,I2,r2,q2⟩=>hm pins s2 σ H2 x vs v us Q I2 r1 r2 q2
end
def MtM (X:Cx)(id:String)(r:V->List V->Hp->VK->Prop):Prop:=
 ∀ (pins:List (Addr×Obj))(s:Shared)(σ:St)(H:Hp)(x:V)(xs:List V)(v:Value)(us:List Value)(Q:VK),Inv X pins σ H s->RelV x v->Vals xs us->r x xs H Q->
  wpAny (model X.prog X.w) X.A (call (.builtin id) (v::us)) (EP X pins σ Q) X.xe s
theorem Vals.one:∀{x:V}{us:List Value},Vals [x] us->∃u,us= [u]/\RelV x u
 |_,_,.cons r .nil=>⟨_,rfl,r⟩
theorem Vals.two:∀{x y:V}{us:List Value},Vals [x,y] us->∃u v,us= [u,v]/\RelV x u/\RelV y v
 |_,_,_,.cons r (.cons q .nil)=>⟨_,_,rfl,r,q⟩
theorem Vals.eraseIdx:∀{xs:List V}{us:List Value}(i:Nat),Vals xs us->Vals (xs.eraseIdx i) (us.eraseIdx i)
 |_,_,_,.nil=> .nil
 |_,_,0,.cons _ t=>t
 |_,_,i+1,.cons r t=> .cons r (Vals.eraseIdx i t)
theorem Vals.rep {us:List Value}(h:Vals xs us):∀k:Nat,Vals (List.replicate k xs).flatten (List.replicate k us).flatten
 |0=> .nil
 | k+1=>by
  rw[Xg,Xg,Xf,Xf]
  exact Vals.append h (Vals.rep h k)
theorem sX:∀(l:List α)(i:Nat),(l.eraseIdx i).length<=l.length
 |[],_=>Yd _
 |_::_,0=>Nat.le_succ _
 |_::r,i+1=>Xk (sX r i)
theorem foldl_rep (its:List Value):∀(k:Nat)(acc:List Value),
  List.foldl (fun x1 x2=>x1++x2) acc.toArray (List.replicate k its.toArray)=(acc++(List.replicate k its).flatten).toArray
 |0,acc=>by simp
 | k +1,acc=>by
  have e:acc.toArray++its.toArray=(acc++its).toArray:=by simp
  have e2:(acc++its)++(List.replicate k its).flatten=acc++(List.replicate (k+1) its).flatten:=by
   rw[Xg,Xf,YJ]
  rw[<-e2,<-foldl_rep its k (acc++its),<-e,Xg,Xq]
section
variable {l b:Addr}{ys zs:List V}
theorem Inv.lset {its its':List Value}{n:Nat}{f:Array Value->Array Value}{t':Nat}(I:Inv X pins σ H s)(hH:H l=some (.lst xs))
  (e:s.heap.get? l=some { cls:= .type "list",data:= .seq its.toArray n }) (hf:f its.toArray=its'.toArray) (hv:Vals ys its') (hz:ys.length<=sizeLine) :
  Inv X pins σ (upd H l (.lst ys)) { s with heap:=s.heap.update l (Obj.mapSeq f),toks:=t' }:=by
 have q:=PySem.IsL.update e f
 rw[hf]at q
 refine I.write (x:=l) (e:=l) (by rw[hH];exact trivial) (.inl rfl) (fun b' u hb hu=>(Heap.get?_update_other s.heap (Obj.mapSeq f) (Ne.symm hb)).trans hu) ⟨_,q⟩ ?_
 exact⟨hz,its',_,hv,q⟩
theorem Inv.lnew {its:List Value}{t':Nat}(I:Inv X pins σ H s)(hv:Vals ys its)(hz:ys.length<=sizeLine):
  Inv X pins σ (upd H s.heap.objs.size (.lst ys)) { s with heap:=s.heap.push { cls:= .type "list",data:= .seq its.toArray },toks:=t' }:=
 I.laid (fun _ _ q=>Yp _ q) (Yd _) ⟨hz,its,0,hv,YL _ rfl⟩
theorem Inv.fresh (I:Inv X pins σ H s):H s.heap.objs.size=none:=I.hok.fresh (Yd _)
theorem Inv.lstM (I:Inv X pins σ H s)(hH:H l=some (.lst xs)):xs.length<=sizeLine/\∃(its:List Value)(n:Nat),Vals xs its/\xs.length=its.length/\s.heap.get? l=some { cls:= .type "list",data:= .seq its.toArray n }:=by
 obtain⟨z,its,n,r,e⟩:=I.hok l _ hH
 exact⟨z,its,n,r,r.length,e⟩
theorem wF {n:Nat}(h:n<=sizeLine):Builtin.List.listTooLong n=false:=by
 unfold Builtin.List.listTooLong
 exact Yi (by omega)
end
section
def b1E:V->List V->Hp->VK->Prop:=fun x vs H Q=>∃l xs y,x= .ref l/\vs= [y]/\H l=some (.lst xs)/\xs.length<sizeLine/\Q .non (upd H l (.lst (xs++[y])))
theorem a3K:MtM X "list.append" b1E:=by
 intro pins s σ H x vs v us Q I rx rv h
 obtain⟨l,xs,y,rfl,rfl,hH,hz,q⟩:=h
 cases rx
 obtain⟨u,rfl,ru⟩:=rv.one
 obtain⟨z,its,n,r,hl,e⟩:=I.lstM hH
 refine call_meets F.slot_list_append ⟨_,e,rfl⟩ F.entry_list_append (F.args_list_append_2 _ _) (PySem.list_append l its.toArray n u (by rw[YE];omega)) ⟨e,?_⟩
 refine⟨.non,_,I.lset (its':=its++[u]) hH e (by simp) (r.append (.cons ru .nil)) ?_,rfl,q⟩
 rw[Yc,Yt]
 omega
def b1D:V->List V->Hp->VK->Prop:=fun x vs H Q=>∃l b xs zs,x= .ref l/\vs= [.ref b]/\H l=some (.lst xs)/\H b=some (.lst zs)/\xs.length+zs.length<=sizeLine/\Q .non (upd H l (.lst (xs++zs)))
theorem a3J:MtM X "list.extend" b1D:=by
 intro pins s σ H x vs v us Q I rx rv h
 obtain⟨l,b,xs,zs,rfl,rfl,hH,hB,hz,q⟩:=h
 cases rx
 obtain⟨u,rfl,ru⟩:=rv.one
 cases ru
 obtain⟨z,its,n,r,hl,e⟩:=I.lstM hH
 obtain⟨z2,its2,n2,r2,hl2,e2⟩:=I.lstM hB
 have hsz:its.toArray.size+its2.toArray.size<=sizeLine:=by rw[YE,YE];omega
 have hlong:¬ (!its.toArray.isEmpty && Builtin.List.listTooLong (its.toArray.size+its2.toArray.size))=true:=by
  rw[wF hsz,Jd]
  exact Yq
 refine call_meets F.slot_list_extend ⟨_,e,rfl⟩ F.entry_list_extend (F.args_list_extend_2 _ _)
  (AutoSeq1.list_extend_list_list_0 l its.toArray n b its2.toArray n2 hlong (by rw[YE];omega) (by omega)) ⟨e,e2,?_⟩
 refine⟨.non,_,I.lset (its':=its++its2) hH e (by simp) (r.append r2) ?_,rfl,q⟩
 rw[Yc]
 omega
def b5X:V->List V->Hp->VK->Prop:=fun x vs H Q=>∃l xs i k y,x= .ref l/\vs= [.int i]/\H l=some (.lst xs)/\ -(2 ^ 63)<=i/\i<2 ^ 63/\seqIndex? i xs.length=some k/\xs[k]? =some y/\Q y (upd H l (.lst (xs.eraseIdx k)))
theorem a7U:MtM X "list.pop" b5X:=by
 intro pins s σ H x vs v us Q I rx rv h
 obtain⟨l,xs,i,k,y,rfl,rfl,hH,h1,h2,hk,hy,q⟩:=h
 cases rx
 obtain⟨u,rfl,ru⟩:=rv.one
 obtain⟨t,rfl⟩:=ru
 obtain⟨z,its,n,r,hl,e⟩:=I.lstM hH
 obtain⟨w,hw,rw'⟩:=r.get hy
 refine call_meets F.slot_list_pop ⟨_,e,rfl⟩ F.entry_list_pop (F.args_list_pop_2 _ _)
  (MeetsSeq.list_pop_at l its.toArray n i t k w (fitsIndex_both h1 h2) (by rw[YE,<-hl];exact hk) (by rw[<-Array.getElem?_toList];exact hw) (by rw[YE];omega)) ⟨e,?_⟩
 refine⟨y,_,I.lset (its':=its.eraseIdx k) hH e ?_ (r.eraseIdx k) ?_,rw',q⟩
 ·show its.toArray.eraseIdxIfInBounds k=(its.eraseIdx k).toArray
  rw[List.eraseIdxIfInBounds_toArray]
 ·have:=sX xs k
  omega
def c2Q:R2:=fun x y H Q=>∃l b xs zs,x= .ref l/\y= .ref b/\H l=some (.lst xs)/\H b=some (.lst zs)/\xs.length+zs.length<=sizeLine/\∀p,H p=none->Q (.ref p) (upd H p (.lst (xs++zs)))
theorem b6O:OpR X (binaryOp .Add) c2Q:=by
 intro pins s σ H x y v u Q I rx ry h
 obtain⟨l,b,xs,zs,rfl,rfl,hH,hB,hz,q⟩:=h
 cases rx
 cases ry
 obtain⟨z,its,n,r,hl,e⟩:=I.lstM hH
 obtain⟨z2,its2,n2,r2,hl2,e2⟩:=I.lstM hB
 refine PySem.P.add_list e e2 ?_ (by rw[YE,YE];omega)
 have ea:its.toArray++its2.toArray=(its++its2).toArray:=by simp
 rw[ea]
 exact⟨.ref _,_,I.lnew (t':=s.toks) (r.append r2) (by rw[Yc];omega),rfl,q _ I.fresh⟩
def c2N:R2:=fun x y H Q=>∃l k xs,x= .ref l/\y= .int k/\H l=some (.lst xs)/\ -(2 ^ 63)<=k/\k<2 ^ 63/\xs.length*k.toNat<=sizeLine/\
 ∀p,H p=none->Q (.ref p) (upd H p (.lst (List.replicate k.toNat xs).flatten))
theorem len_rep (xs:List α)(k:Nat):(List.replicate k xs).flatten.length=k*xs.length:=by
 induction k with
 |zero=>simp
 |succ k ih=>rw[Xg,Xf,Yc,ih,Nat.succ_mul,Nat.add_comm]
theorem b6L:OpR X (binaryOp .Mult) c2N:=by
 intro pins s σ H x y v u Q I rx ry h
 obtain⟨l,k,xs,rfl,rfl,hH,h1,h2,hz,q⟩:=h
 cases rx
 obtain⟨t,rfl⟩:=ry
 obtain⟨z,its,n,r,hl,e⟩:=I.lstM hH
 have hlen:its.toArray.size*k.toNat<=sizeLine:=by rw[YE,<-hl];exact hz
 have hcap:¬ its.toArray.size*k.toNat > (2 ^ 63-1) / 8:=by
  have:(sizeLine:Nat)<=(2 ^ 63-1) / 8:=by decide
  omega
 have hfit:¬ (!Builtin.List.listFitsIndex k)=true:=by
  rw[fitsIndex_both h1 h2]
  exact Yq
 have hlong:¬ Builtin.List.listTooLong (its.toArray.size*k.toNat)=true:=by
  rw[wF hlen]
  exact Yq
 have hnew:List.foldl (fun x1 x2=>x1++x2) #[] (List.replicate (if its.toArray.isEmpty=true then 0 else k.toNat) its.toArray)=(List.replicate k.toNat its).flatten.toArray:=by
  have f0:∀m:Nat,List.foldl (fun x1 x2=>x1++x2) #[] (List.replicate m its.toArray)=(List.replicate m its).flatten.toArray:=fun m=>by
   have:=foldl_rep its m []
   rw[List.nil_append]at this
   exact this
  rw[f0]
  cases its with
  |nil=>simp
  |cons a r'=>rw[if_neg (by simp)]
 refine wpAny_binaryOp_repeat_ref (T:="list") (U:="int") (by decide) ⟨_,e,rfl⟩ (fun s'=>typeIs_int s' k t) noFill_list_mul F.fills_int_mul F.slot_int_rmul repeat_list F.slot_int_index.lookup
  (call_meets F.slot_int_rmul (typeIs_int s k t) F.entry_int_rmul (F.args_int_rmul_2 _ _) (int___rmul___int_list k t l its.toArray n)
   ⟨e,rfl,⟨_,e,rfl⟩,call_meets F.slot_list_mul ⟨_,e,rfl⟩ F.entry_list_mul (F.args_list_mul_2 _ _) (AutoListH.list___mul___list_int_3 l its.toArray n k t hfit hcap hlong) ⟨e,?_⟩⟩)
 rw[hnew]
 exact⟨.ref _,_,I.lnew (t':=s.toks) (r.rep k.toNat) (by rw[len_rep,Nat.mul_comm];exact hz),rfl,q _ I.fresh⟩
end
section
variable {prog:Program}{w:World}{E:Value->Shared->Prop}
end
section
end
end L2
namespace Att
open PySem PySem.W PySem.Calls PyProof.Rows
theorem pA {P:Params}{h:Heap}:∀(ns:List Int)(vs:List Value),WellAll P h vs (ns.map WData.int)->IntsAre vs ns:=by
 intro ns
 induction ns with
 | nil=>
  intro vs w
  rw[List.map_nil]at w
  cases w
  exact .nil
 | cons n ns ih=>
  intro vs w
  rw[YM]at w
  cases w with
  | cons a b=>
   cases a
   exact .cons _ _ (ih _ b)
theorem a3B {l:OpenLaw}{n:Nat}(hn:l.most=some n){P:Params}{h:Heap}{args:List WData}{vals:List Value}
  (hpre:l.row.toRowW.claim.pre args=true) (hwl:WellAll P h vals args) :
  ∃a vs ns,vals= [Value.ref a]/\args= [WData.list (ns.map WData.int)]/\h.get? a=some { cls:= .type "list",data:= .seq vs.toArray }/\IntsAre vs ns/\ns.length<=n:=by
 have hsh:WShape.hasAll [] args [.list .int]=true:=(pre_splitW hpre).1
 have hc:l.pre.holds [] { args:=args }=true:=(pre_splitW hpre).2
 obtain⟨d,r,rfl,h1,h2⟩:=hasAllW_cons hsh
 obtain rfl:=hasAllW_nil h2
 obtain⟨xs,rfl,h3⟩:=hasW_list h1
 obtain⟨ns,rfl⟩:=items_int h3
 have hlen:ns.length<=n:=by
  unfold OpenLaw.pre at hc
  have h4:(WTm.not (.lt (.lit (.int (n:Int))) (.len (.arg 0)))).holds [] { args:=[.list (ns.map .int)] }=true:=by
   have h4:=(holds_andW hc).1
   rw[hn]at h4
   exact h4
  have h5:=condW_of h4 (w_not (w_lt w_lit (w_len_list (w_arg rfl))))
  rw[Ya]at h5
  refine Nat.le_of_not_lt fun q=>?_
  have q':(n:Int)<((ns.length:Nat):Int):=by omega
  first
   |(rw[Ye q']at h5;exact absurd h5 (by decide))
   |(simp at h5;omega)
 cases hwl with
 | cons w1 w2=>
  cases w2
  cases w1 with
  |list ho hall=>exact⟨_,_,ns,rfl,rfl,ho,pA ns _ hall,hlen⟩
theorem a3E (l:OpenLaw)(args:List WData):l.row.toRowW.claim.post args (.bool true) args=true:=
 postW_of (r:=l.row.toRowW) (X:=(true == true))
  (show WShape.has [] (.bool true) .bool=true by first | rfl | decide | simp[WShape.has,WShape.arms,WShape.armsAll])
  (show (WTm.eq .res (.lit (.bool true))).value [] { args:=args,res:=some (.bool true),after:=args }=some (.bool (true == true)) from w_eq_bool (w_res rfl) w_lit) rfl
theorem attach_call {l:OpenLaw}{n:Nat}{q:Program}{loose:List Str}{XP:(Str->Option Value)->Heap->Prop}{YP:World->Heap->Prop}{d:DefRec}
  (hn:l.most=some n) (hdf:d.params.defaults= [])
  (call:∀(w:World)(s₀ s₁:Shared)(mg mb:Str->Option Value)(fa:Addr)(o:Obj)(pm cd doc:Value)(a:Addr)(vs:List Value)(ns:List Int),
   Ground q loose [] XP w s₀ mg mb s₁.heap->YP w s₁.heap->
   s₁.heap.get? fa=some o->o.data= .func (docDef d.name d.params d.body d.scope pm cd doc)->s₁.heap.CodeRec cd d.name->mg d.name=some (.ref fa)->
   s₁.heap.get? a=some { cls:= .type "list",data:= .seq vs.toArray }->IntsAre vs ns->ns.length<=n->s₁.gens=#[]->
   codeAny (model l.prog w) callerA (.call (.ref fa) ⟨[.ref a], []⟩) (fun r s'=>r= .ok (.ret (.bool true))/\OldK s₁.heap s'.heap/\s'.os=s₁.os/\AllBare s'.gens) s₁) :
  WalkO q loose XP YP l.row.toRowW d [] (fun f vs=>PySem.call f vs):=by
 intro w s₀ s₁ mg mb G Y fa o pm cd doc dV kV ho hd hcd hD hmg hg args vals as hpre hlay hrd hwl hlo
 obtain rfl:dV= .none:=Dflts.none hD hdf
 obtain rfl:kV= .none:=Dflts.noKw hD
 obtain⟨a,vs,ns,rfl,rfl,hobj,hints,hlen⟩:=a3B hn hpre hwl
 refine enter_call (Ji (call w s₀ s₁ mg mb fa o pm cd doc a vs ns G Y ho (fd_plain hd) hcd hmg hobj hints hlen hg) fun r s' hq=>?_)
 obtain⟨rfl,h2,h3,h4⟩:=hq
 exact⟨.inl ⟨.bool true,.bool true, [],rfl,fun _=>rfl,.bool true,a3E l _,fun _=>⟨List.Pairwise.nil,fun _ hm=>(nomatch hm)⟩⟩,h2,h3,h4⟩
section
variable {prog:Program}{w:World}{A:Around}{E:Value->Shared->Prop}{s:Shared}{K:Frag}
end
end Att
namespace L2
open PySem PySem.Spec PyProof.Rows
variable {X:Cx}{A:Around}{n:Nat}{B:Prop}{H:Hp}{K:W.Frag}{a:Nat}{i:Int}{z:Int}{e:Expr}{r:R2}{x:V}{es:List Expr}{t:TA}{pos:Pos}{scope:Scope}{env:Env}{y:Str}{s:Shared}{N:List Str}{ix:List Nat}{P:Program}{w:World}{mg:Str->Option Value}{base:Heap}{outer:List Env}{f:Addr}{E:XK}{C:Addr}
theorem rT:∀{vs:List Value}{ns:List Int},IntsAre vs ns->Vals (ns.map V.int) vs
 |_,_,.nil=> .nil
 |_,_,.cons n t h=> .cons ⟨t,rfl⟩ (rT h)
def lN (s:Stmt):Arguments:=match s with
 |.FunctionDef _ a _ _ _ _ _ _ _ _=>a
 |_=>{ posonlyargs:=[],args:=[],vararg:=none,kwonlyargs:=[],kw_defaults:=[],kwarg:=none,defaults:=[] }
def gR (s:Stmt):List Stmt:=match s with
 |.FunctionDef _ _ b _ _ _ _ _ _ _=>b
 |_=>[]
def bY (s:Stmt):Scope:=match s with
 |.FunctionDef _ _ _ _ _ _ sc _ _ _=>sc
 |_=>{ kind:= .function,names:=[],isGenerator:=false,isCoroutine:=false }
abbrev CX0:CXT:=fun _ _ _ _ _ _=>False
abbrev E0:XK:=fun _ _ _=>False
theorem aK:fP CX0 X E0:=fun _ _ _ _ _ _ _ h=>h.elim
structure Fun (K:W.Frag)(x qual:Str)(st:Stmt)(f:Addr)(fd:FuncData):Prop where
 ex :∃(oc:Value)(od:Option Addr)(kV doc pm:Value)(an:Option Addr)(cdv ct:Value)(osl:Array (Option Value)),
  fd=W.fnOf x qual (lN st) (gR st) (bY st) .none kV doc pm an cdv ct/\K.lookup f=some ⟨oc,od,.func fd,osl⟩/\W.codeIn K cdv qual=true
 kp:W.keepIn K (.ref f)=true
section
theorem Fun.ok {x qual:Str}{st:Stmt}{f:Addr}{fd:FuncData}{N ps:List Str}{k:Nat}{sp:Sp}(F:Fun K x qual st f fd)(S:gY N ps (bY st))(len:∀vs H Q E,sp vs H Q E->vs.length=ps.length)
  (hbody:∀(cdv:Value)(A:Around)(outer:List Env)(s:Shared)(H:Hp)(vs:List V)(Q:VK)(E:XK),dR k (A.deeper (envOfC qual (bY st) s.heap.objs.size f cdv))->sp vs H Q E->
   ∃t,PSs (uP CX0 P w K mg base N qual (bY st) f cdv A outer s H E).nox (gR st) t/\t { nx:=fun _ H'=>Q .non H',rt:=Q } (start N vs) H):fQ P w K mg base CX0 (k+1) f fd ps sp:=by
 obtain⟨oc,od,kV,doc,pm,an,cdv,ct,osl,rfl,lk,hcd⟩:=F.ex
 refine c0Y lk hcd S len fun A outer s H vs Q E hr hsp=>?_
 obtain⟨t,h,q⟩:=hbody cdv A outer s H vs Q E hr hsp
 exact⟨t,h.nox,q⟩
theorem Fun.binds {x qual:Str}{st:Stmt}{f:Addr}{fd:FuncData}{ps:List Str}(F:Fun K x qual st f fd)
  (h:∀(kV doc pm:Value)(an:Option Addr)(cdv ct:Value)(us:List Value),us.length=ps.length->bindArgs (W.fnOf x qual (lN st) (gR st) (bY st) .none kV doc pm an cdv ct) ⟨us, []⟩=pure (ps.zip us)):Binds K fd ps []:=by
 obtain⟨oc,od,kV,doc,pm,an,cdv,ct,osl,rfl,lk,hcd⟩:=F.ex
 exact .all (h kV doc pm an cdv ct)
theorem zJ {x qual:Str}{st:Stmt}{f:Addr}{oc:Value}{od an:Option Addr}{osl:Array (Option Value)}{kV doc pm cdv ct:Value}(l:K.lookup f=some ⟨oc,od,.func (W.fnOf x qual (lN st) (gR st) (bY st) .none kV doc pm an cdv ct),osl⟩)
  (c:W.codeIn K cdv qual=true) (k:W.keepIn K (.ref f)=true):Fun K x qual st f (W.fnOf x qual (lN st) (gR st) (bY st) .none kV doc pm an cdv ct):=⟨⟨oc,od,kV,doc,pm,an,cdv,ct,osl,rfl,l,c⟩,k⟩
end
theorem b4E {k:Nat}(hr:dR k A):A.units+1<cLine:=Je (Nat.add_le_add_left (by decide:1<=64) _) hr.units
theorem sE (h:n<=1000):n<sizeLine:=Je h (by decide)
section
theorem pv (i:Nat){x:Str}{pos:Pos}(hN:X.N[i]? =some x:=by rfl)(hv:Vis X.env.scope x:=by first | exact Or.inl rfl | exact Or.inr (Or.inl rfl) | exact Or.inr (Or.inr rfl))(hd:(x == ("__debug__":Str))=false:=by decide)
  (hcd:(x == ("__classdict__":Str))=false:=by decide):PE X (.Name x pos) (b5A i):=a7C hN hv hd hcd
end
theorem yZ {A:Prop}(h:B):if false=true then A else B:=by
 rw[if_neg Yq]
 exact h
theorem bL {c A:Prop}[Decidable c](h1:c->A)(h2:¬ c->B):if c then A else B:=by
 by_cases h:c
 ·rw[if_pos h]
  exact h1 h
 ·rw[if_neg h]
  exact h2 h
theorem a1K {c A:Prop}[Decidable c](hc:c)(h:B):if (!decide c)=true then A else B:=by
 rw[Ye hc]
 exact yZ h
def Same (H H':Hp):Prop:=∀b o,H b=some o->H' b=some o
theorem Same.refl (H:Hp):Same H H:=fun _ _ h=>h
theorem Same.trans {H1 H2:Hp}(a:Same H H1)(b:Same H1 H2):Same H H2:=fun c o h=>b c o (a c o h)
theorem Same.seq {H':Hp}{a:Addr}{xs:List V}(e:Same H H')(h:SqL K H a xs):SqL K H' a xs:=by
 rcases h with (h | ⟨o,h⟩) | h
 ·exact .inl (.inl (e _ _ h))
 ·exact .inl (.inr ⟨o,e _ _ h⟩)
 ·exact .inr h
theorem cY:bootBuiltins "len"=some (.builtin "len"):=by decide +kernel
theorem zO:bootBuiltins "min"=some (.builtin "min"):=by decide +kernel
theorem b8E:bootBuiltins "max"=some (.builtin "max"):=by decide +kernel
theorem b8D:bootBuiltins "sum"=some (.builtin "sum"):=by decide +kernel
theorem rP:bootBuiltins "isinstance"=some (.builtin "isinstance"):=by decide +kernel
theorem iR:bootBuiltins "list"=some (.type "list"):=by decide +kernel
theorem b8F:bootBuiltins "int"=some (.type "int"):=by decide +kernel
theorem rA (a:Nat):Builtin.Int.intBits (a:Int)=if a=0 then 0 else a.log2+1:=by
 unfold Builtin.Int.intBits
 by_cases h:a=0
 ·subst h;rfl
 ·have h':¬ ((a:Int) == 0)=true:=by
   intro q
   have:=XH.mp q
   omega
  rw[if_neg h',if_neg h]
  rfl
theorem bits_le (h:a<2 ^ n):Builtin.Int.intBits (a:Int)<=n:=by
 rw[rA]
 split
 ·exact Xu _
 ·rename_i h0
  exact(Nat.log2_lt h0).mpr h
theorem b2U (a:Nat):a<2 ^ Builtin.Int.intBits (a:Int):=by
 rw[rA]
 split
 ·rename_i h;subst h;exact Nat.one_pos
 ·exact Nat.lt_log2_self
theorem rB (h:i.natAbs<2 ^ n):Builtin.Int.intBits i<=n:=by
 unfold Builtin.Int.intBits
 split
 ·exact Xu _
 ·rename_i h0
  have h1:i.natAbs≠0:=by
   intro q
   apply h0
   have:i=0:=by omega
   subst this;rfl
  exact(Nat.log2_lt h1).mpr h
theorem zQ:∀(n a b:Nat),a<2 ^ n->b<2 ^ n->a+b=(a ^^^ b)+2*(a &&& b):=by
  intro n
  induction n with
  | zero => intro a b ha hb;have:a=0:=by simpa using ha
            have:b=0:=by simpa using hb
            subst_vars;rfl
  | succ n ih=>
    intro a b ha hb
    have e:=ih (a / 2) (b / 2) (by omega) (by omega)
    have x1:(a ^^^ b) / 2=a / 2 ^^^ b / 2:=Nat.xor_div_two
    have x2:(a &&& b) / 2=a / 2 &&& b / 2:=Nat.and_div_two
    rw[<-x1,<-x2]at e
    have y1:(a ^^^ b) % 2=(a % 2+b % 2) % 2:=by
      have:=Nat.xor_mod_two_eq_one (a:=a) (b:=b)
      omega
    have y2:(a &&& b) % 2=(a % 2)*(b % 2):=by
      have:=Nat.and_mod_two_pow (a:=a) (b:=b) (n:=1)
      rcases XR a with h | h <;> rcases XR b with h' | h' <;> simp[h,h']at this ⊢ <;> omega
    have z1:=Nat.div_add_mod (a ^^^ b) 2
    have z2:=Nat.div_add_mod (a &&& b) 2
    rcases XR a with h | h <;> rcases XR b with h' | h' <;> rw[h,h']at y1 y2 <;> omega
theorem a9W {b:Nat}(ha:a<2 ^ (n+1))(hb:b<2 ^ (n+1))(ha':2 ^ n<=a)(hb':2 ^ n<=b):a ^^^ b<2 ^ n:=by
 apply Nat.lt_pow_two_of_testBit
 intro i hi
 rw[XW]
 by_cases e:i=n
 ·subst e
  have h1:a.testBit i=true:=by
   rw[Y2]
   have:a / 2 ^ i=1:=by
    apply X9
    ·simpa using ha'
    ·rw[XI]at ha;omega
   rw[this];rfl
  have h2:b.testBit i=true:=by
   rw[Y2]
   have:b / 2 ^ i=1:=by
    apply X9
    ·simpa using hb'
    ·rw[XI]at hb;omega
   rw[this];rfl
  rw[h1,h2];rfl
 ·have h1:a.testBit i=false:=Xa (Yj ha (Yy (by decide) (by omega)))
  have h2:b.testBit i=false:=Xa (Yj hb (Yy (by decide) (by omega)))
  rw[h1,h2];rfl
theorem band (a b:Nat):Builtin.bitAnd (a:Int) (b:Int)=((a &&& b:Nat):Int):=by
 rw[PyProof.Rows.bitAnd_pp (by omega) (by omega)];rfl
theorem bxor (a b:Nat):Builtin.bitXor (a:Int) (b:Int)=((a ^^^ b:Nat):Int):=by
 have h:=zQ (a+b) a b (Je (Nat.le_add_right a b) Nat.lt_two_pow_self) (Je (Nat.le_add_left b a) Nat.lt_two_pow_self)
 unfold Builtin.bitXor
 rw[PyProof.Rows.bitOr_and,band]
 omega
theorem qI (k:Nat):(2:Int) ^ ((k:Int)).toNat=((2 ^ k:Nat):Int):=by
 rw[YB];simp
theorem c3B (a k:Nat):(a:Int)*2 ^ ((k:Int)).toNat=((a <<< k:Nat):Int):=by
 rw[qI,Xl];simp
theorem c3A (a k:Nat):(a:Int) / 2 ^ ((k:Int)).toNat=((a >>> k:Nat):Int):=by
 rw[qI,Nat.shiftRight_eq_div_pow];rfl
theorem bit_at (b k:Nat):(((b >>> k:Nat) &&& 1:Nat):Int)=1↔b.testBit k=true:=by
 unfold Nat.testBit
 rw[Nat.and_comm]
 have h:1 &&& b >>> k=(b >>> k) % 2:=by rw[Nat.and_comm];exact Nat.and_one_is_mod _
 rw[h]
 have:(b >>> k) % 2=0\/(b >>> k) % 2=1:=by omega
 rcases this with h | h <;> rw[h] <;> decide
section
def rN (C:Nat->Nat->Prop)(g:Nat->Nat->Nat):R2:=fun x y H Q=>∃a b:Nat,x= .int a/\y= .int b/\C a b/\Q (.int ((g a b:Nat):Int)) H
theorem opN {f:Value->Value->Sem Value}{C:Nat->Nat->Prop}{g:Nat->Nat->Nat}
  (rule:∀(i j:Nat)(t u:Tok)(s:Shared)(Q:Value->Shared->Prop)(E:Value->Shared->Prop),C i j->Q (.int ((g i j:Nat):Int) s.toks) { s with toks:=s.toks+1 }->wpAny (model X.prog X.w) X.A (f (.int i t) (.int j u)) Q E s) :
  OpR X f (rN C g):=by
 intro pins s σ H x y v u Q I rx ry h
 obtain⟨i,j,rfl,rfl,hc,q⟩:=h
 obtain⟨t,rfl⟩:=rx
 obtain⟨t',rfl⟩:=ry
 exact rule i j t t' s _ _ hc ⟨.int ((g i j:Nat):Int),H,I.tok _,⟨_,rfl⟩,q⟩
theorem a0T:OpR X (binaryOp .BitXor) (rN (fun _ _=>True) fun a b=>a ^^^ b):=opN fun i j _ _ _ _ _ _ q=>by
 refine xor_int ?_
 rw[bxor];exact q
theorem a0U:OpR X (binaryOp .LShift) (rN (fun a k=>a<2 ^ 4000/\k<=4000) fun a k=>a <<< k):=opN fun a k _ _ _ _ _ hc q=>by
 refine lshift_int (by omega) ?_ ?_
 ·have:=bits_le hc.1
  omega
 ·rw[c3B];exact q
def c1S (i j:Int):Prop:=0<=j/\j<=4000/\i.natAbs<2 ^ 4000
theorem b1S:OpR X (binaryOp .LShift) (rI c1S fun i j=> .int (i*2 ^ j.toNat)):=opI fun i j _ _ _ _ _ hc q=>by
 refine lshift_int hc.1 ?_ q
 have:=rB hc.2.2
 have:=hc.2.1
 omega
def a2G (i j:Int):Prop:=i.natAbs<2 ^ 4000/\j.natAbs<2 ^ 4000
theorem a2G.ok {j:Int}(h:a2G i j):IntMulOk i j:=by
 unfold IntMulOk
 have h1:=rB h.1
 have h2:=rB h.2
 have h3:Builtin.Int.intTooBig ((Builtin.Int.intBits i:Int)+(Builtin.Int.intBits j:Int))=false:=by
  unfold Builtin.Int.intTooBig
  apply Yi
  have:(8000:Int)<=bitsLine:=by decide
  omega
 simp only[h3,Jd]
 decide
theorem b1T:OpR X (binaryOp .Mult) (rI a2G fun i j=> .int (i*j)):=opI fun _ _ _ _ _ _ _ hc q=>mul_int q hc.ok
theorem c0H:MtR X "int.bit_length" (fun x vs H Q=>∃i,x= .int i/\vs= []/\Q (.int ((Builtin.Int.intBits i:Nat):Int)) H):=by
 intro pins s σ H x xs v us Q I rx rv h
 obtain⟨i,rfl,rfl,q⟩:=h
 obtain⟨t,rfl⟩:=rx
 cases rv
 exact call_int_bit_length ⟨.int _,H,I.tok _,⟨_,rfl⟩,q⟩
def b8C:V->Option Value
 |.ref a=>some (.ref a)
 |.ty n=>some (.type n)
 |_=>none
theorem b2T {c:V}{cv u:Value}(e:b8C c=some cv)(r:RelV c u):u=cv:=by
 cases c <;> simp only[b8C]at e <;> first | (cases e;exact r) | cases e
theorem a9K:fH X (.builtin "isinstance") (fun xs H Q=>∃x c cv t b,xs= [x,c]/\b8C c=some cv/\nO X.K H x t/\W.kitOne X.K t cv=some b/\Q (.bl b) H):=by
 intro pins s σ H xs us Q I rv h
 obtain⟨x,c,cv,t,b,rfl,ec,ty,e,q⟩:=h
 obtain⟨u,v,rfl,rx,rc⟩:=rv.two
 cases b2T ec rc
 exact a3W I rx ty e fun tk=>⟨.bl b,H,I.tok _,rfl,q⟩
end
section
theorem rM:W.kitOne K (.type "list") (.type "list")=some true:=by rfl
end
section
variable {te:TE}{st:Stmt}{ts:TS}
def c2H (t:TE):TE:=fun σ H Q=>∃P:VK,t σ H P/\∀x H',P x H'->Q x H'
theorem bT (h:PE X e te):PE X e (c2H te):=by
 intro pins s σ H Q I hw
 obtain⟨P,h1,h2⟩:=hw
 exact thn (h pins s σ H P I h1) fun v s1 ⟨x,H1,I1,r,q⟩=>⟨x,H1,I1,r,h2 x H1 q⟩
def b9I (t:TS):TS:=fun D σ H=>∃N:St->Hp->Prop,t { D with nx:=N } σ H/\∀σ' H',N σ' H'->D.nx σ' H'
theorem kW (h:PS X st ts):PS X st (b9I ts):=by
 intro pins s σ H D I hw
 obtain⟨N,h1,h2⟩:=hw
 refine thn (h pins s σ H { D with nx:=N } I h1) fun f s1 q=>?_
 cases f with
 |next=>obtain⟨σ',H',I',q⟩:=q;exact⟨σ',H',I',h2 σ' H' q⟩
 |ret v=>exact q
 |brk=>exact q
 |cont=>exact q
end
theorem dec_true {p:Prop}[Decidable p](h:decide p=true):p:=YK h
theorem dec_false {p:Prop}[Decidable p](h:¬ decide p=true):¬ p:=fun q=>h (Ye q)
theorem a3I (h0:0<=z)(h1:z<2 ^ n):z.natAbs<2 ^ n:=by
 obtain⟨k,rfl⟩:=YX h0
 have:(k:Int)<((2 ^ n:Nat):Int):=by simpa using h1
 omega
theorem rD (h:z.natAbs<2 ^ n)(hn:n<=4000:=by decide):z.natAbs<2 ^ 4000:=Yj h (Yy (by decide) hn)
theorem iU (h0: -18446744073709551616<z)(h1:z<18446744073709551616):z.natAbs<2 ^ 4000:=rD (n:=64) (by omega)
theorem xY {b:Nat}(h:a<=b):(2:Int) ^ a<=2 ^ b:=by
 have:=Yy (n:=2) (by decide) h
 exact_mod_cast this
theorem a8F (h:a<2 ^ n)(hn:n<=4000:=by decide):a<2 ^ 4000:=Yj h (Yy (by decide) hn)
theorem b8K {ns:List Int}{k:Int}(h:0<ns.length):∃v:Int,atI (ns.map V.int) (k % (((ns.map V.int).length:Nat):Int))=some (.int v):=by
 rw[Ya]
 have h0:0<=k % ((ns.length:Nat):Int):=X7 _ (by omega)
 have h1:k % ((ns.length:Nat):Int)<((ns.length:Nat):Int):=X0 _ (by omega)
 generalize k % ((ns.length:Nat):Int)=j at h0 h1
 have hk:j.toNat<ns.length:=by omega
 refine⟨ns[j.toNat],?_⟩
 have q:atI (ns.map V.int) ((j.toNat:Nat):Int)=some (.int ns[j.toNat]):=fB (by rw[Yl,Yb hk] <;> rfl)
 have e:((j.toNat:Nat):Int)=j:=by omega
 rw[e]at q
 exact q
def b5S (K:W.Frag):Sp:=fun vs H Q _=>∃(a:Addr)(ns:List Int)(k m:Int),vs= [.ref a,.int k,.int m]/\SqL K H a (ns.map V.int)/\ns.length<=63/\0<=k/\k<=100000/\0<m/\∀d:Int,0<=d->d<m->Q (.int d) H
section
variable {M:Model}{E:Value->Shared->Prop}{B:Heap}{l:List Env}{L e:Addr}{k a0:Value}{od:Option Addr}
end
section
variable {qual:Str}{cd:Value}
end
section
variable {qual:Str}{cd:Value}
end
section
variable {tx:St->Hp->VK->XK->Prop}{p1 np hpos:Pos}{n:Str}{i:Nat}{b₀:Stmt}{suite:List Stmt}{ts:TS}
end
section
variable {CX:CXT}{k:Nat}{fd:FuncData}{ps:List Str}{sp:Sp}{dvs:List V}{ds:List Value}{x m:Str}{p apos:Pos}{o:Expr}{ta:TE}
end
section
end
theorem PE.imp {t t':TE}(h:PE X e t)(i:∀σ H Q,t' σ H Q->t σ H Q):PE X e t':=fun pins s σ H Q I q=>h pins s σ H Q I (i σ H Q q)
theorem PS.imp {e:Stmt}{t t':TS}(h:PS X e t)(i:∀D σ H,t' D σ H->t D σ H):PS X e t':=fun pins s σ H D I q=>h pins s σ H D I (i D σ H q)
theorem OpR.imp {f:Value->Value->Sem Value}{r':R2}(h:OpR X f r)(i:∀x y H Q,r' x y H Q->r x y H Q):OpR X f r':=fun pins s σ H x y v u Q I rx ry q=>h pins s σ H x y v u Q I rx ry (i x y H Q q)
theorem UnR.imp {f:Value->Sem Value}{r r':V->Hp->VK->Prop}(h:UnR X f r)(i:∀x H Q,r' x H Q->r x H Q):UnR X f r':=fun pins s σ H x v Q I rx q=>h pins s σ H x v Q I rx (i x H Q q)
theorem fH.imp {f:Value}{r r':List V->Hp->VK->Prop}(h:fH X f r)(i:∀xs H Q,r' xs H Q->r xs H Q):fH X f r':=fun pins s σ H xs us Q I rv q=>h pins s σ H xs us Q I rv (i xs H Q q)
theorem IxR.imp {r':R2}(h:IxR X r)(i:∀x y H Q,r' x y H Q->r x y H Q):IxR X r':=fun va sl pins s σ H x y v u Q I rx ry q hs=>h va sl pins s σ H x y v u Q I rx ry (i x y H Q q) hs
def oV (o:Option (Option V))(k:V->Prop):Prop:=@Option.rec (Option V) (fun _=>Prop) False (fun o=>@Option.rec V (fun _=>Prop) False k o) o
def vI (x:V)(k:Int->Prop):Prop:=@V.rec (fun _=>Prop) False (fun _=>False) k (fun _=>False) (fun _=>False) (fun _=>False) (fun _=>False) (fun _=>False) x
def vB (x:V)(k:Bool->Prop):Prop:=@V.rec (fun _=>Prop) False k (fun _=>False) (fun _=>False) (fun _=>False) (fun _=>False) (fun _=>False) (fun _=>False) x
def vR (x:V)(k:Addr->Prop):Prop:=@V.rec (fun _=>Prop) False (fun _=>False) (fun _=>False) (fun _=>False) (fun _=>False) (fun _=>False) k (fun _=>False) x
def l1 (vs:List V)(k:V->Prop):Prop:=@List.rec V (fun _=>Prop) False (fun x r _=>@List.rec V (fun _=>Prop) (k x) (fun _ _ _=>False) r) vs
def l2 (vs:List V)(k:V->V->Prop):Prop:=@List.rec V (fun _=>Prop) False (fun x r _=>l1 r fun y=>k x y) vs
theorem oV.ex {o:Option (Option V)}{k:V->Prop}(h:oV o k):∃v,o=some (some v)/\k v:=by
 cases o with
 |none=>exact h.elim
 | some o=>cases o with
  |none=>exact h.elim
  |some v=>exact⟨v,rfl,h⟩
theorem vI.ex {k:Int->Prop}(h:vI x k):∃i,x= .int i/\k i:=by
 cases x with
 |int i=>exact⟨i,rfl,h⟩
 |_=>exact h.elim
theorem vB.ex {k:Bool->Prop}(h:vB x k):∃i,x= .bl i/\k i:=by
 cases x with
 |bl i=>exact⟨i,rfl,h⟩
 |_=>exact h.elim
theorem vR.ex {k:Addr->Prop}(h:vR x k):∃i,x= .ref i/\k i:=by
 cases x with
 |ref i=>exact⟨i,rfl,h⟩
 |_=>exact h.elim
theorem l1.ex {vs:List V}{k:V->Prop}(h:l1 vs k):∃x,vs= [x]/\k x:=by
 match vs,h with
 |[x],h=>exact⟨x,rfl,h⟩
theorem l2.ex {vs:List V}{k:V->V->Prop}(h:l2 vs k):∃x y,vs= [x,y]/\k x y:=by
 match vs,h with
 |[x,y],h=>exact⟨x,y,rfl,h⟩
def c3O (i:Nat):TE:=fun σ H Q=>oV σ[i]? fun v=>Q v H
section
theorem dv (i:Nat){x:Str}{pos:Pos}(hN:X.N[i]? =some x:=by rfl)(hv:Vis X.env.scope x:=by first | exact Or.inl rfl | exact Or.inr (Or.inl rfl) | exact Or.inr (Or.inr rfl))(hd:(x == ("__debug__":Str))=false:=by decide)
  (hcd:(x == ("__classdict__":Str))=false:=by decide):PE X (.Name x pos) (c3O i):=(a7C hN hv hd hcd).imp fun σ H Q h=>h.ex
def mI (C:Int->Int->Prop)(g:Int->Int->V):R2:=fun x y H Q=>vI x fun i=>vI y fun j=>C i j/\Q (g i j) H
def mI0 (g:Int->Int->V):R2:=fun x y H Q=>vI x fun i=>vI y fun j=>Q (g i j) H
theorem mI.to {C:Int->Int->Prop}{g:Int->Int->V}:∀x y H Q,mI C g x y H Q->rI C g x y H Q:=fun x y H Q h=>by
 obtain⟨i,rfl,h1⟩:=vI.ex h
 clear h
 obtain⟨j,rfl,h⟩:=vI.ex h1
 exact⟨_,_,rfl,rfl,h.1,h.2⟩
theorem mI0.to {g:Int->Int->V}:∀x y H Q,mI0 g x y H Q->rI0 g x y H Q:=fun x y H Q h=>by
 obtain⟨i,rfl,h1⟩:=vI.ex h
 clear h
 obtain⟨j,rfl,h⟩:=vI.ex h1
 exact⟨_,_,rfl,rfl,h⟩
def mU (g:Int->V):V->Hp->VK->Prop:=fun x H Q=>vI x fun i=>Q (g i) H
theorem mU.to {g:Int->V}:∀x H Q,mU g x H Q->rU g x H Q:=fun x H Q h=>vI.ex h
theorem cG:OpR X (binaryOp .Add) (mI0 fun i j=> .int (i+j)):=b6Q.imp mI0.to
theorem gZ:OpR X (binaryOp .Sub) (mI0 fun i j=> .int (i-j)):=b6J.imp mI0.to
theorem jB:OpR X (binaryOp .Mult) (mI a2G fun i j=> .int (i*j)):=b1T.imp mI.to
theorem a4T:OpR X (binaryOp .FloorDiv) (mI c1T fun i j=> .int (i / j)):=b1U.imp mI.to
theorem oM:OpR X (binaryOp .Mod) (mI (fun _ j=>0<j) fun i j=> .int (i % j)):=b6M.imp mI.to
theorem b8U:OpR X (binaryOp .LShift) (mI c1S fun i j=> .int (i*2 ^ j.toNat)):=b1S.imp mI.to
theorem a0B:OpR X (binaryOp .RShift) (mI (fun _ j=>0<=j) fun i j=> .int (i / 2 ^ j.toNat)):=b6K.imp mI.to
theorem a0E:OpR X (binaryOp .BitAnd) (mI0 fun i j=> .int (Builtin.bitAnd i j)):=b6P.imp mI0.to
theorem b8S:OpR X (binaryOp .BitXor) (mI0 fun i j=> .int (Builtin.bitXor i j)):=b6I.imp mI0.to
theorem a0D:UnR X (unaryOp .USub) (mU fun i=> .int (-i)):=b4X.imp mU.to
theorem xV:OpR X (compareOp .Lt) (mI0 fun i j=> .bl (decide (i<j))):=b9Y.imp mI0.to
theorem pW:OpR X (compareOp .LtE) (mI0 fun i j=> .bl (decide (i<=j))):=b9Z.imp mI0.to
theorem tV:OpR X (compareOp .Gt) (mI0 fun i j=> .bl (decide (j<i))):=c0A.imp mI0.to
theorem a4S:OpR X (compareOp .GtE) (mI0 fun i j=> .bl (decide (j<=i))):=c0B.imp mI0.to
theorem dI {j:Int}:decide (V.int i=V.int j)=decide (i=j):=by
 by_cases h:i=j
 ·rw[Ye h,Ye (YT V.int h)]
 ·rw[Yi h,Yi fun z=>h (V.int.inj z)]
theorem dS {i j:Str}:decide (V.str i=V.str j)=decide (i=j):=by
 by_cases h:i=j
 ·rw[Ye h,Ye (YT V.str h)]
 ·rw[Yi h,Yi fun z=>h (V.str.inj z)]
theorem dB {i j:Bool}:decide (V.bl i=V.bl j)=decide (i=j):=by
 by_cases h:i=j
 ·rw[Ye h,Ye (YT V.bl h)]
 ·rw[Yi h,Yi fun z=>h (V.bl.inj z)]
def eqW (f:Bool->Prop)(x y:V):Prop:=@V.rec (fun _=>Prop)
 (@V.rec (fun _=>Prop) (f true) (fun _=>False) (fun _=>f false) (fun _=>f false) (fun _=>False) (fun _=>False) (fun _=>False) (fun _=>False) y)
 (fun i=>@V.rec (fun _=>Prop) False (fun j=>f (decide (i=j))) (fun _=>False) (fun _=>False) (fun _=>False) (fun _=>False) (fun _=>False) (fun _=>False) y)
 (fun i=>@V.rec (fun _=>Prop) (f false) (fun _=>False) (fun j=>f (decide (i=j))) (fun _=>f false) (fun _=>False) (fun _=>False) (fun _=>False) (fun _=>False) y)
 (fun i=>@V.rec (fun _=>Prop) (f false) (fun _=>False) (fun _=>f false) (fun j=>f (decide (i=j))) (fun _=>False) (fun _=>False) (fun _=>False) (fun _=>False) y)
 (fun _=>False) (fun _=>False) (fun _=>False) (fun _=>False) x
theorem eqW.ex {f:Bool->Prop}{y:V}(h:eqW f x y):b5V x y=true/\f (decide (x=y)):=by
 cases x with
 |non=>cases y <;> first | exact h.elim | exact⟨rfl,h⟩
 |bl i=>cases y <;> first | exact h.elim | (exact⟨rfl,by rw[dB];exact h⟩)
 |int i=>cases y <;> first | exact h.elim | exact⟨rfl,h⟩ | (exact⟨rfl,by rw[dI];exact h⟩)
 |str i=>cases y <;> first | exact h.elim | exact⟨rfl,h⟩ | (exact⟨rfl,by rw[dS];exact h⟩)
 |_=>exact h.elim
def mEq:R2:=fun x y H Q=>eqW (fun b=>Q (.bl b) H) x y
def mNe:R2:=fun x y H Q=>eqW (fun b=>Q (.bl (!b)) H) x y
theorem cV:OpR X (compareOp .Eq) mEq:=c0C.imp fun x y H Q h=>eqW.ex (f:=fun b=>Q (.bl b) H) h
theorem rH:OpR X (compareOp .NotEq) mNe:=b9X.imp fun x y H Q h=>eqW.ex (f:=fun b=>Q (.bl (!b)) H) h
def vN (x:V)(k:Prop):Prop:=@V.rec (fun _=>Prop) k (fun _=>False) (fun _=>False) (fun _=>False) (fun _=>False) (fun _=>False) (fun _=>False) (fun _=>False) x
theorem vN.ex {k:Prop}(h:vN x k):x= .non/\k:=by
 cases x with
 |non=>exact⟨rfl,h⟩
 |_=>exact h.elim
def c2V:R2:=fun x y H Q=>vN y (Q (.bl (decide (x= .non))) H)
theorem b3A:OpR X (compareOp .Is) c2V:=b6N.imp fun x y H Q h=>vN.ex h
section
variable {a b c:Expr}{ta tb tc:TE}{rest:List Expr}
theorem nR {k:Bool->Prop}:vB x k=∃i,x= .bl i/\k i:=propext ⟨vB.ex,fun ⟨i,e,h⟩=>by subst e;exact h⟩
def qX (t:TE):TT:=fun σ H Q=>t σ H fun x H'=>vB x fun k=>Q k H'
theorem xH (t:TE):qX t=a0J t:=by
 funext σ H Q
 unfold qX a0J
 simp only[nR]
theorem a4H (t:TE):qX t=tB t:=by
 funext σ H Q
 unfold qX tB
 simp only[nR]
theorem aW {op:CmpOp}(ho:OpR X (compareOp op) r)(ha:PE X a ta)(hb:PE X b tb)(hm:behindInMarks op b=false):PT X (.Compare a [op] [b] pos) (qX (tOp r ta tb)):=by
 rw[xH];exact b1F ho ha hb hm
theorem cP {t:TE}(h:PE X e t)(he:∀whole,isTrue e X.env whole=(do let v<-whole;standAt e.pos;holding [v] (truthy v)):=by intro _;rfl):PT X e (qX t):=by
 rw[a4H];exact b5Z h he
def b8B (ta tb:TE):TE:=fun σ H Q=>ta σ H fun x H1=>vB x fun c=>if c=true then tb σ H1 Q else Q (.bl false) H1
def dOr (ta tb:TE):TE:=fun σ H Q=>ta σ H fun x H1=>vB x fun c=>if c=true then Q (.bl true) H1 else tb σ H1 Q
def b7X (ta:TE):TE:=fun σ H Q=>ta σ H fun x H1=>vB x fun c=>Q (.bl (!c)) H1
theorem b2R:b8B ta tb=a5F ta tb:=by
 funext σ H Q
 unfold b8B a5F
 simp only[nR]
theorem b7W:dOr ta tb=b5B ta tb:=by
 funext σ H Q
 unfold dOr b5B
 simp only[nR]
theorem b2O:b7X ta=a5E ta:=by
 funext σ H Q
 unfold b7X a5E
 simp only[nR]
theorem a8A (ha:PE X a ta)(hb:PE X (.BoolOp .And (b::rest) pos) tb):PE X (.BoolOp .And (a::b::rest) pos) (b8B ta tb):=by
 rw[b2R];exact b6G ha hb
theorem b4C (ha:PE X a ta)(hb:PE X (.BoolOp .Or (b::rest) pos) tb):PE X (.BoolOp .Or (a::b::rest) pos) (dOr ta tb):=by
 rw[b7W];exact b9W ha hb
theorem b7A (ha:PE X a ta):PE X (.UnaryOp .Not a pos) (b7X ta):=by
 rw[b2O];exact b6E ha
end
def SqA (K:W.Frag)(H:Hp)(a:Addr)(xs:List V):Prop:=SqL K H a xs\/SqT K H a xs
def c2U (K:W.Frag):R2:=fun x y H Q=>vR x fun p=>vI y fun i=>∃xs v,SqL K H p xs/\atI xs i=some v/\Q v H
def c0M (K:W.Frag):R2:=fun x y H Q=>vR x fun p=>vI y fun i=>∃xs v,SqT K H p xs/\atI xs i=some v/\Q v H
theorem fD:IxR X (c2U X.K):=b2G.imp fun x y H Q h=>by
 obtain⟨p,rfl,h⟩:=vR.ex h
 obtain⟨i,rfl,xs,v,h1,h2,h3⟩:=vI.ex h
 exact⟨_,xs,_,v,rfl,rfl,h1,h2,h3⟩
theorem eE:IxR X (c0M X.K):=b7H.imp fun x y H Q h=>by
 obtain⟨p,rfl,h⟩:=vR.ex h
 obtain⟨i,rfl,xs,v,h1,h2,h3⟩:=vI.ex h
 exact⟨_,xs,_,v,rfl,rfl,h1,h2,h3⟩
def c0L (K:W.Frag):List V->Hp->VK->Prop:=fun xs H Q=>l1 xs fun x=>vR x fun p=>∃ys,SqA K H p ys/\Q (.int ys.length) H
theorem fC:fH X (.builtin "len") (c0L X.K):=uU.imp fun xs H Q h=>by
 obtain⟨x,rfl,h⟩:=l1.ex h
 obtain⟨p,rfl,ys,h1,h2⟩:=vR.ex h
 exact⟨_,ys,rfl,h1,h2⟩
def a1E (K:W.Frag):List V->Hp->VK->Prop:=fun xs H Q=>l1 xs fun x=>vR x fun p=>∃ys,SqA K H p ys/\∀l,H l=none->Q (.ref l) (upd H l (.lst ys))
theorem iB:fH X (.type "list") (a1E X.K):=uT.imp fun xs H Q h=>by
 obtain⟨x,rfl,h⟩:=l1.ex h
 obtain⟨p,rfl,ys,h1,h2⟩:=vR.ex h
 exact⟨_,ys,rfl,h1,h2⟩
def c0K:List V->Hp->VK->Prop:=fun xs H Q=>l2 xs fun x y=>vI x fun i=>vI y fun j=>Q (.int (max i j)) H
theorem b4Q (hc:X.calm=true):fH X (.builtin "max") c0K:=(a4I hc).imp fun xs H Q h=>by
 obtain⟨x,y,rfl,h⟩:=l2.ex h
 obtain⟨i,rfl,h⟩:=vI.ex h
 obtain⟨j,rfl,h⟩:=vI.ex h
 refine⟨_,_,rfl,?_⟩
 have e:(if j > i then j else i)=max i j:=by omega
 rw[e];exact h
def c0R (T:String)(f:V->Hp->VK->Prop):List V->Hp->VK->Prop:=fun xs H Q=>l2 xs fun x c=>c= .ty T/\f x H Q
def a8D:V->Hp->VK->Prop:=fun x H Q=>@V.rec (fun _=>Prop) False (fun _=>False) (fun _=>Q (.bl false) H) (fun _=>Q (.bl false) H) (fun _=>False) (fun _=>False) (fun p=>(∃xs,H p=some (.lst xs))/\Q (.bl true) H) (fun _=>False) x
end
section
theorem uL:W.kitOne K (.type "int") (.type "list")=some false:=by first | rfl | decide +kernel
theorem uK:W.kitOne K (.type "str") (.type "list")=some false:=by first | rfl | decide +kernel
end
section
theorem b7I {T:String}{f:V->Hp->VK->Prop}(h:∀x H Q,f x H Q->∃t b,nO X.K H x t/\W.kitOne X.K t (.type T)=some b/\Q (.bl b) H):fH X (.builtin "isinstance") (c0R T f):=a9K.imp fun xs H Q q=>by
 obtain⟨x,c,rfl,q⟩:=l2.ex q
 obtain⟨ec,q2⟩:=q
 subst ec
 obtain⟨t,b,h1,h2,h3⟩:=h x H Q q2
 exact⟨_,_,_,t,b,rfl,rfl,h1,h2,h3⟩
theorem xW:fH X (.builtin "isinstance") (c0R "list" a8D):=b7I fun x H Q q=>by
 cases x with
 |int i=>exact⟨_,_,.int _,uL,q⟩
 |str i=>exact⟨_,_,.str _,uK,q⟩
 | ref p=>
  obtain⟨⟨xs,hp⟩,q⟩:=q
  exact⟨_,_,.lst hp,rM,q⟩
 |_=>exact q.elim
def b9J (t:TA):TA:=fun σ H Q=>∃P:List V->Hp->Prop,t σ H P/\∀x H',P x H'->Q x H'
theorem nY (h:PA X es t):PA X es (b9J t):=by
 intro pos pins s σ H Q I hw
 obtain⟨P,h1,h2⟩:=hw
 exact thn (h pos pins s σ H P I h1) fun v s1 ⟨x,H1,I1,r,q⟩=>⟨x,H1,I1,r,h2 x H1 q⟩
section
variable {o:Expr}{to:TE}{apos cpos:Pos}
def dBl (to:TE):TE:=fun σ H Q=>to σ H fun x H1=>vI x fun i=>Q (.int ((Builtin.Int.intBits i:Nat):Int)) H1
theorem a1D (ho:PE X o to)(hbase:attributeBase o "bit_length" X.env (eval o X.env)=eval o X.env:=by rfl)(hline:(apos.endLine == cpos.line)=true:=by rfl):
  PE X (.Call (.Attribute o "bit_length" apos) [] [] cpos) (dBl to):=
 (b6F PySem.F.plainAttrs_int PySem.F.slot_int_bit_length PySem.F.type_int_bit_length c0H (bT ho) hbase hline).imp fun σ H Q h=>⟨_,h,fun x H1 q=>by
  obtain⟨i,rfl,q⟩:=vI.ex q
  exact⟨rfl,i,rfl,rfl,q⟩⟩
def b2Q (K:W.Frag)(to:TE)(t:TA):TE:=fun σ H Q=>to σ H fun x H1=>vR x fun l=>(∃xs,SqL K H1 l xs)/\t σ H1 fun vs H2=>l1 vs fun y=>∃xs,H2 l=some (.lst xs)/\xs.length<sizeLine/\Q .non (upd H2 l (.lst (xs++[y])))
theorem cU (ho:PE X o to)(ha:PA X [e] t)(hbase:attributeBase o "append" X.env (eval o X.env)=eval o X.env:=by rfl)
  (hfew:((backTo cpos (starEach [e] X.env)).all (fun x=>!x.1) && (backToKw cpos (keywordEach [] X.env)).all (fun x=>x.1.isSome)
   && decide (([e]:List Expr).length+([]:List Keyword).length+(if ([]:List Keyword).isEmpty then 0 else 1)<30))=true:=by rfl)
  (hline:(apos.endLine == cpos.line)=true:=by rfl) (hs:starEach [e] X.env=(false,eval e X.env)::starEach [] X.env:=by rfl) (hplain:(backTo cpos (starEach [] X.env)).any (·.1)=false:=by rfl) :
  PE X (.Call (.Attribute o "append" apos) [e] [] cpos) (b2Q X.K to t):=
 (a0S X2 PySem.F.slot_list_append PySem.F.type_list_append a3K (bT ho) (nY ha) hbase hfew hline hs hplain).imp fun σ H Q h=>⟨_,h,fun x H1 q=>by
  obtain⟨l,rfl,q1,q2⟩:=vR.ex q
  refine⟨.inl ⟨rfl,q1⟩,_,q2,fun vs H2 q3=>?_⟩
  obtain⟨y,rfl,xs,h1,h2,h3⟩:=l1.ex q3
  exact⟨l,xs,y,rfl,rfl,h1,h2,h3⟩⟩
def c1F (t:TE):TO:=fun σ H Q=>t σ H fun x H1=>vI x fun i=>Q (some i) H1
theorem PO.imp {e:Option Expr}{t t':TO}(h:PO X e t)(i:∀σ H Q,t' σ H Q->t σ H Q):PO X e t':=fun pins s σ H Q I q=>h pins s σ H Q I (i σ H Q q)
theorem jT (h:PE X e to):PO X (some e) (c1F to):=(b1N (bT h)).imp fun σ H Q q=>⟨_,q,fun x H1 z=>vI.ex z⟩
def c0I (K:W.Frag):V->Option Int->Option Int->Hp->VK->Prop:=fun x lo hi H Q=>vR x fun a=>∃xs,SqL K H a xs/\∀p,H p=none->Q (.ref p) (upd H p (.lst (lQ xs lo hi)))
theorem SlR.imp {r r':V->Option Int->Option Int->Hp->VK->Prop}(h:SlR X r)(i:∀x lo hi H Q,r' x lo hi H Q->r x lo hi H Q):SlR X r':=by
 intro pins s σ H x v vl vu lo hi sl Q I rx hs pl pu q
 exact h pins s σ H x v vl vu lo hi sl Q I rx hs pl pu (i _ _ _ _ _ q)
theorem a0A:SlR X (c0I X.K):=b0W.imp fun x lo hi H Q h=>by
 obtain⟨a,rfl,xs,h1,h2⟩:=vR.ex h
 exact⟨_,xs,rfl,h1,h2⟩
variable {tg:Expr}
theorem PI.imp {iter:Expr}{w w':TI}(h:PI X tg iter w)(i:∀σ H R,w' σ H R->w σ H R):PI X tg iter w':=fun pins s σ H R I q=>h pins s σ H R I (i σ H R q)
def c1G (K:W.Frag)(tl:TE):TI:=fun σ H R=>tl σ H fun x H1=>vR x fun a=>(∃xs,SqL K H1 a xs)/\R (Itl K a) H1
theorem cM {l:Expr}{tl:TE}(hl:PE X l tl):PI X tg l (c1G X.K tl):=(b1P (bT hl)).imp fun σ H R h=>⟨_,h,fun x H1 q=>vR.ex q⟩
def c1E (ta:TA):TI:=fun σ H R=>ta σ H fun vs H1=>l1 vs fun x=>vI x fun j=>(-(2 ^ 62)<=j/\j<2 ^ 62)/\R (Itr 0 j.toNat) H1
theorem dO {a:Expr}{ta:TA}{p:Pos}(hg:Gl X "range")(hm:X.mg "range"=none)(ha:PA X [a] ta)(hs:starEach [a] X.env= [(false,eval a X.env)]:=by rfl):PI X tg (.Call (.Name "range" p) [a] [] pos) (c1E ta):=
 (a3F hg hm (nY ha) hs).imp fun σ H R h=>⟨_,h,fun vs H1 q=>by
  obtain⟨x,rfl,q⟩:=l1.ex q
  obtain⟨j,rfl,q⟩:=vI.ex q
  exact⟨j,rfl,q.1.1,q.1.2,q.2⟩⟩
def c0J:V->V->V->Hp->(Hp->Prop)->Prop:=fun o i v H Q=>vR o fun p=>vI i fun k=>∃xs j,H p=some (.lst xs)/\ixN xs.length k=some j/\Q (upd H p (.lst (xs.set j v)))
theorem b4P:b8O X c0J:=fun pins s σ H o i v vo vi vv Q I ro ri rv h=>set_list pins s σ H o i v vo vi vv Q I ro ri rv (by
 obtain⟨p,rfl,h⟩:=vR.ex h
 obtain⟨k,rfl,xs,j,h1,h2,h3⟩:=vI.ex h
 exact⟨_,xs,_,j,rfl,rfl,h1,h2,h3⟩)
end
end
section
variable {M:Model}{E:Value->Shared->Prop}{B:Heap}{l:List Env}{L e:Addr}{k a0 fl:Value}{od:Option Addr}
end
def oZ (N:List Str)(ix:List Nat):List Str:=ix.map fun i=>N.getD i ""
def kI (σ:St)(ix:List Nat):St:=ix.map fun i=>σ.getD i none
def a9I (X:Cx)(scope:Scope)(cl:List (Str×Addr))(C:Addr):Value->Shared->Prop:=notedBy (model X.prog X.w) X.A (compEnvC scope cl C X.env) fun e s'=>
 ∃m,s'.heap.Ns C m/\∀h',Heap.SameBut C s'.heap h'->∀cenv:Env,cenv.locals=C->wpAny (model X.prog X.w) X.A (PySem.passOn "comprehension.variables-let-go" e cenv:Sem Value) (fun _ _=>False) X.xe { s' with heap:=h' }
def cX (X:Cx)(scope:Scope)(cl:List (Str×Addr))(x:Str)(ix:List Nat)(C:Addr)(fp:List Addr)(s₀:Shared)(H₀:Hp):Cx:=
 { X with N:=x::oZ X.N ix,s₀:=s₀,H₀:=H₀,env:=compEnvC scope cl C X.env,outer:=X.stack,ex:=fp,fn:=fun _=>false,pn:=[],xe:=a9I X scope cl C }
structure dY (X:Cx)(scope:Scope)(cl:List (Str×Addr))(x:Str)(ix:List Nat):Prop where
 clos:closureFor scope X.env=pure cl
 kind:scope.kind= .function
 loc:scope.names.lookup x=some .local
 one:∀y∈scope.names,y.2= .local->y.1=x\/y.1=".0"
 locs:∀y∈scope.names,y.2= .local->scope.names.lookup y.1=some .local
 nocell:∀y∈scope.names,y.2≠ .cell
 free:∀y∈scope.names,y.2= .free->(X.env.kindOf y.1=some .cell\/X.env.kindOf y.1=some .free)
 cells:∀y∈scope.names,y.2= .free->∃c,cl.lookup y.1=some c
 same:∀y∈cl,X.env.cells.lookup y.1=some y.2
 nd:((".0":Str)::x::oZ X.N ix).Nodup
theorem lookup_mem {α β:Type}[BEq α][LawfulBEq α]{a:α}{b:β}:∀{l:List (α×β)},l.lookup a=some b->(a,b)∈l
 |[],h=>by simp at h
 | (c,d)::r,h=>by
  rw[Xw]at h
  cases e:a == c with
  | true=>
   rw[e]at h
   cases h
   rw[eq_of_beq e];exact YC
  | false=>
   rw[e]at h
   exact Yw _ (lookup_mem h)
theorem fX {k:NameKind}(h:(relabel scope env).names.lookup y=some k):∃k0,scope.names.lookup y=some k0/\(k=k0\/(k0= .free/\k= .cell)):=by
  have gen :∀(names:List (Str×NameKind)),(names.map fun (n,k)=>if (k == NameKind.free && env.scope.kind == .function && env.kindOf n == some .cell) then (n,NameKind.cell) else (n,k)).lookup y=some k->
      ∃k0,names.lookup y=some k0/\(k=k0\/(k0= .free/\k= .cell)):=by
    intro names
    induction names with
    |nil=>intro h;simp at h
    | cons p r ih=>
      obtain⟨n,k1⟩:=p
      intro h
      rw[YM]at h
      dsimp only at h
      cases hc:(k1 == NameKind.free && env.scope.kind == .function && env.kindOf n == some .cell) with
      | true=>
        rw[hc,if_pos rfl,Xw]at h
        rw[Xw]
        cases e:y == n with
        | true=>
          rw[e]at h
          cases h
          simp only[Y1]at hc
          exact⟨k1,rfl,.inr ⟨eq_of_beq hc.1.1,rfl⟩⟩
        | false=>
          rw[e]at h
          exact ih h
      | false=>
        rw[hc,if_neg Yq,Xw]at h
        rw[Xw]
        cases e:y == n with
        | true=>
          rw[e]at h
          cases h
          exact⟨k,rfl,.inl rfl⟩
        | false=>
          rw[e]at h
          exact ih h
  exact gen scope.names h
section
variable {cl:List (Str×Addr)}{x:Str}{fp:List Addr}
theorem dY.look (S:dY X scope cl x ix){c:Addr}(h:cl.lookup y=some c):X.env.cells.lookup y=some c:=S.same _ (lookup_mem h)
theorem dY.ok (S:dY X scope cl x ix){pins:List (Addr×Obj)}{σ:St}(I:Inv X pins σ H s)(hf:∀b∈fp,pB X pins H b)(hfl:∀b∈fp,b<s.heap.objs.size)(hC:s.heap.objs.size<=C):
  (cX X scope cl x ix C fp s H).Ok where
 mod:=I.ok.mod
 kind:=S.kind
 glob:=I.ok.glob
 blt:=I.ok.blt
 above:=hC
 inj:=fun y z c h1 h2=>I.ok.inj y z c (S.look h1) (S.look h2)
 has := fun y h=>by
  have h':(relabel scope X.env).names.lookup y=some .cell\/(relabel scope X.env).names.lookup y=some .free:=h
  have fr:scope.names.lookup y=some .free:=by
   rcases h' with h' | h'
   ·obtain⟨k0,e,q | q⟩:=fX h'
    ·exact absurd rfl (q▸S.nocell _ (lookup_mem e))
    ·rw[e,q.1]
   ·obtain⟨k0,e,q | q⟩:=fX h'
    ·rw[e,<-q]
    ·cases q.2
  exact S.cells _ (lookup_mem fr) rfl
 cab:=fun y c h=>absurd h Yq
 hd:=I.ok.hd
 frames:=I.ok.frames
 stk:= .inl rfl
 exf:=fun b hb=>⟨YO (Yj (hfl b hb) hC),fun y c e=>(hf b hb).2.2.2.2.1 y c (S.look e)⟩
 bs:=I.bs
 bsz:=Y9 I.ok.bsz I.sz
 noex:=fun b o e hb=>by
  rcases (hf b hb).2.2.2.1 with z | z
  ·exact I.ok.noex b o e z
  ·exact absurd (Yj (Ys e) (Y9 I.ok.bsz z)) (Y3 _)
 exfs:=fun b hb z=>by
  rcases YG.mp (I.stkSub b z) with e | e
  ·exact(hf b hb).2.1 e
  ·exact(hf b hb).2.2.1 e
 funs:=I.stack
 frf:=I.stkFree
theorem a5J {j:Nat}(h:(oZ N ix)[j]? =some y):∃i,ix[j]? =some i/\y=N.getD i "":=by
 unfold oZ at h
 rw[Yl]at h
 cases e:ix[j]? with
 |none=>rw[e]at h;cases h
 |some i=>rw[e]at h;cases h;exact⟨i,rfl,rfl⟩
theorem a5I {σ:St}{j:Nat}{v:V}(h:(kI σ ix)[j]? =some (some v)):∃i,ix[j]? =some i/\σ[i]? =some (some v):=by
 unfold kI at h
 rw[Yl]at h
 cases e:ix[j]? with
 |none=>rw[e]at h;cases h
 | some i=>
  rw[e]at h
  have h':σ.getD i none=some v:=by simpa using h
  refine⟨i,rfl,?_⟩
  rw[Yh]at h'
  cases e2:σ[i]? with
  |none=>rw[e2]at h';cases h'
  |some u=>rw[e2]at h';exact YT some h'
theorem dY.inv (S:dY X scope cl x ix){pins:List (Addr×Obj)}{σ:St}{H:Hp}{s s1:Shared}{m:Str->Option Value}(I:Inv X pins σ H s)(hf:∀b∈fp,pB X pins H b)(hfl:∀b∈fp,b<s.heap.objs.size)
  (hC:s.heap.objs.size<=C) (os:s1.os=s.os) (bare:AllBare s1.gens) (k:∀b o,s.heap.get? b=some o->s1.heap.get? b=some o) (hn:s1.heap.Ns C m) :
  Inv (cX X scope cl x ix C fp s H) [] (none::kI σ ix) H s1 where
 ok:=S.ok I hf hfl hC
 os:=os
 bare:=bare
 base:=Un.kept k
 loc := ⟨m, hn,fun i y v h1 h2 h3=>by
  cases i with
  |zero=>cases (show none=some v from Yo h2)
  | succ j =>
   obtain⟨i,e1,e2⟩:=a5J (N:=X.N) (show (oZ X.N ix)[j]? =some y from h1)
   obtain⟨i',e1',e3⟩:=a5I (σ:=σ) (show (kI σ ix)[j]? =some (some v) from h2)
   rw[e1]at e1';cases e1'
   have hi:i<X.N.length:=by rw[<-I.len];exact(Yf.mp e3).1
   have hy:X.N[i]? =some y:=by rw[e2,Yh,Yb hi];rfl
   have ne:y≠x:=by
    rintro rfl
    have nd:=(Y0.mp S.nd).2
    exact(Y0.mp nd).1 (Yx (show (oZ X.N ix)[j]? =some y from h1))
   have h3':(relabel scope X.env).names.lookup y=some .local\/(relabel scope X.env).names.lookup y=some .cell\/(relabel scope X.env).names.lookup y=some .free:=h3
   have fr :scope.names.lookup y=some .free/\((relabel scope X.env).names.lookup y=some .cell\/(relabel scope X.env).names.lookup y=some .free):=by
    rcases h3' with z | z | z
    ·obtain⟨k0,e,q | q⟩:=fX z
     ·rcases S.one _ (lookup_mem e) q.symm with z | z
      ·exact absurd z ne
      ·have z':y=".0":=z
       exact absurd (Yw _ (Yx (show (oZ X.N ix)[j]? =some y from h1))) (z'▸(Y0.mp S.nd).1)
     ·cases q.2
    ·obtain⟨k0,e,q | q⟩:=fX z
     ·exact absurd rfl (q▸S.nocell _ (lookup_mem e))
     ·exact⟨by rw[e,q.1],.inl z⟩
    ·obtain⟨k0,e,q | q⟩:=fX z
     ·exact⟨by rw[e,<-q],.inr z⟩
     ·cases q.2
   have vis:=S.free _ (lookup_mem fr.1) rfl
   obtain⟨m0,_,l0⟩:=I.loc
   obtain⟨u,r,l⟩:=l0 i y v hy e3 (vis.elim (fun z=> .inr (.inl z)) fun z=> .inr (.inr z))
   refine⟨u,r,.inr ⟨fr.2,?_⟩⟩
   rcases l with ⟨k1,_⟩ | ⟨_,c,ec,oc,hoc,hd⟩
   ·rcases vis with z | z
    ·have:=k1.symm.trans z;cases this
    ·have:=k1.symm.trans z;cases this
   ·obtain⟨c',e'⟩:=S.cells _ (lookup_mem fr.1) rfl
    have:some c'=some c:=(S.look e').symm.trans ec
    cases this
    exact⟨c,e',oc,k _ _ hoc,hd⟩⟩
 cell:=fun y c e=>by
  obtain⟨v,oc,hoc,hd⟩:=I.cell y c (S.look e)
  exact⟨v,oc,k _ _ hoc,hd⟩
 free:=I.hok.fresh hC
 freeC:=fun y c e=>I.freeC y c (S.look e)
 pin:=fun p hp=>absurd (show p∈([]:List (Addr×Obj)) from hp) (by simp)
 hok:=I.hok.kept k
 len:=by show (none::kI σ ix).length=(x::oZ X.N ix).length;simp[kI,oZ]
end
def PTs (X:Cx)(ifs:List Expr)(t:TT):Prop:=
 ∀ (pins:List (Addr×Obj))(s:Shared)(σ:St)(H:Hp)(Q:Bool->Hp->Prop),Inv X pins σ H s->t σ H Q->
  wpAny (model X.prog X.w) X.A (forIn ifs true fun c r=>if r=true then do let ok<-isTrue c X.env (eval c X.env);pure (ForInStep.yield ok) else pure (ForInStep.yield r)) (TP X pins σ Q) X.xe s
def c1Y:TT:=fun _ H Q=>Q true H
theorem cZ:PTs X [] c1Y:=fun _ _ _ H _ I h=>wpAny_tests_nil ⟨H,I,h⟩
theorem uB {c:Expr}{t:TT}(h:PT X c t):PTs X [c] t:=fun pins s σ H Q I hw=>wpAny_tests_one (h pins s σ H Q I hw)
section
variable {prog:Program}{R:Result->Shared->Prop}
theorem uQ {elt target iter:Expr}{ifs:List Expr}{scope:Scope}{pos:Pos}{it acc:Value}{env:Env}(I:Nat->Shared->Prop)
    (turn : ∀ n s,I n s->wpAny (model prog w) A (pyNext it) (fun r s₁=>match r with
      |none=>R (.ok .next) s₁
      | some v =>wpAny (model prog w) A (letOwnedTupleGo target it v) (fun _ s₀=>wpAny (model prog w) A (assign target env v) (fun _ s₂=>
          wpAny (model prog w) A (forIn ifs true fun c r=>if r=true then do let ok<-isTrue c env (eval c env);pure (ForInStep.yield ok) else pure (ForInStep.yield r)) (fun ok s₃=>
            if ok=true then wpAny (model prog w) A (eval elt env) (fun x s₄=>
              wpAny (model prog w) A (call (.builtin "list.append") [acc,x]) (fun _ s₅=>∃m,m<n/\I m s₅) (notedBy (model prog w) A env fun e s'=>R (.error e) s') s₄) (notedBy (model prog w) A env fun e s'=>R (.error e) s') s₃
            else ∃m,m<n/\I m s₃) (notedBy (model prog w) A env fun e s'=>R (.error e) s') s₂) (notedBy (model prog w) A env fun e s'=>R (.error e) s') s₀) (notedBy (model prog w) A env fun e s'=>R (.error e) s') s₁) (notedBy (model prog w) A env fun e s'=>R (.error e) s') s)
    (n:Nat) (h:I n s) :
    codeAny (model prog w) A (.compLoop (.ListComp elt [⟨target,iter,ifs,0⟩] scope pos) 0 it acc env) R s:=by
  refine codeAny_loop rfl I (fun n s hI=>?_) n h
  show wpAny _ A ((compTurn (.ListComp elt [⟨target,iter,ifs,0⟩] scope pos) 0 it acc env).onRaise (fun x=>do noteFrame x env;theTreesLotGoes x)) _ _ s
  refine wpAny_noted ?_
  rw[compTurn_list]
  refine Y4 (wpAny_standAt (Y4 (Xe (turn n s hI) (fun r s₁ h₁=>?_) fun _ _ h'=>h')))
  cases r with
  |none=>exact Xj h₁
  | some v=>
    refine Y4 (Xe h₁ (fun _ s₀ h₀=>?_) fun _ _ h'=>h')
    refine Y4 (Xe h₀ (fun _ s₂ h₂=>Y4 (Xe h₂ (fun ok s₃ h₃=>?_) fun _ _ h'=>h')) fun _ _ h'=>h')
    cases ok with
    |false=>exact Xj ⟨rfl,h₃⟩
    | true=>
      exact Y4 (Y4 (Xe h₃ (fun x s₄ h₄=>Y4 (Xe h₄ (fun _ s₅ h₅=>Xj (Xj ⟨rfl,h₅⟩)) fun _ _ h'=>h')) fun _ _ h'=>h'))
end
def qZ (J:It)(tt:TT)(te:TE)(σc:V->St)(H1:Hp)(Q:VK):Prop:=∃W:Nat->Nat->List V->Hp->Prop,(∃m,W 0 m [] H1)/\∀i m ys H,W i m ys H->ys.length<sizeLine/\
  ((J.stop i H/\∀p,H p=none->Q (.ref p) (upd H p (.lst ys)))\/
   (J.go i H/\∃N:List V->Hp->Prop,(∀ys' H',N ys' H'->∃m',m'<m/\W (i+1) m' ys' H')/\∀x H',J.yld i H x H'->tt (σc x) H' fun b H3=>if b=true then te (σc x) H3 fun y H4=>N (ys++[y]) H4 else N ys H3))
structure mD (X:Cx)(C:Addr)(fp:List Addr)(s:Shared)(H:Hp):Prop where
 inv:∃pins σ,Inv X pins σ H s/\∀b∈fp,pB X pins H b
 low:∀b∈fp,b<s.heap.objs.size
 up:s.heap.objs.size<=C
def b3O (ix:List Nat)(wi:TI)(tt:TT)(te:TE):TE:=fun σ H Q=>wi σ H fun J H1=>qZ J tt te (fun x=>some x::kI σ ix) H1 Q
section
variable {cl:List (Str×Addr)}{x:Str}{elt iter:Expr}{ifs:List Expr}{px:Pos}{wi:TI}{tt:TT}{te:TE}
theorem qY (S:dY X scope cl x ix)(hc:X.calm=true)
    (ht:∀C fp s H,mD X C fp s H->PTs (cX X scope cl x ix C fp s H) ifs tt) (he:∀C fp s H,mD X C fp s H->PE (cX X scope cl x ix C fp s H) elt te)
    {pins:List (Addr×Obj)} {σ:St} {Q:VK} {itv:Value} {s2:Shared} {E:Value->Shared->Prop} {RR:Value->Addr->Result->Shared->Prop} (h2:PIE X pins σ (.Name x px) (fun J H1=>qZ J tt te (fun x=>some x::kI σ ix) H1 Q) itv s2)
    (fin:∀(D C:Addr)(H:Hp)(s':Shared)(m:Str->Option Value),Inv X pins σ H s'->s'.heap.Ns C m->H C=none->s2.heap.objs.size<=C->(∀p∈X.pn++pins,p.1≠C)->X.env.locals≠C->(∀y c,X.env.cells.lookup y=some c->c≠C)->X.s₀.heap.objs.size<=C->Q (.ref D) H->RR (.ref D) C (.ok .next) s')
    (fex:∀(D C:Addr)(e:Value)(s':Shared),a9I X scope cl C e s'->notedBy (model X.prog X.w) X.A (compEnvC scope cl C X.env) (fun e s'=>RR (.ref D) C (.error e) s') e s') :
    wpAny (model X.prog X.w) X.A (newList []) (fun acc s₃=>wpAny (model X.prog X.w) X.A (newFunctionEnv scope X.env.globals cl [] X.env.qual none .none (some X.env)) (fun cenv s₄=>
      codeAny (model X.prog X.w) X.A (.compStart (.ListComp elt [⟨.Name x px,iter,ifs,0⟩] scope pos) 0 itv acc { cenv with scope:=relabel scope X.env }) (RR acc cenv.locals) s₄) E s₃) E s2:=by
  obtain⟨it,fp,tn,J,H2,rfl,I2,T,st2,f2,W,⟨m0,w0⟩,turn⟩:=h2
  have hfl:∀b∈fp,b<s2.heap.objs.size:=fun b hb=>by
    obtain⟨o,e,_⟩:=T.obj _ _ st2 b hb
    exact Ys e
  refine wpAny_newObj_type (wpAny_newFunctionEnv S.nocell (by intro y hy;simp at hy) (fun h₁ hns₁ hsb₁=>?_) S.kind)
  dsimp only at hns₁ hsb₁ ⊢
  generalize hH2:s2.heap.push { cls:= .type "list",dict:=none,data:= .seq ([]:List Value).toArray }=G2 at hns₁ hsb₁ ⊢
  have hC:G2.objs.size=s2.heap.objs.size+1:=by rw[<-hH2,Heap.size_push]
  have hDC:s2.heap.objs.size≠G2.objs.size:=by rw[hC];exact YO (YW _)
  have hCle:s2.heap.objs.size<=G2.objs.size:=by rw[hC];exact Nat.le_succ _
  have below:∀b,b<s2.heap.objs.size->b≠G2.objs.size/\b≠s2.heap.objs.size:=fun b hb=>⟨by rw[hC];exact YO (Nat.lt_succ_of_lt hb),YO hb⟩
  have at0:mD X G2.objs.size fp s2 H2:=⟨⟨pins,σ,I2,f2⟩,hfl,hCle⟩
  have old:∀b o,s2.heap.get? b=some o->h₁.get? b=some o:=fun b o e=>hsb₁.extBut b o (below b (Ys e)).1 (Yp _ (hH2▸Yp _ e))
  have hacc:h₁.get? s2.heap.objs.size=some { cls:= .type "list",data:= .seq ([]:List Value).toArray 0 }:=hsb₁.extBut _ _ hDC (Yp _ (hH2▸YL _ rfl))
  have st1:tn 0 h₁:=T.keep _ _ _ st2 fun b _ o e=>old b o e
  have stat:∀{H':Hp},(∀b∈fp,H' b=none)->∀b∈fp,pB (cX X scope cl x ix G2.objs.size fp s2 H2) [] H' b:=fun hn b hb=>
    ⟨hn b hb,(below b (hfl b hb)).1,fun z=>by
      rcases YG.mp (I2.stkSub b z) with e | e
      · exact(f2 b hb).2.1 e
      · exact(f2 b hb).2.2.1 e,.inl hb,fun y c e=>(f2 b hb).2.2.2.2.1 y c (S.look e),fun p hp=>absurd (show p∈([]:List (Addr×Obj)) from hp) (by simp)⟩
  have I3:∀s₃:Shared,s₃={ s2 with heap:=h₁,toks:=s2.toks+([]:List (Str×Value)).length }->Inv (cX X scope cl x ix G2.objs.size fp s2 H2) [] (none::kI σ ix) H2 s₃:=fun s₃ e=>by
    subst e
    exact S.inv I2 f2 hfl hCle rfl I2.bare old hns₁
  let Acc:List V->Heap->Prop:=fun ys h=>∃its n,Vals ys its/\h.get? s2.heap.objs.size=some { cls:= .type "list",data:= .seq its.toArray n }
  have loop :∀s₃:Shared,s₃={ s2 with heap:=h₁,toks:=s2.toks+([]:List (Str×Value)).length }->
      codeAny (model X.prog X.w) X.A (.compLoop (.ListComp elt [⟨.Name x px,iter,ifs,0⟩] scope pos) 0 (.ref it) (.ref s2.heap.objs.size) (compEnvC scope cl G2.objs.size X.env)) (RR (.ref s2.heap.objs.size) G2.objs.size) s₃:=by
    intro s₃ e₃
    refine uQ (fun n s'=>∃i ys H',Inv (cX X scope cl x ix G2.objs.size fp s2 H2) [] (none::kI σ ix) H' s'/\H' s2.heap.objs.size=none/\Acc ys s'.heap/\tn i s'.heap/\(∀b∈fp,H' b=none)/\W i n ys H') ?_ m0
      ⟨0, [],H2,I3 s₃ e₃,I2.hok.fresh (Yd _),⟨[],0,.nil,by rw[e₃];exact hacc⟩,by rw[e₃];exact st1,fun b hb=>(f2 b hb).1,w0⟩
    rintro n s4 ⟨i,ys,H4,I4,hD4,⟨its,kk,rv,eD⟩,st4,fr4,w4⟩
    obtain⟨hsz,q4⟩:=turn i n ys H4 w4
    have hlen:=rv.length
    rcases q4 with ⟨stop,qn⟩ | ⟨go,N,hN,step⟩
    · refine Xe (T.done (cX X scope cl x ix G2.objs.size fp s2 H2) rfl rfl rfl hc i [(s2.heap.objs.size,{ cls:= .type "list",data:= .seq its.toArray kk })] s4 (none::kI σ ix) H4 (fun _ _=>False) ?_ ?_ st4 stop) (fun r s5 ⟨hr,I5⟩=>?_) fun _ _ z=>z.elim
      · refine I4.pins_of fun p hp=>?_
        rw[Yn.mp hp]
        exact⟨eD,hD4,hDC,fun z=>by
          have:=Heap.FunFrames.mem I2.stack z
          obtain⟨_,o,ho,_⟩:=this
          exact Y3 _ (Ys ho),fun v z=>by cases z⟩
      · intro b hb
        obtain⟨a1,a2,a3,a4,a5,_⟩:=stat fr4 b hb
        exact⟨a1,a2,a3,a4,a5,fun p hp=>by
          rw[Yn.mp hp]
          exact fun z=>(below b (hfl b hb)).2 z.symm⟩
      subst hr
      have eD5:=(I5.pin _ (by simp:(s2.heap.objs.size,({ cls:= .type "list",data:= .seq its.toArray kk }:Obj))∈(cX X scope cl x ix G2.objs.size fp s2 H2).pn++[(s2.heap.objs.size,{ cls:= .type "list",data:= .seq its.toArray kk })])).1
      have neD:∀b u,H4 b=some u->b≠s2.heap.objs.size:=fun b u e z=>by rw[z,hD4]at e;cases e
      have new:HOk X.prog X.w (upd H4 s2.heap.objs.size (.lst ys)) s5.heap:=by
        intro b u e
        by_cases hb:b=s2.heap.objs.size
        · subst hb
          rw[aB]at e
          cases e
          exact⟨Xm hsz,its,kk,rv,eD5⟩
        · rw[aH hb]at e
          exact(I5.hok b u e).stay (fun c v _ q=>q) (fun c q=>by rw[aH (neD c _ q)];exact q) fun c xs q=>by rw[aH (neD c _ q)];exact q
      have un:Un (frs X.stack) fp H2 (upd H4 s2.heap.objs.size (.lst ys)) s2.heap s5.heap:=by
        have B:=I5.base
        exact⟨B.keep,B.slot,fun b o e n hx=>by rw[aH (below b (Ys e)).2];exact B.free b o e n hx,B.there,
          fun b xs e=>by rw[aH (neD b _ (B.tups b xs e))];exact B.tups b xs e,fun b o u e=>by rw[aH (neD b _ (B.frzs b o u e))];exact B.frzs b o u e,
          fun b ps e=>by
            obtain⟨mm,z⟩:=B.tbls b ps e
            exact⟨mm,by rw[aH (neD b _ z)];exact z⟩⟩
      have J5:Inv X pins σ (upd H4 s2.heap.objs.size (.lst ys)) s5:=I2.call' (ch:=fp) I5.os un new I5.bare fun b hb=>⟨(f2 b hb).2.2.2.1,(f2 b hb).2.1,(f2 b hb).2.2.2.2.1,(f2 b hb).2.2.2.2.2⟩
      obtain⟨mC,hnC,_⟩:=I5.loc
      refine fin _ _ _ _ mC J5 hnC (by rw[aH (Ne.symm hDC)];exact I5.free) hCle (fun p hp z=>?_) (YO (Yj I2.lt hCle)) (fun y c e z=>?_) (Y9 I2.sz hCle) (qn _ hD4)
      · exact absurd (Yj (Ys (I2.pin p hp).1) hCle) (by rw[z];exact Y3 _)
      · obtain⟨v,oc,hoc,_⟩:=I2.cell y c e
        exact absurd (Yj (Ys hoc) hCle) (by rw[z];exact Y3 _)
    · have pinD:∀{pl:List (Addr×Obj)}{σ':St}{H':Hp}{s':Shared}{its':List Value}{k':Nat},Inv (cX X scope cl x ix G2.objs.size fp s2 H2) pl σ' H' s'->s'.heap.get? s2.heap.objs.size=some { cls:= .type "list",data:= .seq its'.toArray k' }->H' s2.heap.objs.size=none->
          Inv (cX X scope cl x ix G2.objs.size fp s2 H2) [(s2.heap.objs.size,{ cls:= .type "list",data:= .seq its'.toArray k' })] σ' H' s':=fun I' e' n'=>I'.pins_of fun p hp=>by
        rw[Yn.mp hp]
        exact⟨e',n',hDC,fun z=>by
          obtain⟨_,o,ho,_⟩:=Heap.FunFrames.mem I2.stack z
          exact Y3 _ (Ys ho),fun v z=>by cases z⟩
      have stat2:∀{H':Hp},(∀b∈fp,H' b=none)->∀b∈fp,pB (cX X scope cl x ix G2.objs.size fp s2 H2) [(s2.heap.objs.size,{ cls:= .type "list",data:= .seq its.toArray kk })] H' b:=fun hn b hb=>by
        obtain⟨a1,a2,a3,a4,a5,_⟩:=stat hn b hb
        exact⟨a1,a2,a3,a4,a5,fun p hp=>by
          rw[Yn.mp hp]
          exact fun z=>(below b (hfl b hb)).2 z.symm⟩
      refine Xe (T.item (cX X scope cl x ix G2.objs.size fp s2 H2) rfl rfl rfl hc i _ s4 _ H4 (fun _ _=>False) (pinD I4 eD hD4) (stat2 fr4) st4 go) (fun r s5 hz9=>?_) fun _ _ z=>z.elim
      obtain⟨u,hr,h5⟩:=hz9
      subst hr
      refine Xe h5 (fun _ s6 hz9=>?_) fun _ _ z=>z.elim
      obtain⟨y,H6,I6,r6,y6,st6,fr6⟩:=hz9
      have I6':=I6.pinned (stat2 fr6) (T.obj _ _ st6)
      have hxl:(relabel scope X.env).names.lookup x=some .local:=lookup_relabel_local S.loc
      refine wpAny_assign_Name (qC (X:=cX X scope cl x ix G2.objs.size fp s2 H2) (i:=0) I6' (Y0.mp S.nd).2 rfl (.inl hxl) r6 (fun s7 I7=>?_) (.inr hxl))
      have q7:=step y H6 y6
      refine Xe (ht _ _ _ _ at0 _ s7 (some y::kI σ ix) H6 _ I7 q7) (fun ok s8 hz9=>?_) fun _ _ z=>fex _ _ _ _ z
      obtain⟨H8,I8,q8⟩:=hz9
      have kept:∀{σ9:St}{H9:Hp}{s9:Shared},Inv (cX X scope cl x ix G2.objs.size fp s2 H2) ([(s2.heap.objs.size,{ cls:= .type "list",data:= .seq its.toArray kk })]++qJ fp s6.heap) σ9 H9 s9->
          s9.heap.get? s2.heap.objs.size=some { cls:= .type "list",data:= .seq its.toArray kk }/\H9 s2.heap.objs.size=none/\tn (i+1) s9.heap/\∀b∈fp,H9 b=none:=fun {σ9 H9 s9} I9=>by
        have p0:=I9.pin (s2.heap.objs.size,{ cls:= .type "list",data:= .seq its.toArray kk }) (YZ _ (Xy _ (Yn.mpr rfl)))
        refine⟨p0.1,p0.2.1,T.keep _ _ _ st6 fun b hb o e=>(I9.pin (b,o) (YZ _ (YZ _ (jR hb e)))).1,fun b hb=>?_⟩
        obtain⟨o,e,d⟩:=T.obj _ _ st6 b hb
        exact(I9.pin (b,o) (YZ _ (YZ _ (jR hb e)))).2.1
      have back:∀{pl:List (Addr×Obj)}{H9:Hp}{s9:Shared},Inv (cX X scope cl x ix G2.objs.size fp s2 H2) pl (some y::kI σ ix) H9 s9->Inv (cX X scope cl x ix G2.objs.size fp s2 H2) [] (none::kI σ ix) H9 s9:=fun {pl H9 s9} I9=>
        (I9.weak (σ':=none::kI σ ix) rfl fun j v e=>by
          cases j with
          |zero=>cases (show none=some v from Yo e)
          |succ j=>exact e).pins_of fun p hp=>nomatch hp
      cases ok with
      | true=>
        rw[if_pos rfl]at q8 ⊢
        refine Xe (he _ _ _ _ at0 _ s8 (some y::kI σ ix) H8 _ I8 q8) (fun yv s9 hz9=>?_) fun _ _ z=>fex _ _ _ _ z
        obtain⟨yy,H9,I9,r9,n9⟩:=hz9
        obtain⟨m',hm',w9⟩:=hN _ _ n9
        obtain⟨kD,kn,kt,kf⟩:=kept I9
        refine append_at (hsz:=by rw[YE];omega) kD fun h10 hs10 hD10=>?_
        have neD:∀b u,H9 b=some u->b≠s2.heap.objs.size:=fun b u e z=>by rw[z,kn]at e;cases e
        have I9':=back I9
        have cellne:∀y c,cl.lookup y=some c->c≠s2.heap.objs.size:=fun y c e z=>by
          obtain⟨v,oc,hoc,_⟩:=I2.cell y c (S.look e)
          exact absurd (Ys hoc) (by rw[z];exact Y3 _)
        have I10:Inv (cX X scope cl x ix G2.objs.size fp s2 H2) [] (none::kI σ ix) H9 { s9 with heap:=h10 }:=I9'.turned (t':=s9.toks) (it:=s2.heap.objs.size) (fun b o hb e=>hs10.extBut b o hb e) kn hDC (.inr (Yd _)) cellne fun p hp=>absurd (show p∈([]:List (Addr×Obj)) from hp) (by simp)
        refine⟨m',hm',i+1,ys++[yy],H9,I10,kn,⟨its++[yv],kk+1,rv.append (.cons r9 .nil),?_⟩,T.keep _ _ _ kt fun b hb o e=>hs10.extBut b o (below b (hfl b hb)).2 e,kf,w9⟩
        refine hD10.trans (YT some ?_)
        simp
      | false=>
        rw[if_neg Yq]at q8 ⊢
        obtain⟨m',hm',w9⟩:=hN _ _ q8
        obtain⟨kD,kn,kt,kf⟩:=kept I8
        exact⟨m',hm',i+1,ys,H8,back I8,kn,⟨its,kk,rv,kD⟩,kt,kf,w9⟩
  exact codeAny_compStart_list (loop _ rfl) (T.self _ 0 _ _ _ st1 (loop _ rfl))
def cI (env:Env):List (Str×NameKind)->List (Str×Addr)->List (Str×Addr)
 |[],cs=>cs
 |(n,k)::r,cs=>cI env r (if k == .free then (n,(env.cells.lookup n).getD 0)::cs else cs)
theorem uR:∀(names:List (Str×NameKind))(cs:List (Str×Addr)),(∀y∈names,y.2= .free->∃c,env.cells.lookup y.1=some c)->
  (forIn names cs fun (p:Str×NameKind) (r:List (Str×Addr))=>match p with | (name,kind)=>if (kind == .free)=true then do let c<-cellOf env name;pure (ForInStep.yield ((name,c)::r)) else pure (ForInStep.yield r):Sem (List (Str×Addr)))=pure (cI env names cs)
 |[],cs,_=>rfl
 | (n, k)::r,cs,h=>by
  rw[List.forIn_cons]
  cases hk:k == NameKind.free with
  | true=>
   obtain⟨c,hc⟩:=h (n,k) YC (eq_of_beq hk)
   have e1:cellOf env n=pure c:=by unfold cellOf;rw[hc]
   have e2:cI env ((n,k)::r) cs=cI env r ((n,c)::cs):=by
    show cI env r (if (k == .free)=true then (n,(env.cells.lookup n).getD 0)::cs else cs)=_
    rw[hk,if_pos rfl,hc];rfl
   rw[e2,<-uR r ((n,c)::cs) fun y hy=>h y (Yw _ hy)]
   dsimp only
   rw[if_pos hk,e1]
   rfl
  | false=>
   have e2:cI env ((n,k)::r) cs=cI env r cs:=by
    show cI env r (if (k == .free)=true then (n,(env.cells.lookup n).getD 0)::cs else cs)=_
    rw[hk,if_neg Yq]
   rw[e2,<-uR r cs fun y hy=>h y (Yw _ hy)]
   dsimp only
   rw[if_neg (by rw[hk];exact Yq)]
   rfl
theorem nG {y:Str×Addr}:∀(names:List (Str×NameKind))(cs:List (Str×Addr)),y∈cI env names cs->y∈cs\/∃k∈names,k.2= .free/\k.1=y.1/\y.2=(env.cells.lookup y.1).getD 0
 |[],cs,h=> .inl h
 | (n, k)::r,cs,h=>by
  rcases nG r _ h with z | ⟨p,hp,e⟩
  ·cases hk:k == NameKind.free with
   | true=>
    rw[hk,if_pos rfl]at z
    rcases YG.mp z with z | z
    ·exact .inr ⟨(n,k),YC,eq_of_beq hk,by rw[z],by rw[z]⟩
    ·exact .inl z
   | false=>
    rw[hk,if_neg Yq]at z
    exact .inl z
  ·exact .inr ⟨p,Yw _ hp,e⟩
theorem iG {c:Addr}:∀{l:List (Str×Addr)},(y,c)∈l->∃d,l.lookup y=some d
 |[],h=>by simp at h
 | (n, d)::r,h=>by
  rw[Xw]
  cases e:y == n with
  |true=>exact⟨d,rfl⟩
  | false=>
   rcases YG.mp h with z | z
   ·have:y=n:=(Prod.mk.inj z).1
    rw[this,beq_self_eq_true]at e;cases e
   ·exact iG z
theorem mQ:∀(names:List (Str×NameKind))(cs:List (Str×Addr)),((y,NameKind.free)∈names\/∃c,(y,c)∈cs)->∃c,(y,c)∈cI env names cs
 | [],cs,h=>by
  rcases h with h | h
  ·simp at h
  ·exact h
 | (n, k)::r,cs,h=>by
  refine mQ r _ ?_
  rcases h with h | ⟨c,h⟩
  ·rcases YG.mp h with z | z
   ·obtain⟨e1,e2⟩:=Prod.mk.inj z
    subst e1 e2
    exact .inr ⟨(env.cells.lookup y).getD 0,by rw[if_pos (beq_self_eq_true _)];exact YC⟩
   ·exact .inl z
  ·refine .inr ⟨c,?_⟩
   split
   ·exact Yw _ h
   ·exact h
def zM (scope:Scope)(env:Env)(x:Str):Bool:=scope.names.all fun y=>(y.2 != .local || ((y.1 == x || y.1 == ".0") && scope.names.lookup y.1 == some .local)) && y.2 != .cell && (y.2 != .free || env.kindOf y.1 == some .cell || env.kindOf y.1 == some .free)
theorem nF (ok:X.Ok)(hk:scope.kind= .function)(hx:scope.names.lookup x=some .local)(hall:zM scope X.env x=true)(nd:((".0":Str)::x::oZ X.N ix).Nodup):dY X scope (cI X.env scope.names []) x ix:=by
 have all:∀y∈scope.names,(y.2= .local->(y.1=x\/y.1=".0")/\scope.names.lookup y.1=some .local)/\y.2≠ .cell/\(y.2= .free->(X.env.kindOf y.1=some .cell\/X.env.kindOf y.1=some .free)):=fun y hy=>by
  have z:=YQ.mp hall y hy
  simp only[Y1,Bool.or_eq_true,bne_iff_ne,XH,ne_eq]at z
  refine⟨fun e=>z.1.1.resolve_left fun q=>q e,z.1.2,fun e=>?_⟩
  rcases z.2 with (q | q) | q
  ·exact absurd e q
  ·exact .inl q
  ·exact .inr q
 have cells:∀y∈scope.names,y.2= .free->∃c,X.env.cells.lookup y.1=some c:=fun y hy e=>ok.has y.1 ((all y hy).2.2 e)
 refine⟨?_,hk,hx,fun y hy e=>((all y hy).1 e).1,fun y hy e=>((all y hy).1 e).2,fun y hy=>(all y hy).2.1,fun y hy=>(all y hy).2.2,fun y hy e=>?_,fun y hy=>?_,nd⟩
 ·have q:=uR scope.names [] cells
  unfold closureFor
  have q2:(forIn scope.names [] fun (p:Str×NameKind) (r:List (Str×Addr))=>match p with | (name,kind)=>if (kind == .free)=true then do let c<-cellOf X.env name;pure (ForInStep.yield ((name,c)::r)) else pure (ForInStep.yield r):Sem (List (Str×Addr))) >>= (fun cs=>pure cs)=pure (cI X.env scope.names []):=by
   rw[q];rfl
  exact q2
 ·obtain⟨n,k⟩:=y
  have e':k= .free:=e
  subst e'
  obtain⟨c,hc⟩:=mQ (env:=X.env) scope.names [] (.inl hy)
  exact iG hc
 ·rcases nG scope.names [] hy with z | ⟨p,hp,e1,e2,e3⟩
  ·simp at z
  ·obtain⟨c,hc⟩:=cells p hp e1
   rw[e2]at hc
   rw[e3,hc];rfl
theorem dN (hc:X.calm=true)(hi:PI X (.Name x px) iter wi)(ht:∀C fp s H,mD X C fp s H->PTs (cX X scope (cI X.env scope.names []) x ix C fp s H) ifs tt)(he:∀C fp s H,mD X C fp s H->PE (cX X scope (cI X.env scope.names []) x ix C fp s H) elt te)
  (hk:scope.kind= .function) (hx:scope.names.lookup x=some .local) (hall:zM scope X.env x=true) (nd:((".0":Str)::x::oZ X.N ix).Nodup)
  (hs:∀x,foldedSetIterable iter X.env x=pure x:=by intro _;rfl):PE X (.ListComp elt [⟨.Name x px,iter,ifs,0⟩] scope pos) (b3O ix wi tt te):=by
 intro pins s σ H Q I h
 have S:dY X scope (cI X.env scope.names []) x ix:=nF I.ok hk hx hall nd
 rw[eval_ListComp]
 refine wpAny_comprehension_free (use:=none) rfl hs S.clos S.kind S.locs (thn (hi pins s σ H _ I h) fun v s1 h1=>thn h1 fun itv s2 h2=>?_)
 refine qY S hc ht he h2 (fun D C H' s' m J hn hCn hCle hp hL hcl hs0 q=>?_) fun D C e s' z=>z
 exact⟨m,hn,fun h' sb=>⟨.ref D,H',J.turned (t':=s'.toks) (fun b o hb e=>sb.extBut b o hb e) hCn (Ne.symm hL) (.inr hs0) hcl hp,rfl,q⟩⟩
theorem jN {j:Nat}{y:Str}{py spos:Pos}(hN:X.N.Nodup)(hj:X.N[j]? =some y)(hy:X.env.scope.names.lookup y=some .local)(hc:X.calm=true)(hi:PI X (.Name x px) iter wi)
  (ht:∀C fp s H,mD X C fp s H->PTs (cX X scope (cI X.env scope.names []) x ix C fp s H) ifs tt) (he:∀C fp s H,mD X C fp s H->PE (cX X scope (cI X.env scope.names []) x ix C fp s H) elt te)
  (hk:scope.kind= .function) (hx:scope.names.lookup x=some .local) (hall:zM scope X.env x=true) (nd:((".0":Str)::x::oZ X.N ix).Nodup)
  (hsw:swapsWith (.ListComp elt [⟨.Name x px,iter,ifs,0⟩] scope pos) (some (.Name y py)) spos.line X.env=pure true:=by rfl) (hs:∀x,foldedSetIterable iter X.env x=pure x:=by intro _;rfl) :
  PS X (.Assign [.Name y py] (.ListComp elt [⟨.Name x px,iter,ifs,0⟩] scope pos) spos) (b5G (b3O ix wi tt te) (wW j)):=by
 intro pins s σ H D I h
 have S:dY X scope (cI X.env scope.names []) x ix:=nF I.ok hk hx hall nd
 rw[exec_Assign_Name_used _ _ _ _ hsw]
 refine Y4 (wpAny_standAt (Y4 ?_))
 show wpAny _ _ (do let _<-comprehension (.ListComp elt [⟨.Name x px,iter,ifs,0⟩] scope pos) scope X.env _ (newList []) false (eval iter X.env) (some (assign (.Name y py) X.env))) _ _ s
 refine Y4 (Xe (wpAny_comprehension_free (use:=some (assign (.Name y py) X.env)) (Q:=fun _ s'=>SP X pins D .next s') rfl hs S.clos S.kind S.locs
  (thn (hi pins s σ H _ I h) fun v s1 h1=>thn h1 fun itv s2 h2=>?_)) (fun _ s' hq=>Xj (Xj hq)) fun _ _ e=>e)
 refine qY (Q:=fun v H1=>D.nx (σ.set j (some v)) H1) S hc ht he h2 (fun D' C H' s' m J hn hCn hCle hp hL hcl hs0 q=>?_) fun D' C e s' z=>z
 show wpAny _ _ (assign (.Name y py) X.env (.ref D')) _ _ _
 refine wpAny_assign_Name (rZ J hN hj (.inl hy) (v:= .ref D') rfl (fun s'' J' hz9=>?_) (.inr hy))
 obtain⟨a,sb,ha⟩:=hz9
 have hCa:C≠a:=by
  rcases ha with e | e
  ·rw[e];exact Ne.symm hL
  ·exact Ne.symm (hcl y a e)
 exact⟨m,hn.sameBut sb hCa,fun h' sb'=>⟨σ.set j (some (.ref D')),H',J'.turned (t':=s''.toks) (fun b o hb e=>sb'.extBut b o hb e) hCn (Ne.symm hL) (.inr hs0) hcl hp,q⟩⟩
end
theorem gB {lo:Int}{n:Nat}{tt:TT}{te:TE}{σc:V->St}{H:Hp}{Q:VK}(Pv:Nat->List V->Hp->Prop)(hn:∀i ys H,i<=n->Pv i ys H->ys.length<sizeLine)(h0:Pv 0 [] H)
  (hs:∀i ys H,i<n->Pv i ys H->tt (σc (.int (lo+i))) H fun b H3=>if b=true then te (σc (.int (lo+i))) H3 fun y H4=>Pv (i+1) (ys++[y]) H4 else Pv (i+1) ys H3)
  (hd:∀ys H,Pv n ys H->∀p,H p=none->Q (.ref p) (upd H p (.lst ys))):qZ (Itr lo n) tt te σc H Q:=by
 refine⟨fun i m ys H=>m=n-i/\i<=n/\Pv i ys H,⟨n,by simp,Xu _,h0⟩,?_⟩
 rintro i m ys H ⟨rfl,hi,p⟩
 refine⟨hn i ys H hi p,?_⟩
 by_cases hlt:i<n
 ·refine .inr ⟨hlt,Pv (i+1),fun ys' H' q=>⟨n-(i+1),by omega,rfl,hlt,q⟩,fun x H' y=>?_⟩
  obtain⟨e,y⟩:=y
  subst e y
  exact hs i ys _ hlt p
 ·have e:i=n:=by omega
  subst e
  exact .inl ⟨Yd _,hd ys H p⟩
theorem cR {K:W.Frag}{a:Addr}{xs:List V}{tt:TT}{te:TE}{σc:V->St}{H:Hp}{Q:VK}(Pv:Nat->List V->Hp->Prop)(hn:∀i ys H,i<=xs.length->Pv i ys H->ys.length<sizeLine)(h0:Pv 0 [] H)
  (hl:∀i ys H,i<=xs.length->Pv i ys H->SqL K H a xs)
  (hs:∀i x ys H,xs[i]? =some x->Pv i ys H->tt (σc x) H fun b H3=>if b=true then te (σc x) H3 fun y H4=>Pv (i+1) (ys++[y]) H4 else Pv (i+1) ys H3)
  (hd:∀ys H,Pv xs.length ys H->∀p,H p=none->Q (.ref p) (upd H p (.lst ys))):qZ (Itl K a) tt te σc H Q:=by
 refine⟨fun i m ys H=>m=xs.length-i/\i<=xs.length/\Pv i ys H,⟨xs.length,by simp,Xu _,h0⟩,?_⟩
 rintro i m ys H ⟨rfl,hi,p⟩
 have q:=hl i ys H hi p
 refine⟨hn i ys H hi p,?_⟩
 by_cases hlt:i<xs.length
 ·refine .inr ⟨⟨xs,xs[i],q,by simp[hlt]⟩,Pv (i+1),fun ys' H' q=>⟨xs.length-(i+1),by omega,rfl,hlt,q⟩,fun x H' y=>?_⟩
  obtain⟨e,y⟩:=y
  subst e
  exact hs i x ys _ (y xs q) p
 ·have e:i=xs.length:=by omega
  subst e
  exact .inl ⟨⟨xs,q,Yd _⟩,hd ys H p⟩
end L2
namespace L2
open PySem PySem.Spec PyProof.Rows PySem.W PySem.Builtin PySem.Builtin.ObjectAttr PySem.Builtin.Getset_descriptor
section
variable {prog:Program}{w:World}{A:Around}{E:Value->Shared->Prop}{K:W.Frag}{a C:Addr}
end
section
variable {X:Cx}
end
end L2
namespace L2
open PySem PySem.Spec PyProof.Rows
mutual
inductive DV (K:W.Frag)(H:Hp):V->PyData->Prop
 |non:DV K H .non .none
 |bl (b:Bool):DV K H (.bl b) (.bool b)
 |int (i:Int):DV K H (.int i) (.int i)
 |str (x:Str):DV K H (.str x) (.str x)
 |lst {a:Addr} {xs:List V} {ds:List PyData}:SqL K H a xs->DVs K H xs ds->DV K H (.ref a) (.list ds)
 |tup {a:Addr} {xs:List V} {ds:List PyData}:SqT K H a xs->DVs K H xs ds->DV K H (.ref a) (.tuple ds)
inductive DVs (K:W.Frag)(H:Hp):List V->List PyData->Prop
 |nil:DVs K H [] []
 |cons {x:V} {xs:List V} {d:PyData} {ds:List PyData}:DV K H x d->DVs K H xs ds->DVs K H (x::xs) (d::ds)
end
variable {K:W.Frag}{H:Hp}{pos:Pos}{d:PyData}{s:Shared}{X:Cx}
theorem DVs.ints:∀ns:List Int,DVs K H (ns.map V.int) (ns.map PyData.int)
 |[]=> .nil
 |n::r=> .cons (.int n) (DVs.ints r)
theorem DV.ints {a:Addr}{ns:List Int}(h:SqL K H a (ns.map V.int)):DV K H (.ref a) (.list (ns.map .int)):= .lst h (DVs.ints ns)
section
variable {pins:List (Addr×Obj)}{σ:St}
mutual
theorem Inv.reads (I:Inv X pins σ H s):∀{x:V}{d:PyData}{u:Value},DV X.K H x d->RelV x u->∃as,Reads s.heap u d as
 |_,_,_,.non,r=>by cases r;exact⟨_,Reads.none⟩
 |_,_,_,.bl b,r=>by cases r;exact⟨_,Reads.bool b⟩
 |_,_,_,.int i,r=>by obtain⟨t,rfl⟩:=r;exact⟨_,Reads.int i t⟩
 |_,_,_,.str x,r=>by obtain⟨t,rfl⟩:=r;exact⟨_,Reads.str x t⟩
 | _,_,_,.lst h r,rr=>by
  cases rr
  obtain⟨its,rv,⟨o,n,e,c,_,dt⟩,_⟩:=I.list h
  obtain⟨as,q⟩:=Inv.readsAll I r rv
  exact⟨_,reads_list_at e c dt (by simpa using q)⟩
 | _,_,_,.tup h r,rr=>by
  cases rr
  obtain⟨its,rv,⟨o,e,c,n,dt⟩,_⟩:=I.tuple h
  obtain⟨as,q⟩:=Inv.readsAll I r rv
  exact⟨_,reads_tuple_at e c dt (by simpa using q)⟩
theorem Inv.readsAll (I:Inv X pins σ H s):∀{xs:List V}{ds:List PyData}{us:List Value},DVs X.K H xs ds->Vals xs us->∃as,ReadsAll s.heap us ds as
 |_,_,_,.nil,.nil=>⟨_,ReadsAll.nil⟩
 | _,_,_,.cons h r,.cons q p=>by
  obtain⟨as,q1⟩:=Inv.reads I h q
  obtain⟨bs,q2⟩:=Inv.readsAll I r p
  exact⟨_,ReadsAll.cons q1 q2⟩
end
end
section
theorem a4U (hu:X.A.units+64<cLine):OpR X (compareOp .Eq) (fun x y H Q=>∃d e,DV X.K H x d/\DV X.K H y e/\SeqAt.shaped d=true/\SeqAt.shaped e=true/\Q (.bl (PyData.eqv d e)) H):=by
 intro pins s σ H x y v u Q I rx ry h
 obtain⟨d,e,hd,he,sd,se,q⟩:=h
 obtain⟨as,ra⟩:=I.reads hd rx
 obtain⟨bs,rb⟩:=I.reads he ry
 exact eq_dataH ra rb sd se hu ⟨.bl _,H,I,rfl,q⟩
theorem b8W (hu:X.A.units+64<cLine):OpR X (compareOp .NotEq) (fun x y H Q=>∃d e,DV X.K H x d/\DV X.K H y e/\SeqAt.shaped d=true/\SeqAt.shaped e=true/\Q (.bl (!PyData.eqv d e)) H):=by
 intro pins s σ H x y v u Q I rx ry h
 obtain⟨d,e,hd,he,sd,se,q⟩:=h
 obtain⟨as,ra⟩:=I.reads hd rx
 obtain⟨bs,rb⟩:=I.reads he ry
 exact ne_dataH ra rb sd se hu ⟨.bl _,H,I,rfl,q⟩
theorem b8V (hu:X.A.units+64<cLine):OpR X (compareOp .NotEq) (fun x y H Q=>∃d,DV X.K H x d/\DV X.K H y d/\SeqAt.shaped d=true/\Q (.bl false) H):=(b8W hu).imp fun x y H Q ⟨d,h1,h2,h3,q⟩=>⟨d,d,h1,h2,h3,h3,by rw[SeqAt.eqv_refl d (SeqAt.canLay_of_shaped h3)];exact q⟩
end
theorem b0Y {ds:List PyData}(h:∀d∈ds,d.canLay0=true/\d.depth<=60):SeqAt.shaped (.list ds)=true:=by
 have all:∀ds:List PyData,(∀d∈ds,d.canLay0=true/\d.depth<=60)->PyData.canLayAll0 ds=true/\PyData.depthAll ds<=60:=by
  intro ds
  induction ds with
  |nil=>intro _;simp[PyData.canLayAll0,PyData.depthAll]
  | cons d r ih=>
   intro h
   have h1:=h d YC
   have h2:=ih fun z hz=>h z (Yw _ hz)
   simp only[PyData.canLayAll0,PyData.depthAll,h1.1,h2.1,Bool.and_self,true_and]
   have:=h1.2;have:=h2.2;omega
 have z:=all ds h
 unfold SeqAt.shaped
 rw[Y1]
 refine⟨by simp only[PyData.canLay0];exact z.1,Ye ?_⟩
 simp only[PyData.depth]
 have:=z.2;omega
theorem lay_ints (ns:List Int):(PyData.list (ns.map .int)).canLay0=true/\(PyData.list (ns.map .int)).depth<=60:=by
 refine⟨by simp only[PyData.canLay0];exact W.canLayAll0_ints ns,?_⟩
 have:=W.depthAll_ints ns
 simp only[PyData.depth];omega
section
theorem qN {its:List Value}{ns:List Int}(hi:IntsAre its ns):∃xs:Array (Int×Tok),its.toArray=intItems xs/\ns=xs.toList.map (·.1):=by
 obtain⟨xs,hx⟩:=hi.allInts.items
 refine⟨xs,hx,?_⟩
 rw[<-nums_intItems,<-hx]
 exact(show numsOf its.toArray.toList=ns from hi.numsOf).symm
def c2S (K:W.Frag):List V->Hp->VK->Prop:=fun xs H Q=>l1 xs fun x=>vR x fun p=>∃ns:List Int,SqL K H p (ns.map V.int)/\Q (.int ns.sum) H
theorem b8T (hc:X.calm=true):fH X (.builtin "sum") (c2S X.K):=by
 intro pins s σ H xs us Q I r h
 obtain⟨x,rfl,h⟩:=l1.ex h
 obtain⟨p,rfl,ns,hS,q⟩:=vR.ex h
 obtain⟨u,rfl,ru⟩:=vals1 r
 cases ru
 obtain⟨its,rv,pl,_⟩:=I.list hS
 obtain⟨zs,e1,e2⟩:=qN (intsAre_of rv)
 have hl:s.heap.IsList p (intItems zs):=e1▸pl.isList
 refine sum_intListG (I.ok.hd hc) hl fun h' tk t' hk=>?_
 have e3:preSum (numAt zs) zs.size=ns.sum:=by rw[preSum_eq,Yk (by simp),e2]
 rw[e3]
 exact⟨.int ns.sum,H,I.kept hk,⟨_,rfl⟩,q⟩
def c0O (K:W.Frag)(lt:Int->Int->Prop):List V->Hp->VK->Prop:=fun xs H Q=>l1 xs fun x=>vR x fun p=>∃ns:List Int,SqL K H p (ns.map V.int)/\ns≠ []/\∀m,m∈ns->(∀z∈ns,lt m z)->Q (.int m) H
theorem xU (hc:X.calm=true):fH X (.builtin "min") (c0O X.K (·<= ·)):=by
 intro pins s σ H xs us Q I r h
 obtain⟨x,rfl,h⟩:=l1.ex h
 obtain⟨p,rfl,ns,hS,hne,q⟩:=vR.ex h
 obtain⟨u,rfl,ru⟩:=vals1 r
 cases ru
 obtain⟨its,rv,pl,_⟩:=I.list hS
 obtain⟨zs,e1,e2⟩:=qN (intsAre_of rv)
 have hl:s.heap.IsList p (intItems zs):=e1▸pl.isList
 have hsz:0<zs.size:=by
  have h3:0<ns.length:=List.length_pos_iff.mpr hne
  rw[e2,Ya,XU]at h3;exact h3
 refine min_intList (I.ok.hd hc) hl hsz fun v h' tk hv hk=>?_
 obtain⟨t,rfl⟩:=intItems_at hv
 obtain⟨h1,h2⟩:=argBest_lt (numAt zs) (zs.size-1)
 refine⟨.int _,H,I.kept hk,⟨_,rfl⟩,q _ ?_ fun a ha=>?_⟩
 ·rw[e2,numAt_eq];exact getD_mem (by rw[Ya,XU];omega)
 ·rw[e2]at ha
  obtain⟨j,hj,rfl⟩:=mem_getD ha
  rw[Ya,XU]at hj
  rw[<-numAt_eq];exact h2 j (by omega)
def c2X:R2:=fun x y H Q=>vR x fun l=>vR y fun b=>∃xs zs,H l=some (.lst xs)/\H b=some (.lst zs)/\xs.length+zs.length<=sizeLine/\∀p,H p=none->Q (.ref p) (upd H p (.lst (xs++zs)))
theorem rR:OpR X (binaryOp .Add) c2X:=b6O.imp fun x y H Q h=>by
 obtain⟨l,rfl,hh⟩:=vR.ex h
 clear h
 obtain⟨b,rfl,xs,zs,h1,h2,h3,h4⟩:=vR.ex hh
 exact⟨l,b,xs,zs,rfl,rfl,h1,h2,h3,h4⟩
end
theorem b2S {bs:List Int}{a n:Nat}(h:a+n<=bs.length):lQ (bs.map V.int) (some (a:Int)) (some ((a+n:Nat):Int))=((bs.drop a).take n).map V.int:=by
 unfold lQ
 rw[HT.sIx_nat,HT.sIx_nat,Ya,Nat.min_eq_left (by omega),Nat.min_eq_left (by omega),Nat.add_sub_cancel_left,List.map_take,List.map_drop]
theorem a9F {bs:List Int}{a:Nat}(h:a<=bs.length):lQ (bs.map V.int) (some (a:Int)) none=(bs.drop a).map V.int:=by
 unfold lQ
 rw[HT.sIx_nat,HT.sIx_none,Ya,Nat.min_eq_left h,List.map_drop,Yk]
 rw[XS,Ya];exact Yd _
def l3 (vs:List V)(k:V->V->V->Prop):Prop:=@List.rec V (fun _=>Prop) False (fun x r _=>l2 r fun y z=>k x y z) vs
theorem l3.ex {vs:List V}{k:V->V->V->Prop}(h:l3 vs k):∃x y z,vs= [x,y,z]/\k x y z:=by
 match vs,h with
 |[x,y,z],h=>exact⟨x,y,z,rfl,h⟩
def a9T (lo c:Int)(n:Nat):It:=⟨fun i _=>i<n,fun i H x H'=>H'=H/\x= .int (lo+i*c),fun i _=>n<=i⟩
theorem vH {P:Program}{w:World}{tg:Expr}(it:Addr)(lo c:Int)(n:Nat):Turn P w K tg (a9T lo c n) [it] it (fun i h=>IsRangeIter h it (lo+(i:Nat)*c) ((n:Int)-(i:Nat)) c) where
 mem:=by simp
 obj :=fun i h st b hb=>by
  have e:b=it:=by simpa using hb
  subst e
  exact⟨_,st,fun v z=>by
   have z':Data.fields _=Data.cell v:=z
   cases z'⟩
 keep:=fun i h h' st k=>k it (by simp) _ st
 item:=by
  intro X hP hw hK hc i pins s σ H E I hf st hg
  subst hP hw hK
  obtain⟨f0,f1,f2,f3,f4,f5⟩:=hf it (by simp)
  have W:=Walks.range (prog:=X.prog) (w:=X.w) (I.ok.hd hc) it lo c n
  refine W.item i s _ _ hg st fun v h' tk hv st' kk=>?_
  obtain⟨t,rfl⟩:=hv
  have I1:Inv X pins σ H { s with heap:=h',toks:=tk }:=I.turned (fun b o hb e=>kk b o (by simpa using hb) e) f0 f1 f3 f4 f5
  exact⟨_,rfl,a1L (s:={ s with heap:=h',toks:=tk }) (n:="range_iterator") st' rfl rfl (by decide) ⟨.int (lo+i*c),H,I1,⟨t,rfl⟩,⟨rfl,rfl⟩,st',fun b hb=>(hf b hb).1⟩⟩
 done:=by
  intro X hP hw hK hc i pins s σ H E I hf st hg
  subst hP hw hK
  obtain⟨f0,f1,f2,f3,f4,f5⟩:=hf it (by simp)
  exact wpAny_pyNext_range_end (I.ok.hd hc) st (by have:n<=i:=hg;omega) fun h' eb=>⟨rfl,I.turned (t':=s.toks) (fun b o hb e=>eb b o hb e) f0 f1 f3 f4 f5⟩
 self:=fun _ _ _ _ _ st h=>wpAny_pyIter_rangeiter st h
section
variable {tg:Expr}
def c1D (ta:TA):TI:=fun σ H R=>ta σ H fun vs H1=>l3 vs fun x y z=>vI x fun i=>vI y fun j=>vI z fun c=>c≠0/\Builtin.divisionGoesByPylong (j-i) c=false/\∃n:Nat,Builtin.Range.small i j c=true/\Builtin.Range.rangeSize i j c=(n:Int)/\R (a9T i c n) H1
theorem sS {a b c:Expr}{ta:TA}{p:Pos}(hg:Gl X "range")(hm:X.mg "range"=none)(ha:PA X [a,b,c] ta)(hs:starEach [a,b,c] X.env=(false,eval a X.env)::starEach [b,c] X.env:=by rfl)(hs2:(backTo pos (starEach [b,c] X.env)).any (·.1)=false:=by rfl):
  PI X tg (.Call (.Name "range" p) [a,b,c] [] pos) (c1D ta):=by
 intro pins s σ H R I h
 refine Call_ (oE I hg hm boot_range (XN (thn (ha pos pins s σ H _ I h) fun us s1 hz9=>?_) hs hs2))
 obtain⟨vs,H1,I1,r1,q1⟩:=hz9
 obtain⟨x,y,z,rfl,q2⟩:=l3.ex q1
 obtain⟨i,rfl,q3⟩:=vI.ex q2
 obtain⟨j,rfl,q4⟩:=vI.ex q3
 obtain⟨c,rfl,hc,hp,n,hsm,hn,q⟩:=vI.ex q4
 cases r1 with
 | cons r rr=>
  cases rr with
  | cons r' rr=>
   cases rr with
   | cons r'' rr=>
    cases rr
    obtain⟨t,rfl⟩:=r
    obtain⟨t',rfl⟩:=r'
    obtain⟨t'',rfl⟩:=r''
    refine call_range_3 hc ?_ (.inl hp)
    refine wpAny_pyIter_range (IsRange.new ..) hsm ?_
    have I2:Inv X pins σ H1 { s1 with heap:=s1.heap.push { cls:= .type "range",data:= .fields #[.int i t,.int j t',.int c t''] },toks:=s1.toks }:=I1.kept fun b o e=>Yp _ e
    refine⟨(s1.heap.push { cls:= .type "range",data:= .fields #[.int i t,.int j t',.int c t''] }).objs.size, [(s1.heap.push { cls:= .type "range",data:= .fields #[.int i t,.int j t',.int c t''] }).objs.size],_,_,H1,rfl,
     I2.kept (t':=s1.toks) fun b o e=>Yp _ e,vH _ i c n,?_,fun b hb=>?_,q⟩
    ·show IsRangeIter _ _ (i+((0:Nat):Int)*c) ((n:Int)-((0:Nat):Int)) c
     have e1:i+((0:Nat):Int)*c=i:=by simp
     have e2:(n:Int)-((0:Nat):Int)=Builtin.Range.rangeSize i j c:=by rw[hn];simp
     rw[e1,e2]
     exact YL _ rfl
    ·have e:b=(s1.heap.push { cls:= .type "range",data:= .fields #[.int i t,.int j t',.int c t''] }).objs.size:=by simpa using hb
     subst e
     exact I2.fpOk (Yd _) (I2.hok.fresh (Yd _))
end
theorem qW {lo c:Int}{n:Nat}{g:TG}{tb:TS}{D:Ends}{σ:St}{H:Hp}(Pv:Nat->St->Hp->Prop)(h0:Pv 0 σ H)
  (hs:∀i σ H,i<n->Pv i σ H->g (.int (lo+i*c)) σ H fun σ2 H2=>tb { D with nx:=Pv (i+1),ct:=Pv (i+1),bk:=D.nx } σ2 H2) (hd:∀σ H,Pv n σ H->D.nx σ H) :
  ∃ W:Nat->Nat->St->Hp->Prop,(∃m,W 0 m σ H)/\∀i m σ H,W i m σ H->
   ((a9T lo c n).stop i H/\D.nx σ H)\/((a9T lo c n).go i H/\∃N:St->Hp->Prop,(∀σ' H',N σ' H'->∃m',m'<m/\W (i+1) m' σ' H')/\∀x H',(a9T lo c n).yld i H x H'->g x σ H' fun σ2 H2=>tb { D with nx:=N,ct:=N,bk:=D.nx } σ2 H2):=by
 refine⟨fun i m σ H=>m=n-i/\i<=n/\Pv i σ H,⟨n,by simp,Xu _,h0⟩,?_⟩
 rintro i m σ H ⟨rfl,hi,p⟩
 by_cases hlt:i<n
 ·refine .inr ⟨hlt,Pv (i+1),fun σ' H' p'=>⟨n-(i+1),by omega,rfl,hlt,p'⟩,fun x H' y=>?_⟩
  obtain⟨e,y⟩:=y
  subst e y
  exact hs i σ _ hlt p
 ·have e:i=n:=by omega
  subst e
  exact .inl ⟨Yd _,hd σ H p⟩
section
end
section
variable {a b c:Expr}{ta tb tc:TE}
def uO (r r':R2)(ta tb tc:TE):TE:=fun σ H Q=>ta σ H fun x H1=>tb σ H1 fun y H2=>r x y H2 fun z H3=>vB z fun k=>if k=true then tc σ H3 fun u H4=>r' y u H4 Q else Q (.bl false) H3
theorem tL (r r':R2)(ta tb tc:TE):uO r r' ta tb tc=tY r r' ta tb tc:=by
 funext σ H Q
 unfold uO tY
 simp only[nR]
theorem wM {op op':CmpOp}{r r':R2}(ho:OpR X (compareOp op) r)(ho':OpR X (compareOp op') r')(ha:PE X a ta)(hb:PE X b tb)(hc:PE X c tc)
  (hm:lastMarks [op,op'] [b,c]=false:=by with_unfolding_all rfl):PE X (.Compare a [op,op'] [b,c] pos) (uO r r' ta tb tc):=by
 rw[tL];exact a7I ho ho' ha hb hc hm
theorem kY {op op':CmpOp}{r r':R2}(ho:OpR X (compareOp op) r)(ho':OpR X (compareOp op') r')(ha:PE X a ta)(hb:PE X b tb)(hc:PE X c tc)
  (hm:lastMarks [op,op'] [b,c]=false:=by with_unfolding_all rfl):PT X (.Compare a [op,op'] [b,c] pos) (qX (uO r r' ta tb tc)):=by
 rw[tL,xH];exact a6Z ho ho' ha hb hc hm
theorem qO (z:Int):∀ns:List Int,inV (.int z) (ns.map V.int)=decide (z∈ns)/\(ns.map V.int).all lY=true
 |[]=>⟨rfl,rfl⟩
 | n ::r=>by
  have ih:=qO z r
  refine⟨?_,?_⟩
  ·unfold inV at ih ⊢
   rw[YM,Xv,ih.1]
   show ((n == z) || decide (z∈r))=decide (z∈n::r)
   rw[Xx]
   simp only[Bool.or_eq_true,XH,XJ,YG]
   exact⟨fun h=>h.imp Eq.symm id,fun h=>h.imp Eq.symm id⟩
  ·rw[YM,XD,ih.2];rfl
def c0N (K:W.Frag)(f:Bool->Bool):R2:=fun x y H Q=>vI x fun z=>vR y fun p=>∃ns:List Int,SqA K H p (ns.map V.int)/\Q (.bl (f (decide (z∈ns)))) H
theorem b3B:OpR X (compareOp .In) (c0N X.K id):=sI.imp fun x y H Q h=>by
 obtain⟨z,rfl,hh⟩:=vI.ex h
 clear h
 obtain⟨p,rfl,ns,h1,q⟩:=vR.ex hh
 have e:=qO z ns
 exact⟨p,_,rfl,h1,rfl,e.2,by show Q (.bl (inV (.int z) (ns.map V.int))) H;rw[e.1];exact q⟩
theorem a4Q:OpR X (compareOp .NotIn) (c0N X.K not):=jO.imp fun x y H Q h=>by
 obtain⟨z,rfl,hh⟩:=vI.ex h
 clear h
 obtain⟨p,rfl,ns,h1,q⟩:=vR.ex hh
 have e:=qO z ns
 exact⟨p,_,rfl,h1,rfl,e.2,by show Q (.bl (!inV (.int z) (ns.map V.int))) H;rw[e.1];exact q⟩
end
section
theorem iW (hK:X.K=K:=by rfl):IxR X (c0M K):=by subst hK;exact eE
theorem b4R (hK:X.K=K:=by rfl):fH X (.builtin "len") (c0L K):=by subst hK;exact fC
theorem a2H (hK:X.K=K:=by rfl):fH X (.type "list") (a1E K):=by subst hK;exact iB
theorem b4O (hK:X.K=K:=by rfl):SlR X (c0I K):=by subst hK;exact a0A
end
theorem b8G:bootBuiltins "all"=some (.builtin "all"):=by decide +kernel
section
def c2T:R2:=fun x y H Q=>vR x fun l=>vI y fun k=>∃xs,H l=some (.lst xs)/\(-(2 ^ 63)<=k/\k<2 ^ 63)/\xs.length*k.toNat<=sizeLine/\∀p,H p=none->Q (.ref p) (upd H p (.lst (List.replicate k.toNat xs).flatten))
theorem a0C:OpR X (binaryOp .Mult) c2T:=b6L.imp fun x y H Q h=>by
 obtain⟨l,rfl,h⟩:=vR.ex h
 obtain⟨k,rfl,xs,h1,h2,h3,h4⟩:=vI.ex h
 exact⟨l,k,xs,rfl,rfl,h1,h2.1,h2.2,h3,h4⟩
theorem pH {α:Type}(k:Nat)(x:α):(List.replicate k [x]).flatten=List.replicate k x:=by
 induction k with
 |zero=>rfl
 |succ k ih=>rw[Xg,Xf,ih,Xg];rfl
def c2W:List V->Hp->VK->Prop:=fun xs H Q=>l1 xs fun x=>@V.rec (fun _=>Prop) False (fun b=>Q (.int (if b then 1 else 0)) H) (fun i=>Q (.int i) H) (fun _=>False) (fun _=>False) (fun _=>False) (fun _=>False) (fun _=>False) x
theorem b8X:fH X (.type "int") c2W:=a4J.imp fun xs H Q h=>by
 obtain⟨x,rfl,h⟩:=l1.ex h
 cases x with
 |int i=>exact .inl ⟨i,rfl,h⟩
 |bl b=>exact .inr ⟨b,rfl,h⟩
 |_=>exact h.elim
section
variable {o e:Expr}{es:List Expr}{to:TE}{t:TA}{apos cpos:Pos}
def b2P (to:TE)(t:TA):TE:=fun σ H Q=>to σ H fun x H1=>vR x fun l=>(∃xs,H1 l=some (.lst xs))/\t σ H1 fun vs H2=>l1 vs fun y=>vR y fun b=>∃xs zs,H2 l=some (.lst xs)/\H2 b=some (.lst zs)/\xs.length+zs.length<=sizeLine/\Q .non (upd H2 l (.lst (xs++zs)))
theorem a3L (ho:PE X o to)(ha:PA X [e] t)(hbase:attributeBase o "extend" X.env (eval o X.env)=eval o X.env:=by rfl)
  (hfew:((backTo cpos (starEach [e] X.env)).all (fun x=>!x.1) && (backToKw cpos (keywordEach [] X.env)).all (fun x=>x.1.isSome)
   && decide (([e]:List Expr).length+([]:List Keyword).length+(if ([]:List Keyword).isEmpty then 0 else 1)<30))=true:=by rfl)
  (hline:(apos.endLine == cpos.line)=true:=by rfl) (hs:starEach [e] X.env=(false,eval e X.env)::starEach [] X.env:=by rfl) (hplain:(backTo cpos (starEach [] X.env)).any (·.1)=false:=by rfl) :
  PE X (.Call (.Attribute o "extend" apos) [e] [] cpos) (b2P to t):=
 (a0S X2 PySem.F.slot_list_extend PySem.F.type_list_extend a3J (bT ho) (nY ha) hbase hfew hline hs hplain).imp fun σ H Q h=>⟨_,h,fun x H1 q=>by
  obtain⟨l,rfl,⟨xs,q1⟩,q2⟩:=vR.ex q
  refine⟨.inl ⟨rfl,xs,SqL.of q1⟩,_,q2,fun vs H2 q3=>?_⟩
  obtain⟨y,rfl,q3⟩:=l1.ex q3
  obtain⟨b,rfl,xs,zs,h1,h2,h3,h4⟩:=vR.ex q3
  exact⟨l,b,xs,zs,rfl,rfl,h1,h2,h3,h4⟩⟩
def b7V (to:TE)(t:TA):TE:=fun σ H Q=>to σ H fun x H1=>vR x fun l=>(∃xs,H1 l=some (.lst xs))/\t σ H1 fun vs H2=>l1 vs fun y=>vI y fun i=>∃xs k y,H2 l=some (.lst xs)/\(-(2 ^ 63)<=i/\i<2 ^ 63)/\seqIndex? i xs.length=some k/\xs[k]? =some y/\Q y (upd H2 l (.lst (xs.eraseIdx k)))
theorem a7Y (ho:PE X o to)(ha:PA X [e] t)(hbase:attributeBase o "pop" X.env (eval o X.env)=eval o X.env:=by rfl)
  (hfew:((backTo cpos (starEach [e] X.env)).all (fun x=>!x.1) && (backToKw cpos (keywordEach [] X.env)).all (fun x=>x.1.isSome)
   && decide (([e]:List Expr).length+([]:List Keyword).length+(if ([]:List Keyword).isEmpty then 0 else 1)<30))=true:=by rfl)
  (hline:(apos.endLine == cpos.line)=true:=by rfl) (hs:starEach [e] X.env=(false,eval e X.env)::starEach [] X.env:=by rfl) (hplain:(backTo cpos (starEach [] X.env)).any (·.1)=false:=by rfl) :
  PE X (.Call (.Attribute o "pop" apos) [e] [] cpos) (b7V to t):=
 (a0S X2 PySem.F.slot_list_pop PySem.F.type_list_pop a7U (bT ho) (nY ha) hbase hfew hline hs hplain).imp fun σ H Q h=>⟨_,h,fun x H1 q=>by
  obtain⟨l,rfl,⟨xs,q1⟩,q2⟩:=vR.ex q
  refine⟨.inl ⟨rfl,xs,SqL.of q1⟩,_,q2,fun vs H2 q3=>?_⟩
  obtain⟨y,rfl,q3⟩:=l1.ex q3
  obtain⟨i,rfl,xs,k,y,h1,h2,h3,h4,h5⟩:=vI.ex q3
  exact⟨l,xs,i,k,y,rfl,rfl,h1,h2.1,h2.2,h3,h4,h5⟩⟩
end
theorem pX:∀{bs:List Bool}{us:List Value},Vals (bs.map V.bl) us->us=bs.map Value.bool
 |[],_,.nil=>rfl
 | b::r,_,.cons h t=>by
  cases (show _=Value.bool b from h)
  rw[pX t];rfl
def c2Y (K:W.Frag):List V->Hp->VK->Prop:=fun xs H Q=>l1 xs fun x=>vR x fun p=>∃bs:List Bool,SqL K H p (bs.map V.bl)/\Q (.bl (bs.all id)) H
theorem all_range (bs:List Bool):(List.range bs.length).all (fun i=>bs.getD i false)=bs.all id:=by
 have e:(List.range bs.length).map (fun i=>bs.getD i false)=bs:=by
  apply List.ext_getElem
  ·simp
  ·intro i h1 h2
   simp[Yh,h2]
 conv=>rhs;rw[<-e,List.all_map]
 rfl
theorem b9A (hc:X.calm=true):fH X (.builtin "all") (c2Y X.K):=by
 intro pins s σ H xs us Q I r h
 obtain⟨x,rfl,h⟩:=l1.ex h
 obtain⟨p,rfl,bs,hS,q⟩:=vR.ex h
 obtain⟨u,rfl,ru⟩:=vals1 r
 cases ru
 obtain⟨its,rv,pl,_⟩:=I.list hS
 have ei:=pX rv
 subst ei
 have hl:=pl.isList
 have hlt:p<s.heap.objs.size:=by obtain⟨_,e,_⟩:=hl;exact Ys e
 refine call_all_walk (wpAny_pyIter_list hl ?_)
 refine⟨_,_,_,_,_,_,fun i=>bs.getD i false,rfl,Walks.list (A:=X.A.in1) (I.ok.hd hc) _ p (YO hlt) _,⟨⟨_,YL _ rfl,rfl,rfl⟩,hl.push _⟩,?_,fun h' tk hk=>?_⟩
 ·intro i v s' Q' E' hP hq
  have hv:(bs.map Value.bool)[i]? =some v:=by simpa using hP
  rw[Yl]at hv
  obtain⟨b,hb,rfl⟩:=YH.mp hv
  have:bs.getD i false=b:=by rw[Yh,hb];rfl
  simp only[this]at hq
  exact Xc hq
 ·have e:(bs.map Value.bool).toArray.size=bs.length:=by simp
  rw[e,all_range]
  exact⟨.bl _,H,I.kept (old_kept hk),rfl,q⟩
end
section
variable {P:Program}{w:World}{mg:Str->Option Value}{base:Heap}{N:List Str}{qual:Str}{scope:Scope}{f:Addr}{cd:Value}{A:Around}{outer:List Env}{E:XK}
end
section
variable {np hpos:Pos}{y n:Str}{C:Addr}{i:Nat}{b₀:Stmt}{suite:List Stmt}{ts:TS}{hs:List ExceptHandler}{th:TH}
end
section
variable {o e value:Expr}{es:List Expr}{to ta tv:TE}{t:TA}{apos cpos pos':Pos}{C:Addr}{f m:Str}
def c3R (C:Addr)(ta:TE)(f:Str):TE:=fun σ H Q=>ta σ H fun x H1=>vR x fun a=>∃dx fs v,H1 a=some (.ins C dx fs)/\fs.lookup f=some v/\Q v H1
theorem aN (c:Cls X.K C)(n:bH X.K C f)(he:PE X e ta)(hb:attributeBase e f X.env (eval e X.env)=eval e X.env:=by rfl):PE X (.Attribute e f pos) (c3R C ta f):=
 (a7F (bT he) hb).imp fun σ H Q h=>⟨_,h,fun x H1 q=>by
  obtain⟨a,rfl,dx,fs,v,h1,h2,h3⟩:=vR.ex q
  exact⟨a,C,dx,fs,v,rfl,h1,c,n,h2,h3⟩⟩
def c3P (C:Addr)(ta tv:TE)(f:Str):TS:=fun D σ H=>tv σ H fun y H1=>ta σ H1 fun x H2=>vR x fun a=>∃dx fs,H2 a=some (.ins C dx fs)/\fs.length<1000/\D.nx σ (upd H2 a (.ins C dx (dZ f y fs)))
theorem bM (c:Cls X.K C)(n:bH X.K C f)(ha:PE X o ta)(hv:PE X value tv)(hs:swapsWith value (some (.Attribute o f pos')) pos.line X.env=pure false:=by rfl):
  PS X (.Assign [.Attribute o f pos'] value pos) (c3P C ta tv f):=
 (a7A (bT ha) (bT hv) hs).imp fun D σ H h=>⟨_,h,fun y H1 q=>⟨_,q,fun x H2 q2=>by
  obtain⟨a,rfl,dx,fs,h1,h2,h3⟩:=vR.ex q2
  exact⟨a,C,dx,fs,rfl,h1,c,n,h2,h3⟩⟩⟩
variable {CX:CXT}{k:Nat}{fa:Addr}{fd:FuncData}{ps:List Str}{sp:Sp}{dvs:List V}{ds:List Value}{E:XK}
def b4I (C:Addr)(m:Str)(sp:Sp)(dvs:List V)(E:XK)(ta:TE)(t:TA):TE:=fun σ H Q=>ta σ H fun x H1=>vR x fun a=>(∃dx fs,H1 a=some (.ins C dx fs)/\fs.lookup m=none)/\t σ H1 fun vs H2=>sp (.ref a::(vs++dvs)) H2 Q E
theorem cB {pl:Sem Bool}(c:Cls X.K C)(hm:Meth X.K C m fa)(F:fQ X.prog X.w X.K X.mg X.base CX k fa fd ps sp)(hr:dR k X.A)(hb:Binds X.K fd ps ds)(hd:Vals dvs ds)(hx:fP CX X E)(he:PE X o ta)(ha:PA X (e::es) t)
  (hst:starEach (e::es) X.env=(false,eval e X.env)::starEach es X.env:=by rfl) (hpl:(backTo pos (starEach es X.env)).any (·.1)=false:=by rfl)
  (ht:eval (.Call (.Attribute o m apos) (e::es) [] pos) X.env=(do
   let ov<-eval o X.env
   standAt apos.atName
   let (f,first)<-holding [ov] (getMethod ov m pl)
   callWith pos f first (backTo pos (starEach (e::es) X.env)) (backToKw pos (keywordEach [] X.env))):=by rfl) :
  PE X (.Call (.Attribute o m apos) (e::es) [] pos) (b4I C m sp dvs E ta t):=
 (b1Q (pl:=pl) (bT he) c hm F hr hb hd hx (nY ha) hst hpl ht).imp fun σ H Q h=>⟨_,h,fun x H1 q=>by
  obtain⟨a,rfl,⟨dx,fs,h1,h2⟩,h3⟩:=vR.ex q
  exact⟨a,dx,fs,rfl,h1,h2,_,h3,fun vs H2 z=>z⟩⟩
theorem bW {pl:Sem Bool}(c:Cls X.K C)(hm:Meth X.K C m fa)(F:fQ X.prog X.w X.K X.mg X.base CX k fa fd ps sp)(hr:dR k X.A)(hb:Binds X.K fd ps ds)(hd:Vals dvs ds)(hx:fP CX X E)(he:PE X o ta)
  (ht:eval (.Call (.Attribute o m apos) [] [] pos) X.env=(do
   let ov<-eval o X.env
   standAt apos.atName
   let (f,first)<-holding [ov] (getMethod ov m pl)
   callWith pos f first (backTo pos (starEach [] X.env)) (backToKw pos (keywordEach [] X.env))):=by rfl) :
  PE X (.Call (.Attribute o m apos) [] [] pos) (b4I C m sp dvs E ta a2N):=
 (a7D (pl:=pl) (bT he) c hm F hr hb hd hx ht).imp fun σ H Q h=>⟨_,h,fun x H1 q=>by
  obtain⟨a,rfl,⟨dx,fs,h1,h2⟩,h3⟩:=vR.ex q
  exact⟨a,dx,fs,rfl,h1,h2,h3⟩⟩
end
section
noncomputable def rO (h:Heap)(d:PyData):Value->Bool:=by
 classical
 exact fun y=>if g:∃d' as,Reads h y d' as then PyData.eqv g.choose d else false
theorem a1R {h:Heap}{d':PyData}{y:Value}{as:List Addr}(r:Reads h y d' as):rO h d y=PyData.eqv d' d:=by
 have g:∃d' as,Reads h y d' as:=⟨d',as,r⟩
 unfold rO
 simp only[dif_pos g]
 obtain⟨bs,r'⟩:=g.choose_spec
 rw[(reads_det (fun b o e _=>e) r r').1]
theorem uY {h:Heap}:∀{us:List Value}{ds:List PyData}{as:List Addr},ReadsAll h us ds as->us.any (rO h d)=ds.any fun e=>PyData.eqv e d
 |_,_,_,.nil=>rfl
 |_,_,_,.cons r t=>by rw[Xv,Xv,a1R r,uY t]
theorem uG {A:Around}{v:Value}{bs:List Addr}(rv:Reads s.heap v d bs)(hd:SeqAt.shaped d=true)(hu:A.units+64<cLine):∀{us:List Value}{ds:List PyData}{as:List Addr},ReadsAll s.heap us ds as->(∀e∈ds,SeqAt.shaped e=true)->∀u∈us,SeqAt.EqAt A s u v (rO s.heap d u)
 |_,_,_,.nil,_=>fun u hu=>by cases hu
 | _, _,_,.cons r t,f=>fun u hm=>by
  rcases YG.mp hm with rfl | hm
  ·rw[a1R r]
   have h1:=f _ YC
   exact SeqAt.eqAt_reads _ _ A s _ _ _ _ r rv (SeqAt.canLay_of_shaped h1) (SeqAt.canLay_of_shaped hd) (SeqAt.room_of_shaped h1 hu)
  ·exact uG rv hd hu t (fun e he=>f e (Yw _ he)) u hm
def b7B (K:W.Frag)(f:Bool->Bool):R2:=fun x y H Q=>vR y fun p=>∃d ds xs,DV K H x d/\SqL K H p xs/\DVs K H xs ds/\SeqAt.shaped d=true/\(∀e∈ds,SeqAt.shaped e=true)/\Q (.bl (f (ds.any fun e=>PyData.eqv e d))) H
theorem b8Z (hu:X.A.in1.units+64<cLine):OpR X (compareOp .In) (b7B X.K id):=by
 intro pins s σ H x y v u Q I rx ry h
 obtain⟨p,rfl,d,ds,xs,hd,hS,hs,sd,ss,q⟩:=vR.ex h
 cases ry
 obtain⟨its,rv,pl,_⟩:=I.list hS
 obtain⟨as,ra⟩:=I.reads hd rx
 obtain⟨bs,rb⟩:=I.readsAll hs rv
 refine SeqAt.in_listAt (rO s.heap d) pl.isList (fun w hw=>uG ra sd hu rb ss w (by simpa using hw)) ⟨.bl _,H,I,rfl,?_⟩
 rw[show its.toArray.any (rO s.heap d)=its.any (rO s.heap d) by simp,uY rb]
 exact q
theorem a4R (hu:X.A.in1.units+64<cLine):OpR X (compareOp .NotIn) (b7B X.K not):=by
 intro pins s σ H x y v u Q I rx ry h
 obtain⟨p,rfl,d,ds,xs,hd,hS,hs,sd,ss,q⟩:=vR.ex h
 cases ry
 obtain⟨its,rv,pl,_⟩:=I.list hS
 obtain⟨as,ra⟩:=I.reads hd rx
 obtain⟨bs,rb⟩:=I.readsAll hs rv
 refine SeqAt.notIn_listAt (rO s.heap d) pl.isList (fun w hw=>uG ra sd hu rb ss w (by simpa using hw)) ⟨.bl _,H,I,rfl,?_⟩
 rw[show its.toArray.any (rO s.heap d)=its.any (rO s.heap d) by simp,uY rb]
 exact q
end
def prD (p:Int×Int):PyData:= .tuple [.int p.1,.int p.2]
theorem b1K (p q:Int×Int):PyData.eqv (prD p) (prD q)=decide (p=q):=by
 obtain⟨a,b⟩:=p
 obtain⟨c,d⟩:=q
 simp only[prD,PyData.eqv,PyData.eqvAll,Bool.and_true]
 by_cases h1:a=c <;> by_cases h2:b=d <;> simp[h1,h2]
theorem b1L (p:Int×Int)(ps:List (Int×Int)):(ps.map prD).any (fun e=>PyData.eqv e (prD p))=decide (p∈ps):=by
 induction ps with
 |nil=>simp
 | cons q r ih=>
  rw[YM,Xv,ih,b1K]
  by_cases h1:q=p
  ·simp[h1]
  ·have h2:¬ p=q:=fun z=>h1 z.symm
   simp[h1,h2]
theorem qH (p:Int×Int):SeqAt.shaped (prD p)=true:=by
 obtain⟨a,b⟩:=p
 rfl
inductive gW (K:W.Frag)(H:Hp):List Addr->List (Int×Int)->Prop
 |nil:gW K H [] []
 |cons {q:Addr} {p:Int×Int} {qs:List Addr} {ps:List (Int×Int)}:SqT K H q [.int p.1,.int p.2]->gW K H qs ps->gW K H (q::qs) (p::ps)
theorem gW.dvs:∀{qs:List Addr}{ps:List (Int×Int)},gW K H qs ps->DVs K H (qs.map V.ref) (ps.map prD)
 |_,_,.nil=> .nil
 |_,_,.cons h t=> .cons (.tup h (.cons (.int _) (.cons (.int _) .nil))) (gW.dvs t)
section
def a3N (K:W.Frag)(f:Bool->Bool):R2:=fun x y H Q=>vR x fun t=>vR y fun l=>∃(p:Int×Int)(ps:List (Int×Int))(qs:List Addr),SqT K H t [.int p.1,.int p.2]/\SqL K H l (qs.map V.ref)/\gW K H qs ps/\Q (.bl (f (decide (p∈ps)))) H
theorem a3N.to {f:Bool->Bool}:∀x y H Q,a3N K f x y H Q->b7B K f x y H Q:=fun x y H Q h=>by
 obtain⟨t,rfl,hh⟩:=vR.ex h
 obtain⟨l,rfl,p,ps,qs,h1,h2,h3,q⟩:=vR.ex hh
 refine⟨prD p,ps.map prD,qs.map V.ref,.tup h1 (.cons (.int _) (.cons (.int _) .nil)),h2,h3.dvs,qH p,fun e he=>?_,?_⟩
 ·obtain⟨z,_,rfl⟩:=YA.mp he
  exact qH z
 ·rw[b1L];exact q
theorem b8Y (hu:X.A.in1.units+64<cLine):OpR X (compareOp .In) (a3N X.K id):=(b8Z hu).imp a3N.to
theorem a4P (hu:X.A.in1.units+64<cLine):OpR X (compareOp .NotIn) (a3N X.K not):=(a4R hu).imp a3N.to
end
end L2
namespace L2
open PySem
variable {K:W.Frag}{H:Hp}{a:Addr}
theorem dR.units1 {k:Nat}{A:Around}(r:dR k A):A.in1.units+64<cLine:=by have:=r.un;show A.units+1+64<_;omega
theorem gW.get:∀{qs:List Addr}{ps:List (Int×Int)},gW K H qs ps->∀{i:Nat}{q:Addr},qs[i]? =some q->∃p,ps[i]? =some p/\SqT K H q [.int p.1,.int p.2]
 |_,_,.nil,i,q,h=>by simp at h
 | _,_,.cons (p:=p) h t,0,q,e=>by
  cases (Yo e)
  exact⟨p,rfl,h⟩
 |_,_,.cons h t,i+1,q,e=>gW.get t e
theorem gW.len:∀{qs:List Addr}{ps:List (Int×Int)},gW K H qs ps->qs.length=ps.length
 |_,_,.nil=>rfl
 |_,_,.cons h t=>by rw[Yz,Yz,gW.len t]
theorem Same.seqT {H':Hp}{xs:List V}(e:Same H H')(h:SqT K H a xs):SqT K H' a xs:=by
 rcases h with (h | ⟨o,h⟩) | h
 ·exact .inl (.inl (e _ _ h))
 ·exact .inl (.inr ⟨o,e _ _ h⟩)
 ·exact .inr h
theorem gW.same {H':Hp}(e:Same H H'):∀{qs:List Addr}{ps:List (Int×Int)},gW K H qs ps->gW K H' qs ps
 |_,_,.nil=> .nil
 |_,_,.cons h t=> .cons (e.seqT h) (gW.same e t)
def zR (K:W.Frag)(a:Addr)(ns:List Int):Prop:=∃(o:Obj)(its:Array Value)(n:Nat),K.lookup a=some o/\o.cls= .type "tuple"/\o.data= .seq its n/\its.size<=sizeLine/\Vals (ns.map V.int) its.toList
theorem zR.of {od:Option Addr}{sl:Array (Option Value)}{n:Nat}{its:Array Value}{ns:List Int}(h:K.lookup a=some ⟨.type "tuple",od,.seq its n,sl⟩)(hs:its.size<=sizeLine)(hv:Vals (ns.map V.int) its.toList):zR K a ns:=⟨_,its,n,h,rfl,rfl,hs,hv⟩
theorem zR.sq {ns:List Int}(h:zR K a ns)(H:Hp):SqT K H a (ns.map V.int):= .inr h
end L2
namespace L2
open PySem PySem.Spec PyProof.Rows
variable {X:Cx}{o:Expr}{e:Expr}{to:TE}{t:TA}{apos:Pos}{cpos:Pos}
theorem dM {s:Stmt}:PS X s (fun _ _ _=>False):=fun _ _ _ _ _ _ h=>h.elim
section
end
section
end
theorem a3T {ns:List Int}:∀{us:List Value},Vals (ns.map V.int) us->W.kf_ints us=true:=by
 induction ns with
 |nil=>intro us r;rw[List.map_nil]at r;cases r;rfl
 | cons n ns ih=>
  intro us r
  rw[YM]at r
  cases r with
  | cons r1 r2=>
   obtain⟨t,e⟩:=r1
   subst e
   have:=ih r2
   exact this
theorem b2F {ns:List Int}{k:Int}:∀{us:List Value}{j:Nat},Vals (ns.map V.int) us->ns[j]? =some k->(∀m,m<j->ns[m]?≠some k)->W.kf_at k us=some j:=by
 induction ns with
 |nil=>intro us j r h _;simp at h
 | cons n ns ih=>
  intro us j r h hn
  rw[YM]at r
  cases r with
  | cons r1 r2=>
   obtain⟨t,e⟩:=r1
   subst e
   unfold W.kf_at
   cases j with
   | zero=>
    have:n=k:=Yo h
    subst this
    have e1:isInt n (Value.int n t)=true:=by simp[isInt]
    rw[e1];rfl
   | succ j=>
    have h0:n≠k:=fun z=>hn 0 (Nat.succ_pos _) (by rw[z];rfl)
    have e1:isInt k (Value.int n t)=false:=by simp[isInt,h0]
    rw[e1,ih r2 h fun m hm=>hn (m+1) (Nat.succ_lt_succ hm)]
    rfl
section
def b5Y:V->List V->Hp->VK->Prop:=fun x vs H Q=>∃(l:Addr)(ns:List Int)(k:Int)(j:Nat),x= .ref l/\vs= [.int k]/\H l=some (.lst (ns.map V.int))/\j<100000/\ns[j]? =some k/\(∀m,m<j->ns[m]?≠some k)/\Q (.int (j:Nat)) H
theorem a7V:MtM X "list.index" b5Y:=by
 intro pins s σ H x vs v us Q I rx rv h
 obtain⟨l,ns,k,j,rfl,rfl,hH,hz,h1,h2,q⟩:=h
 cases rx
 obtain⟨u,rfl,ru⟩:=rv.one
 obtain⟨t,rfl⟩:=ru
 obtain⟨z,its,n,r,hl,e⟩:=I.lstM hH
 have ha:=b2F r h1 h2
 have hi:=a3T r
 obtain⟨a,b,c⟩:=W.kf_at_spec ha
 refine call_meets PySem.F.slot_list_index ⟨_,e,rfl⟩ PySem.F.entry_list_index (PySem.F.args_list_index_2 _ _)
  (MeetsSeq.list_index l its.toArray n (.int k t) (isInt k) (fun y hy=>W.kf_eq hi y (by simpa using hy)) j (by simpa using a) (by omega) (by simpa using b) (fun i hi hlt=>by simpa using (c i (by simpa using hi) hlt:isInt k its[i]=false))) ⟨e,?_⟩
 exact⟨.int (j:Nat),H,I.tok _,⟨_,rfl⟩,q⟩
def b8A (to:TE)(t:TA):TE:=fun σ H Q=>to σ H fun x H1=>vR x fun l=>(∃xs,H1 l=some (.lst xs))/\t σ H1 fun vs H2=>l1 vs fun y=>vI y fun k=>∃(ns:List Int)(j:Nat),H2 l=some (.lst (ns.map V.int))/\j<100000/\ns[j]? =some k/\(∀m,m<j->ns[m]?≠some k)/\Q (.int (j:Nat)) H2
theorem a7Z (ho:PE X o to)(ha:PA X [e] t)(hbase:attributeBase o "index" X.env (eval o X.env)=eval o X.env:=by rfl)
  (hfew:((backTo cpos (starEach [e] X.env)).all (fun x=>!x.1) && (backToKw cpos (keywordEach [] X.env)).all (fun x=>x.1.isSome)
   && decide (([e]:List Expr).length+([]:List Keyword).length+(if ([]:List Keyword).isEmpty then 0 else 1)<30))=true:=by rfl)
  (hline:(apos.endLine == cpos.line)=true:=by rfl) (hs:starEach [e] X.env=(false,eval e X.env)::starEach [] X.env:=by rfl) (hplain:(backTo cpos (starEach [] X.env)).any (·.1)=false:=by rfl) :
  PE X (.Call (.Attribute o "index" apos) [e] [] cpos) (b8A to t):=
 (a0S X2 PySem.F.slot_list_index PySem.F.type_list_index a7V (bT ho) (nY ha) hbase hfew hline hs hplain).imp fun σ H Q h=>⟨_,h,fun x H1 q=>by
  obtain⟨l,rfl,⟨xs,q1⟩,q2⟩:=vR.ex q
  refine⟨.inl ⟨rfl,xs,SqL.of q1⟩,_,q2,fun vs H2 q3=>?_⟩
  obtain⟨y,rfl,q3⟩:=l1.ex q3
  obtain⟨k,rfl,ns,j,h1,h2,h3,h4,h5⟩:=vI.ex q3
  exact⟨l,ns,k,j,rfl,rfl,h1,h2,h3,h4,h5⟩⟩
end
end L2
namespace L2
open PySem PySem.Spec PyProof.Rows PySem.MeetsSeq PySem.SeqAt
section
variable {X:Cx}{o e:Expr}{to:TE}{t:TA}{apos cpos:Pos}
end
end L2
namespace L2
open PySem PySem.Spec PyProof.Rows
variable {P:Program}{w:World}{K:W.Frag}{pos:Pos}{p:Pos}{X:Cx}{i:Nat}{k:Nat}{kvs:List (List Key×V)}{o:Option V}{y:V}{u:Value}{H:Hp}{xs:List (List Key×Addr×Value)}{b:Addr}{H':Hp}{h':Heap}{pins:List (Addr×Obj)}{σ:St}{s:Shared}{a:Addr}{Q:Value->Shared->Prop}{cs:List Addr}{cl:List (Str×Addr)}{qual:Str}{params:Arguments}{body:Expr}{scope:Scope}{f:Addr}{A:Around}{E:Value->Shared->Prop}{e:Expr}{value:Expr}{es:List Expr}{to:TE}{ta:TE}{tv:TE}{t:TA}{apos:Pos}{cpos:Pos}{pos':Pos}{C:Addr}{m:Str}{fa:Addr}{fd:FuncData}{ps:List Str}{sp:Sp}{dvs:List V}{ds:List Value}{x:Str}
set_option maxRecDepth 100000
section
variable {prog:Program}{I:Addr}{fp wr:List Addr}{n:Nat}{P:Nat->Value->Prop}{St:Nat->Heap->Prop}{d:Value}
end
section
variable {prog:Program}
end
section
end
theorem uW:bootBuiltins "enumerate"=some (.type "enumerate"):=by decide +kernel
section
theorem Inv.turnedT {h':Heap}{t':Nat}{fp:List Addr}{T:Addr}{xs:List V}(I:Inv X pins σ H s)(hf:∀b∈fp,pB X pins H b)(k:∀b o,b∉fp->s.heap.get? b=some o->h'.get? b=some o)(hT:s.heap.objs.size<=T)
  (new:dU X.prog X.w (upd H T (.tup xs)) h' T (.tup xs)):Inv X pins σ (upd H T (.tup xs)) { s with heap:=h',toks:=t' }:=by
 have hN:H T=none:=I.hok.fresh hT
 have neT:∀b o,s.heap.get? b=some o->b≠T:=fun b o e z=>by
  have:=Ys e
  rw[z]at this
  exact absurd (Yj this hT) (Y3 _)
 have up:∀b u,H b=some u->upd H T (.tup xs) b=some u:=fun b u e=>by rw[aH (aP e hN)];exact e
 have nit:∀b u,H b=some u->b∉fp:=fun b u e z=>by rw[(hf b z).1]at e;cases e
 refine I.step (g':=s.gens) (d':=s.drawn) (ch:=fp) (fun b hb=>?_) (fun b o _ _ hc e _=>k b o hc e) (fun b o _ _ hc e _=>⟨o.slots,k b o hc e⟩) (fun b o _ e n=>by rw[aH (neT b o e)];exact n)
  (fun b o hc e=>⟨o,k b o hc e⟩) (fun b _ e=>up b _ e) (fun b _ _ e=>up b _ e) (fun b ps e=>⟨#[],by rw[up b _ e];simp⟩) (fun m hm=>?_) (fun b u e=>?_) I.bare
 ·obtain⟨f0,f1,f2,f3,f4,f5⟩:=hf b hb
  exact⟨f3,f1,f4,f5⟩
 ·obtain⟨o,es,ep,ho,r⟩:=hm
  exact⟨o,es,ep,k _ o (fun z=>(hf _ z).2.1 rfl) ho,r⟩
 ·by_cases hb:b=T
  ·subst hb
   rw[aB]at e
   cases e
   exact new
  ·rw[aH hb]at e
   refine(I.hok b u e).stay (fun c v hc q=>k c v ?_ q) (fun _ q=>up _ _ q) fun _ _ q=>up _ _ q
   rcases hc with z | z
   ·rw[z];exact nit b u e
   ·exact nit c _ z
end
def Ite (K:W.Frag)(a:Addr):It:=
 ⟨fun i H=>∃xs x,SqL K H a xs/\xs[i]? =some x,fun i H v H'=>∃p x,H p=none/\v= .ref p/\(∀xs,SqL K H a xs->xs[i]? =some x)/\H'=upd H p (.tup [.int ((i:Nat):Int),x]),fun i H=>∃xs,SqL K H a xs/\xs.length<=i⟩
theorem a2K {elts:List Expr}{k':Nat}(a e it:Addr)(hei:e≠it):
  Turn P w K (.Tuple elts k' pos) (Ite K a) [e,it] e (fun i h=>(∃old,IsEnum h e it ((i:Nat):Int) old)/\h.IsListIter it a i) where
 mem:=by simp
 obj := fun i h st b hb=>by
  obtain⟨⟨old,he⟩,o,e1,c,d⟩:=st
  simp only[YG,Xd,or_false]at hb
  rcases hb with rfl | rfl
  ·exact⟨_,he,fun v z=>by
    have z':Data.fields _=Data.cell v:=z
    cases z'⟩
  ·exact⟨o,e1,fun v z=>by rw[d]at z;cases z⟩
 keep:=fun i h h' st k=>by
  obtain⟨⟨old,he⟩,hit⟩:=st
  exact⟨⟨old,k e (by simp) _ he⟩,hit.at fun o x=>k it (by simp) o x⟩
 item :=by
  intro X hP hw hK hc i pins s σ H E I hf st hg
  subst hP hw hK
  obtain⟨⟨old,he⟩,hit⟩:=st
  obtain⟨xs,x,hq,hx⟩:=hg
  obtain⟨its,rv,p,hz⟩:=I.list hq
  obtain⟨u,hu,ru⟩:=rv.get hx
  refine wpAny_pyNext_enum_item he hit p.isList (x:=u) (by simpa using hu) hei fun h1 ho hit1 hT hsz hk=>?_
  refine⟨_,rfl,wpAny_letOwnedTupleGo_enum (s:={ s with heap:=h1,toks:=s.toks+1 }) ho fun h2 he2 hs2=>?_⟩
  have hs2':Heap.SameBut e h1 h2:=hs2
  have eT:e≠s.heap.objs.size:=YO (Ys he)
  have iT:it≠s.heap.objs.size:=by obtain⟨o,e1,_⟩:=hit;exact YO (Ys e1)
  have hN:H s.heap.objs.size=none:=I.hok.fresh (Yd _)
  refine⟨.ref s.heap.objs.size,upd H s.heap.objs.size (.tup [.int ((i:Nat):Int),x]),I.turnedT hf (fun b o hb q=>?_) (Yd _) ?_,rfl,⟨_,x,hN,rfl,fun ys hy=>by rw[I.list_inj hy hq];exact hx,rfl⟩,⟨⟨u,?_⟩,?_⟩,fun b hb=>?_⟩
  ·have b1:b≠e:=fun z=>hb (by simp[z])
   have b2:b≠it:=fun z=>hb (by simp[z])
   exact(hs2'.2 b b1).trans (hk b o b1 b2 q)
  ·exact⟨(by show 2<=sizeLine;decide), [.int ((i:Nat):Int) s.toks,u],.cons ⟨_,rfl⟩ (.cons ru .nil),⟨_,(hs2'.2 _ (Ne.symm eT)).trans hT,rfl,_,rfl⟩⟩
  ·have:((i+1:Nat):Int)=((i:Nat):Int)+1:=by push_cast;rfl
   rw[this];exact he2
  ·exact hit1.at fun o y=>(hs2'.2 it (Ne.symm hei)).trans y
  ·have h1:=(hf b hb).1
   have:b≠s.heap.objs.size:=by
    simp only[YG,Xd,or_false]at hb
    rcases hb with rfl | rfl
    ·exact eT
    ·exact iT
   rw[aH this];exact h1
 done:=by
  intro X hP hw hK hc i pins s σ H E I hf st hg
  subst hP hw hK
  obtain⟨⟨old,he⟩,hit⟩:=st
  obtain⟨xs,hq,hx⟩:=hg
  obtain⟨its,rv,p,hz⟩:=I.list hq
  obtain⟨f0,f1,f2,f3,f4,f5⟩:=hf it (by simp)
  have hl:=rv.length
  exact wpAny_pyNext_enum_end (I.ok.hd hc) he hit p.isList (Array.getElem?_eq_none (by simp;omega)) fun h' eb=>⟨rfl,I.turned (t':=s.toks) (fun b o hb e=>eb b o hb e) f0 f1 f3 f4 f5⟩
 self:=fun _ _ _ _ _ st h=>by
  obtain⟨⟨old,he⟩,_⟩:=st
  exact wpAny_pyIter_enum he h
section
def c1I (K:W.Frag)(ta:TA):TI:=fun σ H R=>ta σ H fun vs H1=>l1 vs fun x=>vR x fun a=>(∃xs,SqL K H1 a xs)/\R (Ite K a) H1
theorem a1C {a:Expr}{ta:TA}{tpos:Pos}{elts:List Expr}{k':Nat}(hg:Gl X "enumerate")(hm:X.mg "enumerate"=none)(ha:PA X [a] ta)(hs:starEach [a] X.env= [(false,eval a X.env)]:=by rfl):
  PI X (.Tuple elts k' tpos) (.Call (.Name "enumerate" p) [a] [] pos) (c1I X.K ta):=by
 intro pins s σ H R I h
 refine Call_ (oE I hg hm uW (XN (thn (ha pos pins s σ H _ I h) fun us s1 hz9=>?_) hs rfl))
 obtain⟨vs,H1,I1,r1,q1⟩:=hz9
 obtain⟨x,rfl,q1⟩:=l1.ex q1
 obtain⟨l,rfl,⟨xs,hq⟩,q⟩:=vR.ex q1
 obtain⟨u,rfl,ru⟩:=vals1 r1
 cases ru
 obtain⟨its,rv,pl,hz⟩:=I1.list hq
 refine call_enumerate_list pl.isList fun h' he hit hsz hk=>?_
 refine wpAny_pyIter_enum (s:={ s1 with heap:=h' }) he ?_
 have I2:Inv X pins σ H1 { s1 with heap:=h' }:=I1.kept (t':=s1.toks) hk
 refine⟨s1.heap.objs.size+1, [s1.heap.objs.size+1,s1.heap.objs.size],_,_,H1,rfl,I2,a2K l _ _ (Nat.succ_ne_self _),⟨⟨_,he⟩,hit⟩,fun b hb=>?_,q⟩
 simp only[YG,Xd,or_false]at hb
 rcases hb with rfl | rfl
 ·exact I1.fpOk (Nat.le_succ _) (I1.hok.fresh (Nat.le_succ _))
 ·exact I1.fpOk (Yd _) (I1.hok.fresh (Yd _))
end
def gT2 (K:W.Frag)(i j:Nat):TG:=fun v σ H Q=>vR v fun a=>∃x y,SqT K H a [x,y]/\Q ((σ.set i (some x)).set j (some y)) H
theorem mg2 {tg:Expr}{j:Nat}(h:PG X tg (c0W X.K 2 (a8U (wW i) (a8U (wW j) c0X)))):PG X tg (gT2 X.K i j):=by
 intro pins s σ H v u Q I r q
 obtain⟨a,rfl,x,y,h1,h2⟩:=vR.ex q
 exact h pins s σ H _ u Q I r ⟨a,_,rfl,h1,rfl,_,_,rfl,_,_,rfl,rfl,h2⟩
theorem wX {K:W.Frag}{a:Addr}{xs:List V}{g:TG}{tb:TS}{D:Ends}{σ:St}{H:Hp}(Pv:Nat->St->Hp->Prop)(h0:Pv 0 σ H)(hl:∀i σ H,i<=xs.length->Pv i σ H->SqL K H a xs)
  (hs:∀i x σ H p,xs[i]? =some x->Pv i σ H->H p=none->g (.ref p) σ (upd H p (.tup [.int ((i:Nat):Int),x])) fun σ2 H2=>tb { D with nx:=Pv (i+1),ct:=Pv (i+1),bk:=D.nx } σ2 H2) (hd:∀σ H,Pv xs.length σ H->D.nx σ H) :
  ∃ W:Nat->Nat->St->Hp->Prop,(∃m,W 0 m σ H)/\∀i m σ H,W i m σ H->
   ((Ite K a).stop i H/\D.nx σ H)\/((Ite K a).go i H/\∃N:St->Hp->Prop,(∀σ' H',N σ' H'->∃m',m'<m/\W (i+1) m' σ' H')/\∀x H',(Ite K a).yld i H x H'->g x σ H' fun σ2 H2=>tb { D with nx:=N,ct:=N,bk:=D.nx } σ2 H2):=by
 refine⟨fun i m σ H=>m=xs.length-i/\i<=xs.length/\Pv i σ H,⟨xs.length,by simp,Xu _,h0⟩,?_⟩
 rintro i m σ H ⟨rfl,hi,p⟩
 have q:=hl i σ H hi p
 by_cases hlt:i<xs.length
 ·refine .inr ⟨⟨xs,xs[i],q,by simp[hlt]⟩,Pv (i+1),fun σ' H' p'=>⟨xs.length-(i+1),by omega,rfl,hlt,p'⟩,?_⟩
  rintro v H' ⟨t,x,ht,rfl,hx,rfl⟩
  exact hs i x σ H t (hx xs q) p ht
 ·have e:i=xs.length:=by omega
  subst e
  exact .inl ⟨⟨xs,q,Yd _⟩,hd σ H p⟩
structure b4N (K:W.Frag)(C:Addr)(m:Str)(f:Addr):Prop where
 ga:W.specialIn K (.ref C) "__getattribute__"=some (some (.builtin "type.__getattribute__"))
 rd:W.readsIn K C (.type "type")=true
 at_:W.findCls K (.ref C) (.type "type") m=some (.val (.ref f))
 kp:W.keepIn K (.ref f)=true
section
variable {o:Expr}{f:Str}
variable {CX:CXT}{E:XK}
def b7Z (C:Addr)(sp:Sp)(dvs:List V)(E:XK)(ta:TE)(t:TA):TE:=fun σ H Q=>ta σ H fun x H1=>x= .ref C/\t σ H1 fun vs H2=>sp (vs++dvs) H2 Q E
theorem wL {pl:Sem Bool}(hm:b4N X.K C m fa)(F:fQ X.prog X.w X.K X.mg X.base CX k fa fd ps sp)(hr:dR k X.A)(hb:Binds X.K fd ps ds)(hd:Vals dvs ds)(hx:fP CX X E)(he:PE X o ta)(ha:PA X (e::es) t)
  (hst:starEach (e::es) X.env=(false,eval e X.env)::starEach es X.env:=by rfl) (hpl:(backTo pos (starEach es X.env)).any (·.1)=false:=by rfl)
  (ht:eval (.Call (.Attribute o m apos) (e::es) [] pos) X.env=(do
   let ov<-eval o X.env
   standAt apos.atName
   let (f,first)<-holding [ov] (getMethod ov m pl)
   callWith pos f first (backTo pos (starEach (e::es) X.env)) (backToKw pos (keywordEach [] X.env))):=by rfl) :
  PE X (.Call (.Attribute o m apos) (e::es) [] pos) (b7Z C sp dvs E ta t):=by
 intro pins s σ H Q I h
 refine XE (pl:=pl) (thn (he pins s σ H _ I h) fun u s1 hz9=>?_) ht
 obtain⟨x,H1,I1,rx,ex,q⟩:=hz9
 subst ex
 obtain rfl:u=Value.ref C:=rx
 refine W.method_cls I1.kIn hm.ga (W.cls_value I1.kIn hm.rd hm.at_ rfl ?_)
 refine X4 (first:=[]) (h₀:=X.base) I.ok.mod.kin hm.kp (thn (ha pos pins _ σ H1 _ (I1.tok _) q) fun us s2 ⟨vs,H2,I2,r,q2⟩=>⟨I2.kIn,?_⟩) hst hpl
 exact kJ F hr hb hd hx I2 r q2
def c1H (K:W.Frag)(ta:TE)(f:Str):TE:=fun σ H Q=>ta σ H fun x H1=>vR x fun a=>∃C dx fs v,H1 a=some (.ins C dx fs)/\Cls K C/\bH K C f/\fs.lookup f=some v/\Q v H1
theorem eZ (he:PE X e ta)(hb:attributeBase e f X.env (eval e X.env)=eval e X.env:=by rfl):PE X (.Attribute e f pos) (c1H X.K ta f):=
 (a7F (bT he) hb).imp fun σ H Q h=>⟨_,h,fun x H1 q=>by
  obtain⟨a,rfl,C,dx,fs,v,h1,c,n,h2,h3⟩:=vR.ex q
  exact⟨a,C,dx,fs,v,rfl,h1,c,n,h2,h3⟩⟩
def c1C (K:W.Frag)(ta tv:TE)(f:Str):TS:=fun D σ H=>tv σ H fun y H1=>ta σ H1 fun x H2=>vR x fun a=>∃C dx fs,H2 a=some (.ins C dx fs)/\Cls K C/\bH K C f/\fs.length<1000/\D.nx σ (upd H2 a (.ins C dx (dZ f y fs)))
theorem lJ (ha:PE X o ta)(hv:PE X value tv)(hs:swapsWith value (some (.Attribute o f pos')) pos.line X.env=pure false:=by rfl):
  PS X (.Assign [.Attribute o f pos'] value pos) (c1C X.K ta tv f):=
 (a7A (bT ha) (bT hv) hs).imp fun D σ H h=>⟨_,h,fun y H1 q=>⟨_,q,fun x H2 q2=>by
  obtain⟨a,rfl,C,dx,fs,h1,c,n,h2,h3⟩:=vR.ex q2
  exact⟨a,C,dx,fs,rfl,h1,c,n,h2,h3⟩⟩⟩
def a9E (K:W.Frag)(m:Str)(fa:Addr)(sp:Sp)(dvs:List V)(E:XK)(ta:TE)(t:TA):TE:=fun σ H Q=>ta σ H fun x H1=>vR x fun a=>(∃C dx fs,H1 a=some (.ins C dx fs)/\Cls K C/\Meth K C m fa/\fs.lookup m=none)/\t σ H1 fun vs H2=>sp (.ref a::(vs++dvs)) H2 Q E
theorem mR {pl:Sem Bool}(F:fQ X.prog X.w X.K X.mg X.base CX k fa fd ps sp)(hr:dR k X.A)(hb:Binds X.K fd ps ds)(hd:Vals dvs ds)(hx:fP CX X E)(he:PE X o ta)(ha:PA X (e::es) t)
  (hst:starEach (e::es) X.env=(false,eval e X.env)::starEach es X.env:=by rfl) (hpl:(backTo pos (starEach es X.env)).any (·.1)=false:=by rfl)
  (ht:eval (.Call (.Attribute o m apos) (e::es) [] pos) X.env=(do
   let ov<-eval o X.env
   standAt apos.atName
   let (f,first)<-holding [ov] (getMethod ov m pl)
   callWith pos f first (backTo pos (starEach (e::es) X.env)) (backToKw pos (keywordEach [] X.env))):=by rfl) :
  PE X (.Call (.Attribute o m apos) (e::es) [] pos) (a9E X.K m fa sp dvs E ta t):=by
 intro pins s σ H Q I h
 refine XE (pl:=pl) (thn (he pins s σ H _ I h) fun u s1 hz9=>?_) ht
 obtain⟨x,H1,I1,rx,q⟩:=hz9
 obtain⟨a,rfl,⟨C,dx,fs,ea,c,hm,l⟩,q⟩:=vR.ex q
 obtain rfl:u=Value.ref a:=rx
 refine fM I1 ea c hm l ?_
 refine X4 (first:=[.ref a]) (h₀:=X.base) I.ok.mod.kin hm.kp (thn (ha pos pins s1 σ H1 _ I1 q) fun us s2 ⟨vs,H2,I2,r,q2⟩=>⟨I2.kIn,?_⟩) hst hpl
 exact kJ (us:= .ref a::us) (vs:= .ref a::vs) F hr hb hd hx I2 (.cons rfl r) q2
theorem sV {pl:Sem Bool}(F:fQ X.prog X.w X.K X.mg X.base CX k fa fd ps sp)(hr:dR k X.A)(hb:Binds X.K fd ps ds)(hd:Vals dvs ds)(hx:fP CX X E)(he:PE X o ta)
  (ht:eval (.Call (.Attribute o m apos) [] [] pos) X.env=(do
   let ov<-eval o X.env
   standAt apos.atName
   let (f,first)<-holding [ov] (getMethod ov m pl)
   callWith pos f first (backTo pos (starEach [] X.env)) (backToKw pos (keywordEach [] X.env))):=by rfl) :
  PE X (.Call (.Attribute o m apos) [] [] pos) (a9E X.K m fa sp dvs E ta a2N):=by
 intro pins s σ H Q I h
 refine XE (pl:=pl) (thn (he pins s σ H _ I h) fun u s1 hz9=>?_) ht
 obtain⟨x,H1,I1,rx,q⟩:=hz9
 obtain⟨a,rfl,⟨C,dx,fs,ea,c,hm,l⟩,q⟩:=vR.ex q
 obtain rfl:u=Value.ref a:=rx
 refine fM I1 ea c hm l ?_
 exact W.callWith_K0 (first:=[.ref a]) I1.kIn hm.kp (kJ (us:=[.ref a]) (vs:=[.ref a]) F hr hb hd hx I1 (.cons rfl .nil) q)
end
section
variable {o:Expr}
end
section
variable {tg:Expr}
def c3Q (K:W.Frag)(tl:TE):TI:=fun σ H R=>tl σ H fun x H1=>vR x fun a=>((∃xs,SqL K H1 a xs)/\R (Itl K a) H1)\/((∃xs,SqT K H1 a xs)/\R (Itt K a) H1)
theorem b6Z {l:Expr}{tl:TE}(hl:PE X l tl):PI X tg l (c3Q X.K tl):=by
 intro pins s σ H R I h
 refine thn (hl pins s σ H _ I h) fun v s1 hz9=>?_
 obtain⟨x,H1,I1,r1,q1⟩:=hz9
 obtain⟨a,e,q⟩:=vR.ex q1
 subst e
 cases r1
 rcases q with ⟨⟨xs,hq⟩,q⟩ | ⟨⟨xs,hq⟩,q⟩
 ·obtain⟨its,rv,p,hz⟩:=I1.list hq
  refine wpAny_pyIter_list p.isList ?_
  refine⟨s1.heap.objs.size, [s1.heap.objs.size],_,_,H1,rfl,I1.kept (t':=s1.toks) fun b o e=>Yp _ e,rY a _,⟨_,YL _ rfl,rfl,rfl⟩,fun b hb=>?_,q⟩
  have e:b=s1.heap.objs.size:=by simpa using hb
  subst e
  exact I1.fpOk (Yd _) (I1.hok.fresh (Yd _))
 ·obtain⟨its,rv,p,hz⟩:=I1.tuple hq
  refine wpAny_pyIter_tuple (show s1.heap.IsTuple a its.toArray from p) ?_
  refine⟨s1.heap.objs.size, [s1.heap.objs.size],_,_,H1,rfl,I1.kept (t':=s1.toks) fun b o e=>Yp _ e,xZ a _,⟨_,YL _ rfl,rfl,rfl⟩,fun b hb=>?_,q⟩
  have e:b=s1.heap.objs.size:=by simpa using hb
  subst e
  exact I1.fpOk (Yd _) (I1.hok.fresh (Yd _))
end
theorem a9G {K:W.Frag}{a:Addr}{xs:List V}{tt:TT}{te:TE}{σc:V->St}{H:Hp}{Q:VK}(Pv:Nat->List V->Hp->Prop)(hn:∀i ys H,i<=xs.length->Pv i ys H->ys.length<sizeLine)(h0:Pv 0 [] H)
  (hl:∀i ys H,i<=xs.length->Pv i ys H->SqT K H a xs)
  (hs:∀i x ys H,xs[i]? =some x->Pv i ys H->tt (σc x) H fun b H3=>if b=true then te (σc x) H3 fun y H4=>Pv (i+1) (ys++[y]) H4 else Pv (i+1) ys H3)
  (hd:∀ys H,Pv xs.length ys H->∀p,H p=none->Q (.ref p) (upd H p (.lst ys))):qZ (Itt K a) tt te σc H Q:=by
 refine⟨fun i m ys H=>m=xs.length-i/\i<=xs.length/\Pv i ys H,⟨xs.length,by simp,Xu _,h0⟩,?_⟩
 rintro i m ys H ⟨rfl,hi,p⟩
 have q:=hl i ys H hi p
 refine⟨hn i ys H hi p,?_⟩
 by_cases hlt:i<xs.length
 ·refine .inr ⟨⟨xs,xs[i],q,by simp[hlt]⟩,Pv (i+1),fun ys' H' q=>⟨xs.length-(i+1),by omega,rfl,hlt,q⟩,fun x H' y=>?_⟩
  obtain⟨e,y⟩:=y
  subst e
  exact hs i x ys _ (y xs q) p
 ·have e:i=xs.length:=by omega
  subst e
  exact .inl ⟨⟨xs,q,Yd _⟩,hd ys H p⟩
theorem a9H {K:W.Frag}{a:Addr}{xs:List V}{tt:TT}{te:TE}{σc:V->St}{H:Hp}{Q:VK}(h:SqA K H a xs)(Pv:Nat->List V->Prop)(hn:∀i ys,i<=xs.length->Pv i ys->ys.length<sizeLine)(h0:Pv 0 [])
  (hs:∀i x ys,xs[i]? =some x->Pv i ys->tt (σc x) H fun b H3=>if b=true then te (σc x) H3 fun y H4=>Pv (i+1) (ys++[y])/\H4=H else Pv (i+1) ys/\H3=H)
  (hd:∀ys,Pv xs.length ys->∀p,H p=none->Q (.ref p) (upd H p (.lst ys))):((∃xs,SqL K H a xs)/\qZ (Itl K a) tt te σc H Q)\/((∃xs,SqT K H a xs)/\qZ (Itt K a) tt te σc H Q):=by
 rcases h with h | h
 ·refine .inl ⟨⟨_,h⟩,cR (xs:=xs) (fun i ys H'=>Pv i ys/\H'=H) (fun i ys H' hi z=>hn i ys hi z.1) ⟨h0,rfl⟩ (fun i ys H' hi z=>by rw[z.2];exact h) ?_ ?_⟩
  ·rintro i x ys H' hx ⟨z,rfl⟩
   exact hs i x ys hx z
  ·rintro ys H' ⟨z,rfl⟩
   exact hd ys z
 ·refine .inr ⟨⟨_,h⟩,a9G (xs:=xs) (fun i ys H'=>Pv i ys/\H'=H) (fun i ys H' hi z=>hn i ys hi z.1) ⟨h0,rfl⟩ (fun i ys H' hi z=>by rw[z.2];exact h) ?_ ?_⟩
  ·rintro i x ys H' hx ⟨z,rfl⟩
   exact hs i x ys hx z
  ·rintro ys H' ⟨z,rfl⟩
   exact hd ys z
def MOk (P:Program)(w:World)(K:W.Frag)(mg:Str->Option Value)(base:Heap)(CX:CXT)(k:Nat)(C:Addr)(m:Str)(sp:Sp):Prop:=
 ∃fa fd ps,Cls K C/\Meth K C m fa/\fQ P w K mg base CX k fa fd ps sp/\Binds K fd ps []
section
variable {o:Expr}{f:Str}
variable {CX:CXT}{E:XK}{R:Addr->Sp->Prop}
def b7Y (R:Addr->Sp->Prop)(m:Str)(E:XK)(ta:TE)(t:TA):TE:=fun σ H Q=>ta σ H fun x H1=>vR x fun a=>∃C dx fs sp,H1 a=some (.ins C dx fs)/\fs.lookup m=none/\R C sp/\t σ H1 fun vs H2=>sp (.ref a::vs) H2 Q E
theorem wK {pl:Sem Bool}(hR:∀C sp,R C sp->MOk X.prog X.w X.K X.mg X.base CX k C m sp)(hr:dR k X.A)(hx:fP CX X E)(he:PE X o ta)(ha:PA X (e::es) t)
  (hst:starEach (e::es) X.env=(false,eval e X.env)::starEach es X.env:=by rfl) (hpl:(backTo pos (starEach es X.env)).any (·.1)=false:=by rfl)
  (ht:eval (.Call (.Attribute o m apos) (e::es) [] pos) X.env=(do
   let ov<-eval o X.env
   standAt apos.atName
   let (f,first)<-holding [ov] (getMethod ov m pl)
   callWith pos f first (backTo pos (starEach (e::es) X.env)) (backToKw pos (keywordEach [] X.env))):=by rfl) :
  PE X (.Call (.Attribute o m apos) (e::es) [] pos) (b7Y R m E ta t):=by
 intro pins s σ H Q I h
 refine XE (pl:=pl) (thn (he pins s σ H _ I h) fun u s1 hz9=>?_) ht
 obtain⟨x,H1,I1,rx,q⟩:=hz9
 obtain⟨a,rfl,C,dx,fs,sp,ea,l,hC,q⟩:=vR.ex q
 obtain⟨fa,fd,ps,c,hm,F,hb⟩:=hR C sp hC
 obtain rfl:u=Value.ref a:=rx
 refine fM I1 ea c hm l ?_
 refine X4 (first:=[.ref a]) (h₀:=X.base) I.ok.mod.kin hm.kp (thn (ha pos pins s1 σ H1 _ I1 q) fun us s2 ⟨vs,H2,I2,r,q2⟩=>⟨I2.kIn,?_⟩) hst hpl
 exact kJ (dvs:=[]) (us:= .ref a::us) (vs:= .ref a::vs) F hr hb .nil hx I2 (.cons rfl r) (by rw[YS];exact q2)
structure MkB (K:W.Frag)(C:Addr):Prop where
 makes:W.makesIn K C=true
 init:W.findIn K (.ref C) "__init__"=some (some (.builtin "object.__init__"))
 kp:W.keepIn K (.ref C)=true
def b5C (C:Addr):TE:=fun _ H Q=>∀x dx,H x=none->H dx=none->dx≠x->Q (.ref x) (upd (upd H dx (.own x)) x (.ins C dx []))
theorem a7E (M:MkB X.K C)(hg:Gl X x)(hm:X.mg x=some (.ref C))(hdb:(x == ("__debug__":Str))=false:=by decide):PE X (.Call (.Name x p) [] [] pos) (b5C C):=by
 intro pins s σ H Q I h
 refine Xn (lK I hg hm ?_ hdb)
 refine W.callWith_K0 I.kIn M.kp ?_
 have hq:=h (s.heap.objs.size+1) s.heap.objs.size (I.hok.fresh (Nat.le_succ _)) (I.hok.fresh (Yd _)) (YO (YW _))
 have I2:=Inv.made (C:=C) I
 refine wpAny_call (a3M I.kIn M.makes M.init (fun self=>W.Looks.of_pure (W.oi_bind self)) ?_)
 have Y:=W.makes_of (M:=model X.prog X.w) I.kIn M.makes
 have hx:((s.heap.push W.emptyDict).push (W.instObj C s.heap.objs.size)).get? (s.heap.objs.size+1)=some (W.instObj C s.heap.objs.size):=by
  have:=YL (s.heap.push W.emptyDict) (o:=W.instObj C s.heap.objs.size) rfl
  rwa [Heap.size_push]at this
 have t1:W.Looks (model X.prog X.w) ((s.heap.push W.emptyDict).push (W.instObj C s.heap.objs.size)) (typeOf (.ref (s.heap.objs.size+1))) (.ref C):=(W.Looks.ld hx).andThen .now
 have t2:W.Looks (model X.prog X.w) ((s.heap.push W.emptyDict).push (W.instObj C s.heap.objs.size)) (isInstance (.ref (s.heap.objs.size+1)) (.type "object")) true:=t1.andThen (Y.top.keeps fun b o e=>Yp _ (Yp _ e))
 refine codeAny_call_builtin W.oi_plain W.entry_oi (@W.check_slot (model X.prog X.w) _ _ _ "object.__init__" "object" "__init__" (.ref (s.heap.objs.size+1)) [] [] _ W.oi_kind W.oi_split t2 (W.oi_args (.ref (s.heap.objs.size+1))) ?_)
 rw[W.oi_run]
 exact Xj (And.intro rfl ⟨V.ref (s.heap.objs.size+1),_,I2,rfl,hq⟩)
end
section
variable {o e2:Expr}
end
section
variable {κ:Type}[DecidableEq κ]
def gQ (kvs:List (κ×V))(k:κ):Option V:=(kvs.find? fun kv=>decide (kv.1=k)).map (·.2)
def putK (kvs:List (κ×V))(k:κ)(v:V):List (κ×V):=
 if (kvs.any fun kv=>decide (kv.1=k))=true then kvs.map (fun kv=>if kv.1=k then (kv.1,v) else kv) else kvs++[(k,v)]
theorem eG {p:κ×V}{r:List (κ×V)}{k:κ}(e:p.1=k):gQ (p::r) k=some p.2:=by simp[gQ,XX,e]
theorem eO {p:κ×V}{r:List (κ×V)}{k:κ}(e:¬ p.1=k):gQ (p::r) k=gQ r k:=by simp[gQ,XX,e]
theorem kE (k:κ):∀kvs:List (κ×V),(kvs.any fun kv=>decide (kv.1=k))=(gQ kvs k).isSome
 |[]=>rfl
 | p::r=>by
  rw[Xv]
  by_cases e:p.1=k
  ·simp only[eG e,Ye e,Bool.true_or,Option.isSome_some]
  ·rw[eO e,Yi e,Bool.false_or];exact kE k r
theorem vG (k j:κ)(y:V):∀kvs:List (κ×V),gQ (kvs.map fun kv=>if kv.1=k then (kv.1,y) else kv) j=(gQ kvs j).map fun x=>if j=k then y else x
 |[]=>rfl
 | p ::r=>by
  have ih:=vG k j y r
  rw[YM]
  by_cases h:p.1=k
  ·rw[if_pos h]
   by_cases e:p.1=j
   ·rw[eG (p:=(p.1,y)) e,eG e,X8,if_pos (e.symm.trans h)]
   ·rw[eO (p:=(p.1,y)) e,eO e,ih]
  ·rw[if_neg h]
   by_cases e:p.1=j
   ·rw[eG (p:=p) e,eG e,X8,if_neg (fun z=>h (e.trans z))]
   ·rw[eO (p:=p) e,eO e,ih]
theorem rW (k j:κ)(y:V):∀kvs:List (κ×V),gQ kvs k=none->gQ (kvs++[(k,y)]) j=if j=k then some y else gQ kvs j
 | [],_=>by
  by_cases e:k=j
  ·rw[if_pos e.symm];exact eG (p:=(k,y)) e
  ·rw[if_neg (fun z=>e z.symm)];exact eO (p:=(k,y)) e
 | p::r,hn=>by
  rw[List.cons_append]
  have hk:¬ p.1=k:=fun z=>by rw[eG z]at hn;cases hn
  rw[eO hk]at hn
  have ih:=rW k j y r hn
  by_cases e:p.1=j
  ·rw[eG e,eG e,if_neg (fun z=>hk (e.trans z))]
  ·rw[eO e,eO e,ih]
theorem a5A (kvs:List (κ×V))(k j:κ)(y:V):gQ (putK kvs k y) j=if j=k then some y else gQ kvs j:=by
 unfold putK
 by_cases a:(kvs.any fun kv=>decide (kv.1=k))=true
 ·rw [if_pos a,vG]
  rw[kE]at a
  by_cases e:j=k
  ·obtain⟨x,hx⟩:=Option.isSome_iff_exists.mp a
   rw[if_pos e,e,hx,X8,if_pos rfl]
  ·rw[if_neg e]
   cases gQ kvs j with
   |none=>rfl
   |some x=>rw[X8,if_neg e]
 ·rw[if_neg a]
  refine rW k j y kvs ?_
  rw[kE]at a
  cases q:gQ kvs k with
  |none=>rfl
  |some x=>rw[q]at a;exact(a rfl).elim
theorem oU (kvs:List (κ×V))(k:κ)(v:V):(putK kvs k v).length<=kvs.length+1:=by
 unfold putK
 split
 ·rw[Ya];omega
 ·rw[Yc,Yz,List.length_nil];omega
theorem a6Y {kvs:List (κ×V)}{k:κ}(v:V)(h:gQ kvs k=none):putK kvs k v=kvs++[(k,v)]:=by
 unfold putK
 rw[kE,h]
 exact if_neg (by decide)
theorem lU.isSome_eq {u:Option Value}(r:lU o u):o.isSome=u.isSome:=by
 cases o with
 | none=>cases u with
  |none=>rfl
  |some _=>exact(show False from r).elim
 | some _=>cases u with
  |none=>exact(show False from r).elim
  |some _=>rfl
theorem lU.getD {u:Option Value}{d:V}{d':Value}(r:lU o u)(rd:RelV d d'):RelV (o.getD d) (u.getD d'):=by
 cases o with
 | none=>cases u with
  |none=>exact rd
  |some _=>exact(show False from r).elim
 | some _=>cases u with
  |none=>exact(show False from r).elim
  |some _=>exact r
theorem KV.val {kvs:List (κ×V)}{vs:List (κ×Value)}(r:KV kvs vs)(k:κ):lU (gQ kvs k) (valueAt vs k):=by
 unfold KV at r
 induction r with
 |nil=>exact True.intro
 | @cons p q ps qs h t ih=>
  obtain⟨h1,h2⟩:=h
  by_cases e:p.1=k
  ·have e':q.1=k:=h1.symm.trans e
   have b:valueAt (q::qs) k=some q.2:=by simp[valueAt,XX,e']
   rw[eG e,b];exact h2
  ·have e':¬ q.1=k:=fun z=>e (h1.trans z)
   have b:valueAt (q::qs) k=valueAt qs k:=by simp[valueAt,XX,e']
   rw[eO e,b];exact ih
theorem KV.any {kvs:List (κ×V)}{vs:List (κ×Value)}(r:KV kvs vs)(k:κ):(kvs.any fun kv=>decide (kv.1=k))=vs.any fun kv=>decide (kv.1=k):=by
 unfold KV at r
 induction r with
 |nil=>rfl
 |cons h t ih=>rw[Xv,Xv,ih,h.1]
theorem KV.repl {kvs:List (κ×V)}{vs:List (κ×Value)}(r:KV kvs vs)(k:κ)(ry:RelV y u):
  KV (kvs.map fun kv=>if kv.1=k then (kv.1,y) else kv) (vs.map fun kv=>if kv.1=k then (kv.1,u) else kv):=by
 unfold KV at r ⊢
 induction r with
 |nil=>exact .nil
 | @cons p q ps qs h t ih=>
  rw[YM,YM]
  refine .cons ?_ ih
  obtain⟨h1,h2⟩:=h
  by_cases e:p.1=k
  ·rw[if_pos e,if_pos (h1.symm.trans e)];exact⟨h1,ry⟩
  ·rw[if_neg e,if_neg (fun z=>e (h1.trans z))];exact⟨h1,h2⟩
theorem KV.put {kvs:List (κ×V)}{vs:List (κ×Value)}(r:KV kvs vs)(k:κ)(ry:RelV y u):KV (putK kvs k y) (stored vs k u):=by
 unfold putK stored
 rw[r.any k]
 by_cases e:(vs.any fun kv=>decide (kv.1=k))=true
 ·rw[if_pos e,if_pos e];exact r.repl k ry
 ·rw[if_neg e,if_neg e];exact Paired.snoc r ⟨rfl,ry⟩
theorem KV.length {kvs:List (κ×V)}{vs:List (κ×Value)}(r:KV kvs vs):kvs.length=vs.length:=Paired.length r
end
theorem a8L {k:Key}(r:RelV (kV k) u):(dX P w).is k u=true:=by
 cases k with
 |inl i=>obtain⟨t,e⟩:=(show ∃t,u=Value.int i t from r);subst e;exact wJ P w i t
 |inr x=>obtain⟨t,e⟩:=(show ∃t,u=Value.str x t from r);subst e;exact wI P w x t
theorem sZ:∀{ks:List Key}{us:List Value},Vals (ks.map kV) us->ItemsAre (dX P w) ks us
 |[],_,r=>by rw[List.map_nil]at r;cases r;exact .nil
 | k::ks,_,r=>by
  rw[YM]at r
  cases r with
  |cons h t=>exact .cons (a8L h) (sZ t)
abbrev KT (H:Hp):List (List Key×V)->List (List Key×Addr×Value)->Prop:=Paired fun p q=>p.1=q.1/\H q.2.1=some (.tup (p.1.map kV))/\RelV p.2 q.2.2
theorem KT.val (r:KT H kvs xs)(k:List Key):lU (gQ kvs k) ((atKey xs k).map (·.2)):=by
 induction r with
 |nil=>exact True.intro
 | @cons p q ps qs h t ih=>
  obtain⟨h1,_,h2⟩:=h
  by_cases e:p.1=k
  ·have e':q.1=k:=h1.symm.trans e
   have b:atKey (q::qs) k=some q.2:=by simp[atKey,XX,e']
   rw[eG e,b];exact h2
  ·have e':¬ q.1=k:=fun z=>e (h1.trans z)
   have b:atKey (q::qs) k=atKey qs k:=by simp[atKey,XX,e']
   rw[eO e,b];exact ih
theorem KT.repl (r:KT H kvs xs)(k:List Key)(ry:RelV y u):
  KT H (kvs.map fun kv=>if kv.1=k then (kv.1,y) else kv) (xs.map (putAt k u)):=by
 induction r with
 |nil=>exact .nil
 | @cons p q ps qs h t ih=>
  rw[YM,YM]
  refine .cons ?_ ih
  obtain⟨h1,h2,h3⟩:=h
  unfold putAt
  by_cases e:p.1=k
  ·rw[if_pos e,if_pos (h1.symm.trans e)];exact⟨h1,h2,ry⟩
  ·rw[if_neg e,if_neg (fun z=>e (h1.trans z))];exact⟨h1,h2,h3⟩
theorem KT.put (r:KT H kvs xs)(k:List Key)(hb:H b=some (.tup (k.map kV)))(ry:RelV y u):
  KT H (putK kvs k y) (storedH xs k b u):=by
 have e:(kvs.any fun kv=>decide (kv.1=k))=(atKey xs k).isSome:=by
  rw[kE,(r.val k).isSome_eq,Option.isSome_map]
 unfold putK storedH
 rw[e]
 by_cases q:(atKey xs k).isSome=true
 ·rw[if_pos q,if_pos q];exact r.repl k ry
 ·rw[if_neg q,if_neg q];exact Paired.snoc r ⟨rfl,hb,ry⟩
theorem KT.keeps (r:KT H kvs xs)(ht:∀b ys,H b=some (.tup ys)->H' b=some (.tup ys)):KT H' kvs xs:=
 Paired.mapP r fun _ _ z=>⟨z.1,ht _ _ z.2.1,z.2.2⟩
section
variable {h:Heap}
theorem b3V {u:HO}(ok:HOk P w H h)(e:Rd H a u):dU P w H h a u:=e.ok ok
theorem a8Z {kvs:List (Key×V)}(ok:HOk P w H h)(e:Rd H a (.dK kvs)):kvs.length<=sizeLine/\(a == sysModules)=false/\∃vs,KV kvs vs/\h.DictOf (dX P w) a vs:=
 show dU P w H h a (.dK kvs) from b3V ok e
theorem c1B {kvs:List (Key×V)}(ok:HOk P w H h)(e:H a=some (.dK kvs)):kvs.length<=sizeLine/\(a == sysModules)=false/\∃vs,KV kvs vs/\h.DictOf (dX P w) a vs:=a8Z ok (.inl e)
theorem yX {ks:List Key}(ok:HOk P w H h)(e:H a=some (.tup (ks.map kV))):(tupleKind (dX P w)).is h ks a:=by
 obtain⟨_,its,r,o,h1,h2,n,h3⟩:=(show dU P w H h a (.tup (ks.map kV)) from ok a _ e)
 exact⟨o,its.toArray,n,h1,h2,h3,by simpa using sZ r⟩
theorem a8Y (ok:HOk P w H h)(e:Rd H a (.dT kvs)):kvs.length<=sizeLine/\(a == sysModules)=false/\
  ∃xs,KT H kvs xs/\h.DictOfH (tupleKind (dX P w)) a xs:=by
 obtain⟨z,y,xs,r,o,es,ep,h1,h2,h3,h4,h5⟩:=(show dU P w H h a (.dT kvs) from b3V ok e)
 refine⟨z,y,xs,r,o,es,ep,h1,h2,h3,h4,fun x hx=>?_,h5⟩
 have all:∀{l:List (List Key×V)}{m:List (List Key×Addr×Value)},KT H l m->∀x∈m,(tupleKind (dX P w)).is h x.1 x.2.1:=by
  intro l m q
  induction q with
  |nil=>intro x hx;exact nomatch hx
  | @cons p q ps qs hq t ih=>
   intro x hx
   rcases YG.mp hx with e | hx
   ·subst e
    exact yX ok (by rw[<-hq.1];exact hq.2.1)
   ·exact ih x hx
 exact all r x hx
theorem c1A (ok:HOk P w H h)(e:H a=some (.dT kvs)):kvs.length<=sizeLine/\(a == sysModules)=false/\
  ∃xs,KT H kvs xs/\h.DictOfH (tupleKind (dX P w)) a xs:=a8Y ok (.inl e)
end
def c1R (H:Hp)(a:Addr)(y:V)(r:Option V):Prop:=
 (∃kvs k,Rd H a (.dK kvs)/\y=kV k/\r=gQ kvs k)\/∃kvs k b,Rd H a (.dT kvs)/\y= .ref b/\H b=some (.tup (k.map kV))/\r=gQ kvs k
def c1Q (H:Hp)(a:Addr)(y v:V)(H':Hp):Prop:=
 (∃kvs k,H a=some (.dK kvs)/\y=kV k/\kvs.length<sizeLine/\H'=upd H a (.dK (putK kvs k v)))\/
 ∃kvs k b,H a=some (.dT kvs)/\y= .ref b/\H b=some (.tup (k.map kV))/\kvs.length<sizeLine/\H'=upd H a (.dT (putK kvs k v))
section
variable {v:V}{r:Value}
theorem Inv.big (I:Inv X pins σ H s):sysModules<s.heap.objs.size:=by
 have h:mainGlobals<s.heap.objs.size:=(I.mod.glob.keeps I.bk).lt
 exact Nat.lt_trans (by decide) h
theorem a1W {t':Nat}{ob:HO}(I:Inv X pins σ H s)(mu:Mut (H a))(hs:Heap.SameBut a s.heap h')(he:∃q,h'.get? a=some q)(new:dU X.prog X.w (upd H a ob) h' a ob):
  Inv X pins σ (upd H a ob) { s with heap:=h',toks:=t' }:=
 I.write (x:=a) (e:=a) mu (.inl rfl) (fun b q hb z=>(hs.2 b hb).trans z) he new
theorem b7T {kvs:List (Key×V)}{vs:List (Key×Value)}(z:kvs.length<=sizeLine)(hd:(a == sysModules)=false)(rel:KV kvs vs)(dd:h'.DictOf (dX P w) a vs):
  dU P w H' h' a (.dK kvs):=⟨z,hd,vs,rel,dd⟩
theorem a4G {Q:Unit->Shared->Prop}(hu:A.units+1<cLine)(I:Inv X pins σ H s)(g:c1Q H a y v H')(ry:RelV y u)(rv:RelV v r)(h:∀s',Inv X pins σ H' s'->Q () s'):
  wpAny (model X.prog X.w) A (setItem (.ref a) u r) Q E s:=by
 rcases g with ⟨kvs,k,e,ey,l,eH⟩ | ⟨kvs,k,b,e,ey,eb,l,eH⟩
 ·subst ey eH
  obtain⟨z,hd,vs,rel,dd⟩:=c1B I.hok e
  have hz:vs.length<=sizeLine:=by rw[<-rel.length];exact z
  have hl:(putK kvs k v).length<=sizeLine:=by have:=oU kvs k v;omega
  refine wpAny_setItem_pairs (hsz:=hz) (a8L ry) dd fun h' dd' hs=>h _ ?_
  have he:∃q,h'.get? a=some q:=let ⟨q,_,_,hq,_⟩:=dd';⟨q,hq⟩
  exact a1W I (by rw[e];exact True.intro) hs he (b7T hl hd (rel.put k rv) dd')
 ·subst ey eH
  cases (show u=Value.ref b from ry)
  obtain⟨z,hd,xs,rel,dd⟩:=c1A I.hok e
  have hz:xs.length<=sizeLine:=by rw[<-Paired.length rel];exact z
  have hl:(putK kvs k v).length<=sizeLine:=by have:=oU kvs k v;omega
  refine wpAny_setItem_heap (hsz:=hz) (tupleKind_room_in1 hu) (yX I.hok eb) dd fun h' dd' hs=>h _ ?_
  obtain⟨q,es,ep,hq,h2,h3,h4,_,h5⟩:=dd'
  refine a1W I (by rw[e];exact True.intro) hs ⟨q,hq⟩ ⟨hl,hd,_,(rel.put k eb rv).keeps fun c ys ec=>?_,q,es,ep,hq,h2,h3,h4,h5⟩
  rw[aH (c0G ec e (fun z=>nomatch z))]
  exact ec
end
section
variable {kvs:List (Key×V)}{k:Key}
end
def b9T (td ty tv:TE):TS:=fun D σ H=>tv σ H fun v H1=>td σ H1 fun x H2=>ty σ H2 fun y H3=>∃a H4,x= .ref a/\c1Q H3 a y v H4/\D.nx σ H4
section
variable {o i:Expr}{tpos:Pos}{td ty:TE}
theorem b1I (hu:X.A.units+1<cLine)(ho:PE X o td)(hi:PE X i ty)(hv:PE X value tv)(hs:swapsWith value (some (.Subscript o i pos')) pos.line X.env=pure false):
  PS X (.Assign [.Subscript o i pos'] value pos) (b9T td ty tv):=by
 intro pins s σ H D I h
 refine wpAny_Assign_Subscript (thn (hv pins s σ H _ I h) fun r s1 ⟨v,H1,I1,rv,q1⟩=>thn (ho pins s1 σ H1 _ I1 q1) fun u s2 ⟨x,H2,I2,rx,q2⟩=>thn (hi pins s2 σ H2 _ I2 q2) fun iv s3 ⟨y,H3,I3,ry,a,H4,ex,g,q3⟩=>?_) hs
 subst ex
 obtain rfl:u=Value.ref a:=rx
 exact a4G hu I3 g ry rv fun s4 I4=>⟨σ,H4,I4,q3⟩
end
theorem a9A (h:Heap)(hb:sysModules<h.objs.size):dU P w H (h.push { cls:= .type "dict",data:= .dict #[] }) h.objs.size (.dK []):=
 ⟨Xu _,Xs.mpr (Ne.symm (YO hb)), [],.nil,Heap.DictOf.new h⟩
def b5D:TE:=fun _ H Q=>∀p,H p=none->Q (.ref p) (upd H p (.dK []))
section
theorem a7G:PE X (.Dict [] [] pos) b5D:=fun pins s σ H Q I h=>
 wpAny_Dict_empty ⟨.ref s.heap.objs.size,_,I.laid (a:=s.heap.objs.size) (o:= .dK []) (t':=s.toks) (fun _ _ q=>Yp _ q) (Yd _) (a9A s.heap I.big),rfl,h _ (I.hok.fresh (Yd _))⟩
end
structure M2 (X:Cx)(o:Expr)(m:Str)(apos:Pos)(e f:Expr)(cpos:Pos):Prop where
 base:attributeBase o m X.env (eval o X.env)=eval o X.env
 few:((backTo cpos (starEach [e,f] X.env)).all (fun x=>!x.1) && (backToKw cpos (keywordEach [] X.env)).all (fun x=>x.1.isSome)
  && decide (([e,f]:List Expr).length+([]:List Keyword).length+(if ([]:List Keyword).isEmpty then 0 else 1)<30))=true
 line:(apos.endLine == cpos.line)=true
 trees:backTo cpos (starEach [e,f] X.env)= [(false,eval e X.env),(false,eval f X.env)]
def IsD (H:Hp)(a:Addr):Prop:=(∃kvs,Rd H a (.dK kvs))\/∃kvs,Rd H a (.dT kvs)
theorem b7K (I:Inv X pins σ H s)(d:IsD H a):
  s.TypeIs (.ref a) "dict"/\(∀b,Value.ref a= .ref b->∃ob,s.heap.get? b=some ob/\ob.dict=none)/\(a == sysModules)=false:=by
 rcases d with ⟨kvs,e⟩ | ⟨kvs,e⟩
 ·obtain⟨_,hd,vs,_,dd⟩:=a8Z I.hok e
  refine⟨dd.typeIs,fun b q=>?_,hd⟩
  cases q
  obtain⟨ob,_,_,h1,h2,_⟩:=dd
  exact⟨ob,h1,h2.2.1⟩
 ·obtain⟨_,hd,xs,_,dd⟩:=a8Y I.hok e
  refine⟨dd.typeIs,fun b q=>?_,hd⟩
  cases q
  obtain⟨ob,_,_,h1,h2,_⟩:=dd
  exact⟨ob,h1,h2.2.1⟩
section
variable {d:V}{r:Value}
theorem b7U (hu:A.units+1<cLine)(I:Inv X pins σ H s)(g:c1R H a y o)(ry:RelV y u)(rd:RelV d r)(h:∀w' s',Inv X pins σ H s'->RelV (o.getD d) w'->Q w' s'):
  wpAny (model X.prog X.w) A (call (.builtin "dict.get") [.ref a,u,r]) Q E s:=by
 rcases g with ⟨kvs,k,e,ey,l⟩ | ⟨kvs,k,b,e,ey,eb,l⟩
 ·subst ey
  obtain⟨z,hd,vs,rel,dd⟩:=a8Z I.hok e
  refine call_meetsIn PySem.F.slot_dict_get dd.typeIs PySem.F.entry_dict_get (PySem.F.args_dict_get_3 _ _ _) (meets_dict_get_default (dX X.prog X.w) a (a8L ry) hd r) ⟨_,dd.mapOf,h _ _ (I.tok _) ?_⟩
  rw[l]
  exact(rel.val k).getD rd
 ·subst ey
  cases (show u=Value.ref b from ry)
  obtain⟨z,hd,xs,rel,dd⟩:=a8Y I.hok e
  refine call_meetsIn PySem.F.slot_dict_get dd.typeIs PySem.F.entry_dict_get (PySem.F.args_dict_get_3 _ _ _) (meetsH_dict_get_default (tupleKind (dX X.prog X.w)) a b hd r) ⟨tupleKind_room_in1 hu,k,xs,yX I.hok eb,dd,h _ _ (I.tok _) ?_⟩
  rw[l]
  exact(rel.val k).getD rd
end
def b5E (td ty tx:TE):TE:=fun σ H Q=>td σ H fun x H1=>∃a,x= .ref a/\IsD H1 a/\ty σ H1 fun y H2=>tx σ H2 fun z H3=>∃o,c1R H3 a y o/\Q (o.getD z) H3
section
variable {o f:Expr}{td ty tx:TE}
theorem a7H (hu:X.A.units+1<cLine)(ho:PE X o td)(he:PE X e ty)(hf:PE X f tx)(m:M2 X o "get" apos e f cpos):PE X (.Call (.Attribute o "get" apos) [e,f] [] cpos) (b5E td ty tx):=by
 intro pins s σ H Q I h
 refine wpAny_Call_method m.base m.few m.line PySem.F.plainAttrs_dict PySem.F.slot_dict_get PySem.F.type_dict_get (thn (ho pins s σ H _ I h) fun u s1 hz9=>?_)
 obtain⟨x,H1,I1,rx,a,ex,d,q1⟩:=hz9
 subst ex
 obtain rfl:u=Value.ref a:=rx
 obtain⟨t1,t2,_⟩:=b7K I1 d
 refine⟨t1,t2,?_⟩
 rw[m.trees]
 refine Calls.callWith_builtin rfl (Calls.evalArgs_plain (Calls.spliced_cons (thn (he pins s1 σ H1 _ I1 q1) fun iv s2 ⟨y,H2,I2,ry,q2⟩=>
  Calls.spliced_cons (thn (hf pins s2 σ H2 _ I2 q2) fun fv s3 ⟨z,H3,I3,rz,ov,g,q3⟩=>Calls.spliced_nil ?_))))
 exact b7U hu I3 g ry rz fun w' s4 I4 rw'=>⟨_,H3,I4,rw',q3⟩
end
section
variable {kvs:List (Key×V)}
end
section
end
section
variable {κ:Type}[DecidableEq κ]
end
def lF (c:Addr)(v:V):HO:= .ext fun h=>∃u,RelV v u/\h.IsCell c (some u)
def jK (c:Addr)(qual:Str):HO:= .ext fun h=>h.CodeRec (.ref c) qual
def lO (H:Hp)(cs:List Addr):Hp:=fun b=>if b∈cs then none else H b
def xO (H H':Hp)(cs:List Addr):Hp:=fun b=>if b∈cs then H b else H' b
theorem mY (h:b∈cs):lO H cs b=none:=by unfold lO;rw[if_pos h]
theorem dD (h:b∉cs):lO H cs b=H b:=by unfold lO;rw[if_neg h]
theorem a2A (h:b∈cs):xO H H' cs b=H b:=by unfold xO;rw[if_pos h]
theorem gO (h:b∉cs):xO H H' cs b=H' b:=by unfold xO;rw[if_neg h]
def Cells (H:Hp)(cl:List (Str×Addr))(ys:List Str)(ws:List V):Prop:=
 cl.map (·.1)=ys/\(cl.map (·.2)).Nodup/\Paired (fun (p:Str×Addr) (v:V)=>H p.2=some (lF p.2 v)) cl ws
theorem Cells.at:∀{cl:List (Str×Addr)}{ws:List V},Paired (fun (p:Str×Addr) (v:V)=>H p.2=some (lF p.2 v)) cl ws->∀{i:Nat}{p:Str×Addr},cl[i]? =some p->∃v,ws[i]? =some v/\H p.2=some (lF p.2 v)
 |_,_,.nil,i,p,h=>by simp at h
 |_,_,.cons r t,0,p,h=>by simp at h;subst h;exact⟨_,rfl,r⟩
 |_,_,.cons r t,i+1,p,h=>Cells.at t (i:=i) (by simpa using h)
theorem Cells.is {ws:List V}(r:Paired (fun (p:Str×Addr) (v:V)=>H p.2=some (lF p.2 v)) cl ws){c:Addr}(h:c∈cl.map (·.2)):∃v,H c=some (lF c v):=by
 obtain⟨p,hp,rfl⟩:=YA.mp h
 obtain⟨i,hi,e⟩:=Y5 hp
 obtain⟨v,_,q⟩:=Cells.at r (i:=i) (p:=p) (by rw[Yb hi,e])
 exact⟨v,q⟩
structure vD (N ps ys:List Str)(sc:Scope):Prop where
 kind:sc.kind= .function
 co:sc.isCoroutine=false
 gen:sc.isGenerator=false
 nd:N.Nodup
 pre:N.take (ps.length+ys.length)=ps++ys
 par:∀x∈ps,sc.names.lookup x=some .local
 fre:∀x∈ys,sc.names.lookup x=some .free
 only:∀y∈sc.names,y.2≠ .cell/\(y.2= .free->y.1∈ys)
def qD (N:List Str)(vs ws:List V):St:=(vs++ws).map some++List.replicate (N.length-(vs++ws).length) none
def cxC (P:Program)(w:World)(K:W.Frag)(mg:Str->Option Value)(base:Heap)(N:List Str)(qual:Str)(scope:Scope)(f:Addr)(cd:Value)(cl:List (Str×Addr))(A:Around)(outer:List Env)(s:Shared)(H:Hp):Cx where
 prog:=P
 w:=w
 K:=K
 mg:=mg
 base:=base
 A:=A.deeper (W.envX qual scope s.heap.objs.size f cd cl)
 N:=N
 s₀:=s
 H₀:=H
 env:=W.envX qual scope s.heap.objs.size f cd cl
 outer:=outer
 stack:=W.envX qual scope s.heap.objs.size f cd cl::outer
 ex:=[]
 calm:=true
 fn:=fun _=>false
 pn:=[]
 xe:=fun _ _=>False
theorem mV {α:Type}:∀{l:List (Str×α)}{x:Str}{u:α},(l.map (·.1)).Nodup->(x,u)∈l->l.lookup x=some u
 |[],_,_,_,h=>nomatch h
 | (y, v)::r,x,u,nd,h=>by
  rw[YM,Y0]at nd
  rcases YG.mp h with e | h'
  ·cases e
   rw[List.lookup_cons_self]
  ·have hne:(x == y)=false:=by
    rw[Xs]
    intro z
    exact nd.1 (by rw[<-z];exact YA.mpr ⟨(x,u),h',rfl⟩)
   rw[Xw,hne]
   exact mV nd.2 h'
theorem a8N {h:Heap}(x:HOk P w H h)(hc:∀c∈cs,∃v,H c=some (lF c v))(k:∀b u,h.get? b=some u->h'.get? b=some u):HOk P w (lO H cs) h':=fun a o e=>by
 have ha:a∉cs:=fun z=>by rw[mY z]at e;cases e
 rw[dD ha]at e
 have nx:∀b u,H b=some u->(∀φ,u≠ .ext φ)->b∉cs:=fun b u q hn z=>by
  obtain⟨v,e2⟩:=hc b z
  rw[q]at e2
  exact hn _ (Yo e2)
 refine(x a o e).stay (fun b u _ q=>k b u q) (fun b q=>?_) fun b xs q=>?_
 ·rw[dD (nx b _ q fun φ z=>by cases z)];exact q
 ·rw[dD (nx b _ q fun φ z=>by cases z)];exact q
theorem zA {P:Program}{w:World}{K:W.Frag}{mg:Str->Option Value}{base:Heap}{N ps ys:List Str}{qual:Str}{scope:Scope}{f:Addr}{cd:Value}{cl:List (Str×Addr)}{A:Around}{outer:List Env}{s:Shared}{h':Heap}{tk:Nat}{H:Hp}{us:List Value}{vs ws:List V}
  (S:vD N ps ys scope) (hd:A.handled=none) (e0:rG P w K mg base A outer s H) (hl:vs.length=ps.length) (r:Vals vs us) (hc:Cells H cl ys ws)
  (hn:h'.Ns s.heap.objs.size (fun x=>(ps.zip us).reverse.lookup x)) (hk:∀b o,s.heap.get? b=some o->h'.get? b=some o) :
  Inv (cxC P w K mg base N qual scope f cd cl A outer s (lO H (cl.map (·.2)))) [] (qD N vs ws) (lO H (cl.map (·.2))) { s with heap:=h',toks:=tk }:=by
 obtain⟨c1,c2,c3⟩:=hc
 have his:∀c∈cl.map (·.2),∃v,H c=some (lF c v):=fun c h=>Cells.is c3 h
 have cwl:cl.length=ws.length:=Paired.length c3
 have cyl:cl.length=ys.length:=by rw[<-c1,Ya]
 have hpl:ps.length+ys.length<=N.length:=by have:=YT List.length S.pre;rw[Yr,Yc]at this;omega
 have ndPY:(ps++ys).Nodup:=by rw[<-S.pre];exact S.nd.sublist (List.take_sublist _ _)
 have ndP:=(List.nodup_append.mp ndPY).1
 have ndY:=(List.nodup_append.mp ndPY).2.1
 have lk:∀x c,cl.lookup x=some c->c∈cl.map (·.2):=fun x c h=>YA.mpr ⟨(x,c),Y7 h,rfl⟩
 have old:∀c∈cl.map (·.2),c<s.heap.objs.size:=fun c h=>by
  obtain⟨v,e⟩:=his c h
  exact(e0.hok c _ e).lt
 refine⟨⟨e0.mod,S.kind,rfl,rfl,Yd _,fun y z c h1 h2=>?_,fun y hy=>?_,(fun y c h _=>by cases h),(fun _=>hd),Around.frames_deeper e0.frames,.inr ⟨rfl,rfl⟩,fun b z=>absurd (show b∈([]:List Addr) from z) (by simp),fun b o e=>⟨(e0.bs b o e).1,?_⟩,e0.bsz,fun b _ _ z=>absurd (show b∈([]:List Addr) from z) (by simp),fun b z=>absurd (show b∈([]:List Addr) from z) (by simp),e0.funs,fun b hb=>?_⟩,
  rfl,e0.bare,Un.kept hk,⟨_,hn,fun i y v h1 h2 h3=>?_⟩,fun y c h=>?_,?_,fun y c h=>mY (lk y c h),fun p hp=>absurd (show p∈([]:List (Addr×Obj)) from hp) (by simp),a8N e0.hok his hk,?_⟩
 ·have m1:(y,c)∈cl:=Y7 h1
  have m2:(z,c)∈cl:=Y7 h2
  obtain⟨i,hi,e1⟩:=Y5 m1
  obtain⟨j,hj,e2⟩:=Y5 m2
  have:(cl.map (·.2))[i]? =(cl.map (·.2))[j]?:=by
   rw[Yl,Yl,Yb hi,Yb hj,e1,e2];rfl
  have:=(List.getElem?_inj (by rw[Ya];exact hi) c2).mp this
  subst this
  rw[e1]at e2
  exact YT Prod.fst e2
 ·have hy:scope.names.lookup y=some .cell\/scope.names.lookup y=some .free:=hy
  have hf:y∈ys:=by
   rcases hy with hy | hy
   ·exact absurd rfl (S.only _ (Y7 hy)).1
   ·exact(S.only _ (Y7 hy)).2 rfl
  rw[<-c1]at hf
  obtain⟨p,hp,rfl⟩:=YA.mp hf
  have q:cl.lookup p.1=some p.2:=mV (by rw[c1];exact ndY) hp
  exact⟨p.2,q⟩
 ·by_cases hb:b∈cl.map (·.2)
  ·exact mY hb
  ·exact(dD hb).trans (e0.bs b o e).2
 ·by_cases hb':b∈cl.map (·.2)
  ·exact mY hb'
  ·exact(dD hb').trans (e0.frf b hb)
 ·have hiv:i<(vs++ws).length:=by
   unfold qD at h2
   by_cases hi:i<(vs++ws).length
   ·exact hi
   ·rw[Yv (by simpa using hi),X1]at h2
    split at h2 <;> cases h2
  have ha:(vs++ws)[i]? =some v:=by
   unfold qD at h2
   rw[YF (by simpa using hiv),Yl]at h2
   cases e:(vs++ws)[i]? with
   |none=>rw[e]at h2;cases h2
   |some a=>rw[e]at h2;cases h2;rfl
  rw[Yc]at hiv
  have hp:(ps++ys)[i]? =some y:=by
   rw[<-S.pre,XC (by omega)];exact h1
  by_cases hi:i<ps.length
  ·rw[YF hi]at hp
   rw[YF (by omega)]at ha
   obtain⟨u,hu,rv⟩:=r.get ha
   refine⟨u,rv,.inl ⟨S.par y (Yx hp),?_⟩⟩
   have hm:(y,u)∈ps.zip us:=Yx (i:=i) (by rw[List.getElem?_zip_eq_some];exact⟨hp,hu⟩)
   have ul:us.length=ps.length:=by rw[<-r.length];exact hl
   refine mV ?_ (List.mem_reverse.mpr hm)
   unfold List.Nodup
   rw[List.map_reverse,List.pairwise_reverse,List.map_fst_zip (by omega)]
   exact ndP.imp fun h=>h.symm
  ·rw [Yv (by omega)]at hp
   rw[Yv (by omega),hl]at ha
   obtain⟨p,hp2,e⟩:∃p,cl[i-ps.length]? =some p/\p.1=y:=by
    rw[<-c1,Yl]at hp
    exact YH.mp hp
   obtain⟨v',ev,q⟩:=Cells.at c3 hp2
   rw[ha]at ev;cases ev
   obtain⟨⟨u,ru,hcell⟩,_,st⟩:=e0.hok _ _ q
   refine⟨u,ru,.inr ⟨.inr (S.fre y (Yx hp)),p.2,?_,?_⟩⟩
   ·subst e
    have q:cl.lookup p.1=some p.2:=mV (by rw[c1];exact ndY) (Yx hp2)
    exact q
   ·obtain⟨o,ho,hd⟩:=hcell
    exact⟨o,hk _ _ ho,hd⟩
 ·obtain⟨v,e⟩:=his c (lk y c h)
  obtain⟨⟨u,ru,o,ho,hd⟩,_,st⟩:=e0.hok _ _ e
  exact⟨_,o,hk _ _ ho,hd⟩
 ·show lO H _ s.heap.objs.size=none
  rw[dD fun z=>absurd (old _ z) (Y3 _)]
  exact e0.hok.fresh (Yd _)
 ·unfold qD
  show _=N.length
  rw[Yc,Ya,Yu,Yc]
  omega
def Bm (K:W.Frag)(mg:Str->Option Value)(bm:Addr):Prop:=mg "__builtins__"=some (.ref bm)/\bm≠builtinsNs/\bm≠mainGlobals/\∃o,K.lookup bm=some o/\o.cls= .type "module"/\o.dict=some builtinsNs/\o.data= .plain
def a4M (P:Addr)(pos:Pos)(qual:Str)(H:Hp):Prop:=∃ps,H P=some (.tbl ps)/\TriplesOk ps.toList/\(codeAmong pos ps.toList=none\/∃c',codeAmong pos ps.toList=some (.ref c')/\H c'=some (jK c' qual))
theorem jK.stb {c:Addr}:∀h1 h2:Heap,h1.CodeRec (.ref c) qual->(∀o,h1.get? c=some o->h2.get? c=some o)->h2.CodeRec (.ref c) qual:=fun h1 h2 x k=>by
 obtain⟨c2,oc,vs,t,e,ho,hd,hv⟩:=x
 cases e
 exact⟨_,oc,vs,t,rfl,k _ ho,hd,hv⟩
section
variable {c0 P bm:Addr}{nm:Str}{body:List Stmt}
end
def PF (X:Cx)(sts:List Stmt)(u:St->Hp->Prop)(Φ:Flow->Shared->Prop):Prop:=∀(pins:List (Addr×Obj))(s:Shared)(σ:St)(H:Hp),Inv X pins σ H s->u σ H->wpAny (model X.prog X.w) X.A (execs sts X.env) Φ X.xe s
def c1U (t:TS)(u:St->Hp->Prop):St->Hp->Prop:=fun σ H=>t { nx:=u,rt:=fun _ _=>False } σ H
section
variable {st:Stmt}{rest:List Stmt}{t:TS}{u:St->Hp->Prop}{Φ:Flow->Shared->Prop}
theorem a0Q (h1:PS X st t)(h2:PF X rest u Φ):PF X (st::rest) (c1U t u) Φ:=by
 intro pins s σ H I h
 refine wpAny_execs_cons (thn (h1 pins s σ H _ I h) fun f s1 q=>?_)
 cases f with
 | next=>
  obtain⟨σ',H',I',q⟩:=q
  exact h2 pins s1 σ' H' I' q
 |ret v=>obtain⟨_,_,_,_,_,q⟩:=q;exact q.elim
 |brk=>obtain⟨_,_,_,q⟩:=q;exact q.elim
 |cont=>obtain⟨_,_,_,q⟩:=q;exact q.elim
end
def a2F (P:Program)(w:World)(K:W.Frag)(mg:Str->Option Value)(base:Heap)(k:Nat)(spc:Addr->List V->Hp->VK->Prop):Prop:=
 ∀(f:Addr)(A:Around)(outer:List Env)(s:Shared)(H:Hp)(us:List Value)(vs:List V)(Q:VK),dR k A->rG P w K mg base A outer s H->Vals vs us->spc f vs H Q->codeAny (model P w) A (.call (.ref f) ⟨us, []⟩) (CR CX0 outer P w H s Q E0) s
section
variable {spc:Addr->List V->Hp->VK->Prop}
end
def a9S (ts:List Addr)(H:Hp):Prop:=(∀P∈ts,H P=some (.tbl #[]))/\∀b,b∈ts\/H b=none\/∃o xs,H b=some (.frz o (.lst xs))
theorem a3S {P:Program}{w:World}{K:W.Frag}{mg mb:Str->Option Value}{CX:CXT}{k:Nat}{fa a:Addr}{fd:FuncData}{x:Str}{sp:Sp}{s₁:Shared}{vs:List Value}{ns:List Int}{ts:List Addr}
    (hts:∀T∈ts,K.lookup T=none/\s₁.heap.get? T=some (W.tabObj #[])/\isCodeTable s₁.heap T)
    (KX:K.In s₁.heap) (hns:s₁.heap.Ns mainGlobals mg) (hb:s₁.heap.Ns builtinsNs mb) (hbb:∀x:Str,x≠"__name__"->mb x=bootBuiltins x) (hlim:s₁.heap.NoLimit) (hg:s₁.gens=#[])
    (ha:s₁.heap.get? a=some { cls:= .type "list",data:= .seq vs.toArray }) (hi:IntsAre vs ns) (hl:ns.length<=sizeLine) (hr:dR k callerA)
    (F:∀base:Heap,K.In base->base.Ns mainGlobals mg->fQ P w K mg base CX k fa fd [x] sp) (hbind:∀(s:Shared)(u:Value),BindsTo s fd ⟨[u], []⟩ [(x,u)])
    (hsp:∀H:Hp,a9S ts H->SqL K H a (ns.map V.int)->sp [.ref a] H (fun v _=>v= .bl true) fun _ _ _=>False)
    (hCX:∀H e s',CX [] H s₁ (fun _ _ _=>False) e s'->False) :
    codeAny (model P w) callerA (.call (.ref fa) ⟨[.ref a], []⟩) (fun r s'=>r= .ok (.ret (.bool true))/\OldK s₁.heap s'.heap/\s'.os=s₁.os/\AllBare s'.gens) s₁:=by
  have rv:=rT hi
  have lenV:=hi.length
  have aT:a∉ts:=fun z=>by
    have:=(hts a z).2.1
    rw[ha]at this;cases this
  have core : ∀H0:Hp,(∀b,H0 b=none\/∃o xs,H0 b=some (.frz o (.lst xs)))->SqL K H0 a (ns.map V.int)->HOk P w H0 s₁.heap->(∀b,H0 b≠none->b=a)->(H0 a≠none->K.lookup a=none)->
      codeAny (model P w) callerA (.call (.ref fa) ⟨[.ref a], []⟩) (fun r s'=>r= .ok (.ret (.bool true))/\OldK s₁.heap s'.heap/\s'.os=s₁.os/\AllBare s'.gens) s₁:=by
    intro H0 hO0 hS0 hok0 hA0 hK0
    obtain⟨H,hH⟩:∃H:Hp,H=fun b=>if b∈ts then some (.tbl #[]) else H0 b:=⟨_,rfl⟩
    have hin:∀b,b∈ts->H b=some (.tbl #[]):=fun b z=>by rw[hH];exact if_pos z
    have hout:∀b,b∉ts->H b=H0 b:=fun b z=>by rw[hH];exact if_neg z
    have h0T:∀b,b∈ts->H0 b=none:=fun b z=>by
      cases q:H0 b with
      |none=>rfl
      |some u=>exact absurd (by rw[<-hA0 b (by rw[q];simp)];exact z) aT
    have sub:∀b u,H0 b=some u->H b=some u:=fun b u q=>by
      rw[hout b fun z=>by rw[h0T b z]at q;cases q];exact q
    have hO:a9S ts H:=⟨hin,fun b=>by
      by_cases z:b∈ts
      · exact .inl z
      · rw[hout b z];exact .inr (hO0 b)⟩
    have hS:SqL K H a (ns.map V.int):=by
      rcases hS0 with (h | ⟨o,h⟩) | h
      · exact .inl (.inl (sub _ _ h))
      · exact .inl (.inr ⟨o,sub _ _ h⟩)
      · exact .inr h
    have hok:HOk P w H s₁.heap:=fun b u e=>by
      by_cases z:b∈ts
      · rw[hin b z]at e
        cases e
        exact(hts b z).2.1
      · rw[hout b z]at e
        exact(hok0 b u e).stay (fun _ _ _ q=>q) (fun d q=>sub d _ q) fun d xs q=>sub d _ q
    have fr:∀{b:Addr}{o:Obj},s₁.heap.get? b=some o->o.cls≠ .none->b≠a->H b=none:=fun {b o} e hc hb'=>by
      have z:b∉ts:=fun z=>by
        have:=(hts b z).2.1
        rw[e]at this
        cases this
        exact hc rfl
      rw[hout b z]
      cases q:H0 b with
      |none=>rfl
      |some u=>exact absurd (hA0 b (by rw[q];simp)) hb'
    have base_of:∀{b:Addr}{o:Obj},s₁.heap.get? b=some o->H b=none->(uM s₁.heap H).get? b=some o:=fun e n=>a8M e n
    have noD:∀{b:Addr}{o:Obj}{es:Array DictEntry}{ep:Nat},s₁.heap.get? b=some o->o.data= .dict es ep->H b=none:=fun {b o es ep} e d=>by
      have z:b∉ts:=fun z=>by
        have:=(hts b z).2.1
        rw[e]at this
        cases this
        cases d
      rw[hout b z]
      cases q:H0 b with
      |none=>rfl
      | some u=>
        have e':b=a:=hA0 b (by rw[q];simp)
        subst e'
        rw[ha]at e;cases e
        cases d
    have nsK:∀{b:Addr}{m:Str->Option Value},s₁.heap.Ns b m->(uM s₁.heap H).Ns b m:=fun {b m} ⟨o,es,ep,e,d,r⟩=>⟨o,es,ep,base_of e (noD e d),d,r⟩
    have hKb:K.In (uM s₁.heap H):=fun b o e=>base_of (KX b o e) (by
      have z:b∉ts:=fun z=>by rw[(hts b z).1]at e;cases e
      rw[hout b z]
      cases q:H0 b with
      |none=>rfl
      | some u=>
        have e':b=a:=hA0 b (by rw[q];simp)
        subst e'
        rw[hK0 (by rw[q];simp)]at e;cases e)
    have hM:Mod K mg (uM s₁.heap H):=⟨hKb,nsK hns,⟨mb,nsK hb,hbb⟩,let ⟨mc,h1,h2⟩:=hlim;⟨mc,nsK h1,h2⟩⟩
    have e0:rG P w K mg (uM s₁.heap H) callerA [] s₁ H:=⟨rfl,hM,fun b o e=>b1Y e,Nat.le_of_eq (a3Y _ _),trivial,fun b hb=>absurd (show b∈([]:List Addr) from hb) (by simp),hok,.of_eq hg⟩
    refine Ji ((F _ hKb (nsK hns)).run callerA [] s₁ H ⟨[.ref a], []⟩ [.ref a] [.ref a] _ _ hr e0 (hbind s₁ (.ref a)) (.cons rfl .nil) (hsp H hO hS)) fun r s' h=>?_
    cases r with
    |error e=>exact(hCX H e s' h).elim
    | ok fl =>
      cases fl with
      |next=>exact False.elim h
      |brk=>exact False.elim h
      |cont=>exact False.elim h
      | ret u =>
        obtain⟨v,H',os,bare,un,hok',r',q⟩:=h
        have q':v= .bl true:=q
        subst q'
        obtain rfl:u=Value.bool true:=r'
        refine⟨rfl,⟨fun b o e=>?_,fun b o e=>un.there b o e (by simp)⟩,os,bare⟩
        by_cases z:b∈ts
        · obtain⟨t1,t2,t3⟩:=hts b z
          rw[e]at t2
          cases t2
          obtain⟨more,e2⟩:=un.tbls b #[] (hin b z)
          have e3:s'.heap.get? b=some { cls:= .none,data:= .fields (#[]++more) }:=hok' b _ e2
          exact .inr (.inl ⟨t3,rfl, #[],more,rfl,e3⟩)
        · refine .inl ?_
          cases q:H0 b with
          |none=>exact un.keep b o e (by rw[hout b z];exact q) (fun z=>absurd (show b∈([]:List Addr) from z) (by simp)) (by simp)
          | some u=>
            rcases hO0 b with z1 | ⟨ob,xs,z1⟩
            · rw[q]at z1;cases z1
            · have z2:=un.frzs b ob _ (sub _ _ z1)
              obtain⟨e1,_⟩:=hok0 b _ z1
              obtain⟨e2,_⟩:=hok' b _ z2
              rw[e]at e1;cases e1
              exact e2
  cases hk:K.lookup a with
  | some o=>
    have e:=KX a o hk
    rw[ha]at e
    cases e
    refine core (fun _=>none) (fun _=> .inl rfl) (.inr ⟨_,vs.toArray,_,hk,rfl,rfl,rfl,by rw[YE,lenV];exact hl,by simpa using rv⟩) (fun b u z=>by cases (show (none:Option HO)=some u from z)) (fun b z=>absurd rfl z) fun z=>absurd rfl z
  | none =>
    refine core (fun b=>if b=a then some (.frz { cls:= .type "list",data:= .seq vs.toArray } (.lst (ns.map V.int))) else none) (fun b=>?_) (.inl (.inr ⟨{ cls:= .type "list",data:= .seq vs.toArray },if_pos rfl⟩)) (fun b u z=>?_) (fun b z=>?_) fun _=>hk
    · by_cases hb:b=a
      · exact .inr ⟨_,_,if_pos hb⟩
      · exact .inl (if_neg hb)
    · by_cases hb:b=a
      · cases (if_pos hb).symm.trans z
        subst hb
        exact⟨ha,by rw[Ya];exact hl,vs,_,rv,ha⟩
      · cases (if_neg hb).symm.trans z
    · by_cases hb:b=a
      · exact hb
      · exact absurd (if_neg hb) z
theorem walk_ofT {l:W.OpenLaw}{n k:Nat}{q:Program}{loose:List Str}{XP:(Str->Option Value)->Heap->Prop}{YP:World->Heap->Prop}{d:DefRec}{K:Params->W.Frag}{CX:World->CXT}{sp:World->Sp}{x:Str}{tc:List (Addr×Addr)}
  (hn:l.most=some n) (hn2:n<=sizeLine) (hdf:d.params.defaults= []) (hr:dR k callerA)
  (hY:∀(w:World)(h:Heap),YP w h->(K w.params).In h/\∀q∈tc,(K w.params).lookup q.2=none/\h.get? q.2=some (W.tabObj #[])/\W.codeHdIn (K w.params) q.1 q.2=true)
  (F : ∀(w:World)(mg:Str->Option Value)(fa:Addr)(h:Heap),(K w.params).In h->h.Ns mainGlobals mg->mg d.name=some (.ref fa)->
   ∃ fd:FuncData,(∀(s:Shared)(u:Value),BindsTo s fd ⟨[u], []⟩ [(x,u)])/\
    ∀base:Heap,(K w.params).In base->base.Ns mainGlobals mg->fQ l.prog w (K w.params) mg base (CX w) k fa fd [x] (sp w))
  (hsp:∀(w:World)(H:Hp)(a:Addr)(ns:List Int),ns.length<=n->a9S (tc.map (·.2)) H->SqL (K w.params) H a (ns.map V.int)->sp w [.ref a] H (fun v _=>v= .bl true) fun _ _ _=>False)
  (hCX:∀(w:World)(H:Hp)(s:Shared)(e:Value)(s':Shared),CX w [] H s (fun _ _ _=>False) e s'->False) :
  W.WalkO q loose XP YP l.row.toRowW d [] (fun f vs=>PySem.call f vs):=by
 refine Att.attach_call hn hdf fun w s₀ s₁ mg mb fa o pm cd doc a vs ns G Y ho hd hcd hmg hobj hints hlen hg=>?_
 obtain⟨KX,T⟩:=hY w _ Y
 obtain⟨fd,hb,hF⟩:=F w mg fa _ KX G.T.g hmg
 refine a3S (ts:=tc.map (·.2)) (fun t ht=>?_) KX G.T.g G.T.b G.T.builtins G.T.nolimit hg hobj hints (Y9 hlen hn2) hr hF hb (fun H hO hS=>hsp w H a ns hlen hO hS) fun H e s'=>hCX w H s₁ e s'
 obtain⟨q,hq,rfl⟩:=YA.mp ht
 obtain⟨t1,t2,t3⟩:=T q hq
 exact⟨t1,t2,((W.codeHd_of_K KX t3).tab t2).isCodeTable⟩
def nQ (f:Addr)(qual:Str)(params:Arguments)(body:Expr)(scope:Scope)(cl:List (Str×Addr))(c':Addr):HO:=
 .ext fun h=>∃pm ctv,h.get? f=some (W.kla_obj "<lambda>" qual params body scope cl pm c' ctv)
theorem nQ.stb {c':Addr}:∀h1 h2:Heap,(∃pm ctv,h1.get? f=some (W.kla_obj "<lambda>" qual params body scope cl pm c' ctv))->(∀o,h1.get? f=some o->h2.get? f=some o)->
  ∃pm ctv,h2.get? f=some (W.kla_obj "<lambda>" qual params body scope cl pm c' ctv):=fun h1 h2 ⟨pm,ctv,e⟩ k=>⟨pm,ctv,k _ e⟩
def xQ (P:Addr)(pos:Pos)(c':Addr)(H:Hp):Prop:=∃ps,H P=some (.tbl ps)/\TriplesOk ps.toList/\codeAmong pos ps.toList=some (.ref c')
section
variable {c0 P bm:Addr}
theorem b6Y (I:Inv X pins σ H s)(hcode:X.env.code= .ref c0)(C:W.codeHdIn X.K c0 P=true)(hb:Bm X.K X.mg bm)(hT:a4M P pos qual H)(hcl:closureFor scope X.env=pure cl)
  (h:∀f c' H' s',H f=none->(∀b o,b≠P->H b=some o->H' b=some o)->xQ P pos c' H'->(H c'=none\/xQ P pos c' H)->H' c'=some (jK c' qual)->H' f=some (nQ f qual params body scope cl c')->Inv X pins σ H' s'->Q (.ref f) s') :
  wpAny (model X.prog X.w) A (makeFunction "<lambda>" qual params (.expr body) scope X.env [] [] [] pos pos.line) Q E s:=by
 obtain⟨ps,hP,ht,hh⟩:=hT
 have hPo:s.heap.get? P=some (W.tabObj ps):=I.hok _ _ hP
 have hPl:=Ys hPo
 have hg:=I.mod.glob.keeps I.bk
 have CH:W.CodeHd s.heap c0 P:=W.codeHd_of_K I.kIn C
 obtain⟨b1,b2,b3,ob,b4,b5,b6,b7⟩:=hb
 have bob:=I.kIn _ _ b4
 have hgP:mainGlobals≠P:=fun q=>by
  obtain⟨o,es,ep,e,hd,_⟩:=hg
  rw[q,hPo]at e;cases e;cases hd
 have hbP:bm≠P:=fun q=>by
  rw[q,hPo]at bob;cases bob;cases b5
 have hB:s.heap.BuiltinsAt X.mg P:=⟨bm,ob,b1,b2,b3,hbP,bob,b5,b6,b7⟩
 have nP:∀d u,H d=some u->(∀qs,u≠ .tbl qs)->d≠P:=fun d u q hn z=>by
  rw[z,hP]at q
  exact hn _ (Yo q).symm
 rcases hh with hnf | ⟨c',hf,hc'⟩
 ·refine W.kla_makeFunction (mg:=X.mg) hcl I.ok.glob hg hcode CH hPo ht hnf hgP hB fun c' ctv h' tk hx hge hlt hrec htb=>?_
  obtain⟨fO,hfO⟩:∃fO,fO=W.kla_obj "<lambda>" qual params body scope cl ((X.mg "__name__").getD .none) c' ctv:=⟨_,rfl⟩
  rw[<-hfO]
  have fne:h'.objs.size≠P:=Nat.ne_of_gt (Ys htb)
  have cne:c'≠P:=Nat.ne_of_gt (Yj hPl hge)
  have fc:h'.objs.size≠c':=Nat.ne_of_gt hlt
  have hsz:s.heap.objs.size<=h'.objs.size:=Y9 hge (Xm hlt)
  have hfn:H h'.objs.size=none:=I.hok.fresh hsz
  have hcn:H c'=none:=I.hok.fresh hge
  obtain⟨H',hH'⟩:∃H',H'=upd (upd (upd H P (.tbl (ps++#[rawInt pos.line,rawInt pos.col,.ref c']))) c' (jK c' qual)) h'.objs.size (nQ h'.objs.size qual params body scope cl c'):=⟨_,rfl⟩
  have h1:H' h'.objs.size=some (nQ h'.objs.size qual params body scope cl c'):=by rw[hH',aB]
  have h2:H' c'=some (jK c' qual):=by rw[hH',aH fc.symm,aB]
  have h3:H' P=some (.tbl (ps++#[rawInt pos.line,rawInt pos.col,.ref c'])):=by rw[hH',aH fne.symm,aH cne.symm,aB]
  have h4:∀b,b≠P->b≠c'->b≠h'.objs.size->H' b=H b:=fun b n1 n2 n3=>by rw[hH',aH n3,aH n2,aH n1]
  have h5:∀b o,b≠P->H b=some o->H' b=some o:=fun b o n q=>by
   have l:=(I.hok b o q).lt
   rw[h4 b n (YO (Yj l hge)) (YO (Yj l hsz))];exact q
  have hk:∀b o,b≠P->s.heap.get? b=some o->(h'.push fO).get? b=some o:=fun b o n q=>Yp _ (hx b o n q)
  refine h h'.objs.size c' H' _ hfn h5 ⟨_,h3,?_,?_⟩ (.inl hcn) h2 h1 (I.call' (ch:=[]) rfl ⟨fun b o e n _ _=>hk b o (fun z=>by rw[z,hP]at n;cases n) e,fun b o e n _ _=>⟨o.slots,hk b o (fun z=>by rw[z,hP]at n;cases n) e⟩,fun b o e n _=>?_,fun b o e _=>?_,fun b xs q=>h5 b _ (nP b _ q fun _ z=>by cases z) q,fun b o u q=>h5 b _ (nP b _ q fun _ z=>by cases z) q,fun b qs q=>?_⟩ (fun b o e=>?_) I.bare (fun b z=>absurd z (by simp)))
  ·rw[Array.toList_append];exact TriplesOk_snoc _ _ _ _ ht
  ·rw[Array.toList_append];exact codeAmong_snoc _ ht hnf
  ·have l:=Ys e
   rw[h4 b (fun z=>by rw[z,hP]at n;cases n) (YO (Yj l hge)) (YO (Yj l hsz))];exact n
  ·by_cases z:b=P
   ·rw[z];exact⟨_,Yp _ htb⟩
   ·exact⟨o,hk b o z e⟩
  ·by_cases z:b=P
   ·rw[z,hP]at q
    cases q
    exact⟨_,by rw[z];exact h3⟩
   ·exact⟨#[],by rw[h5 b _ z q];simp⟩
  ·by_cases z1:b=h'.objs.size
   ·subst z1
    rw[h1]at e
    cases e
    refine⟨⟨(X.mg "__name__").getD .none,ctv,?_⟩,⟨fO,YL _ (by rw[hfO];rfl)⟩,nQ.stb⟩
    rw[hfO]
    exact YL _ rfl
   ·by_cases z2:b=c'
    ·subst z2
     rw[h2]at e
     cases e
     have hr:(h'.push fO).CodeRec (.ref b) qual:=jK.stb _ _ hrec fun o q=>Yp _ q
     obtain⟨c2,oc,vs,t,e2,ho,_⟩:=id hr
     cases e2
     exact⟨hr,⟨oc,ho⟩,jK.stb⟩
    ·by_cases z3:b=P
     ·subst z3
      rw[h3]at e
      cases e
      exact Yp _ htb
     ·rw[h4 b z3 z2 z1]at e
      refine(I.hok b o e).stay (fun d u hd q=>hk d u ?_ q) (fun d q=>h5 d _ (nP d _ q fun _ z=>by cases z) q) fun d xs q=>h5 d _ (nP d _ q fun _ z=>by cases z) q
      rcases hd with rfl | hd
      ·exact z3
      ·exact nP d _ hd fun _ z=>by cases z
 ·refine W.kla_makeFunctionHit (mg:=X.mg) hcl I.ok.glob hg hcode CH hPo ht hf hB fun ctv h' tk hx hsz=>?_
  obtain⟨fO,hfO⟩:∃fO,fO=W.kla_obj "<lambda>" qual params body scope cl ((X.mg "__name__").getD .none) c' ctv:=⟨_,rfl⟩
  have hk:∀b o,s.heap.get? b=some o->(h'.push fO).get? b=some o:=fun b o q=>Yp _ (hx b o q)
  have hfn:H h'.objs.size=none:=I.hok.fresh hsz
  have h5:∀b o,H b=some o->upd H h'.objs.size (nQ h'.objs.size qual params body scope cl c') b=some o:=fun b o q=>by
   rw[aH (aP q hfn)];exact q
  rw[show (⟨.type "function",none,.func (W.kla_fn "<lambda>" qual params body scope cl ((X.mg "__name__").getD .none) (.ref c') ctv), #[]⟩:Obj)=fO from hfO.symm]
  refine h h'.objs.size c' (upd H h'.objs.size (nQ h'.objs.size qual params body scope cl c')) _ hfn (fun b o _ q=>h5 b o q) ⟨ps,h5 _ _ hP,ht,hf⟩ (.inr ⟨ps,hP,ht,hf⟩) (h5 _ _ hc') aB (I.call' (ch:=[]) rfl (Un.laid hk hsz hfn) (I.hok.laid hk hsz ?_) I.bare (fun b z=>absurd z (by simp)))
  refine⟨⟨(X.mg "__name__").getD .none,ctv,?_⟩,⟨fO,YL _ (by rw[hfO];rfl)⟩,nQ.stb⟩
  rw[hfO]
  exact YL _ rfl
end
theorem b2C {P:Program}{w:World}{K:W.Frag}{mg:Str->Option Value}{base:Heap}{k:Nat}{f c':Addr}{params:Arguments}{body:Expr}{scope:Scope}{qual:Str}{cl:List (Str×Addr)}{N ps ys:List Str}{A:Around}{outer:List Env}{s:Shared}{H:Hp}{args:Args}{us:List Value}{vs ws:List V}{Q:VK}{E:XK}
  (S:vD N ps ys scope) (hr:dR (k+1) A) (e0:rG P w K mg base A outer s H) (hf:H f=some (nQ f qual params body scope cl c')) (hcd:H c'=some (jK c' qual)) (hc:Cells H cl ys ws) (hl:vs.length=ps.length) (r:Vals vs us)
  (hb:∀pm ctv,BindsTo s (W.kla_fn "<lambda>" qual params body scope cl pm (.ref c') ctv) args (ps.zip us))
  (hbody:dR k (A.deeper (W.envX qual scope s.heap.objs.size f (.ref c') cl))->∃t,PE (cxC P w K mg base N qual scope f (.ref c') cl A outer s (lO H (cl.map (·.2)))) body t/\
   t (qD N vs ws) (lO H (cl.map (·.2))) fun v H'=>Q v (xO H H' (cl.map (·.2)))) :
  codeAny (model P w) A (.call (.ref f) args) (CR CX0 outer P w H s Q E) s:=by
 obtain⟨⟨pm,ctv,ho⟩,_,_⟩:=e0.hok _ _ hf
 obtain⟨hrec,_,_⟩:=e0.hok _ _ hcd
 have his:∀c∈cl.map (·.2),∃v,H c=some (lF c v):=fun c h=>Cells.is hc.2.2 h
 have lim:s.heap.NoLimit:=e0.mod.nolimit.keeps fun b o e=>(e0.bs b o e).1
 have hloc:∀y∈ps.zip us,scope.names.lookup y.1=some .local:=fun ⟨n,v⟩ hy=>S.par n (X6 hy).1
 refine W.kla_callFunE hr.depth ho rfl S.co S.gen rfl hrec (hb pm ctv _ _ _ _ ?_)
 refine wpAny_newFunctionEnv (fun y hy=>(S.only y hy).1) hloc (fun h' hn hsb=>?_) S.kind
 have hk:∀b o,s.heap.get? b=some o->h'.get? b=some o:=fun b o e=>by
  have hne:b≠s.heap.objs.size:=YO (Ys e)
  rw[hsb.2 b hne]
  exact Yp _ e
 refine⟨lim.keeps hk,W.kla_codeExpr ?_⟩
 obtain⟨t,ht,hq⟩:=hbody (hr.deeper _)
 have I:=zA (qual:=qual) (f:=f) (cd:= .ref c') (tk:=s.toks+(ps.zip us).length) S hr.hd e0 hl r hc hn hk
 refine Xe (ht [] _ _ _ _ I hq) (fun u0 s' hs=>?_) fun e s' hs=>hs.elim
 have fin :∀{σ':St}{H':Hp}{v:V}{u:Value},Inv (cxC P w K mg base N qual scope f (.ref c') cl A outer s (lO H (cl.map (·.2)))) [] σ' H' s'->RelV v u->Q v (xO H H' (cl.map (·.2)))->CE outer P w H s Q u s':=by
  intro σ' H' v u J rv q
  have nx:∀b u,H b=some u->(∀φ,u≠ .ext φ)->b∉cl.map (·.2):=fun b u q hn z=>by
   obtain⟨v,e2⟩:=his b z
   rw[q]at e2
   exact hn _ (Yo e2)
  have nn:∀b,H b=none->b∉cl.map (·.2):=fun b q z=>by
   obtain⟨v,e2⟩:=his b z
   rw[q]at e2;cases e2
  have hJ:∀c∈cl.map (·.2),H' c=none:=fun c hm=>by
   obtain⟨p,hp,rfl⟩:=YA.mp hm
   have q:cl.lookup p.1=some p.2:=mV (by rw[hc.1];exact(List.nodup_append.mp (show (ps++ys).Nodup by rw[<-S.pre];exact S.nd.sublist (List.take_sublist _ _))).2.1) hp
   exact J.freeC p.1 p.2 q
  have un:=J.base
  have un':Un (frs outer) [] (lO H (cl.map (·.2))) H' s.heap s'.heap:=un
  refine⟨v,xO H H' (cl.map (·.2)),J.os,J.bare,⟨fun b o e n hb he=>un'.keep b o e (by rw[dD (nn b n)];exact n) hb he,fun b o e n hb he=>un'.slot b o e (by rw[dD (nn b n)];exact n) hb he,fun b o e n he=>?_,un'.there,fun b xs q=>?_,fun b o u q=>?_,fun b ps' q=>?_⟩,fun b o e=>?_,rv,q⟩
  ·rw[gO (nn b n)]
   exact un'.free b o e (by rw[dD (nn b n)];exact n) he
  ·have hb:=nx b _ q fun φ z=>by cases z
   rw[gO hb]
   exact un'.tups b xs (by rw[dD hb];exact q)
  ·have hb:=nx b _ q fun φ z=>by cases z
   rw[gO hb]
   exact un'.frzs b o u (by rw[dD hb];exact q)
  ·have hb:=nx b _ q fun φ z=>by cases z
   obtain⟨more,e⟩:=un'.tbls b ps' (by rw[dD hb];exact q)
   exact⟨more,by rw[gO hb];exact e⟩
  ·by_cases hb:b∈cl.map (·.2)
   ·rw [a2A hb]at e
    obtain⟨v2,e2⟩:=his b hb
    have hbf:b∉frs outer:=fun z=>by
     have:=e0.frf b z
     rw[e2]at this;cases this
    rw[e2]at e
    cases e
    obtain⟨p,⟨ob,eo⟩,stb⟩:=e0.hok b _ e2
    have kk:∀u,s.heap.get? b=some u->s'.heap.get? b=some u:=fun u q=>un'.keep b u q (mY hb) hbf (by simp)
    exact⟨stb _ _ p kk,⟨ob,kk _ eo⟩,stb⟩
   ·rw [gO hb]at e
    refine(J.hok b o e).stay (fun d u _ q=>q) (fun d q=>?_) fun d xs q=>?_
    ·have hd:d∉cl.map (·.2):=fun z=>by rw[hJ d z]at q;cases q
     rw[gO hd];exact q
    ·have hd:d∉cl.map (·.2):=fun z=>by rw[hJ d z]at q;cases q
     rw[gO hd];exact q
 obtain⟨v,H',J,rv,q⟩:=hs
 exact fin J rv q
def FnE (K:W.Frag)(H:Hp)(f:Addr):Prop:=(∃oc od fd sl,K.lookup f=some ⟨oc,od,.func fd,sl⟩)\/∃φ,H f=some (.ext φ)/\∀h,φ h->W.FnAt f h
theorem FnE.lam {c':Addr}(h:H f=some (nQ f qual params body scope cl c')):FnE K H f:=
 .inr ⟨_,h,fun _ ⟨_,_,e⟩=>⟨_,_,_,_,e⟩⟩
def b5F (K:W.Frag)(spc:Addr->List V->Hp->VK->Prop)(i:Nat)(t:TA):TE:=fun σ H Q=>∃f,σ[i]? =some (some (.ref f))/\FnE K H f/\t σ H fun vs H1=>FnE K H1 f/\spc f vs H1 Q
section
variable {spc:Addr->List V->Hp->VK->Prop}
theorem FnE.at (I:Inv X pins σ H s)(h:FnE X.K H f):W.FnAt f s.heap:=by
 rcases h with ⟨oc,od,fd,sl,e⟩ | ⟨φ,e,z⟩
 ·exact⟨oc,od,fd,sl,I.kIn _ _ e⟩
 ·exact z _ (I.hok _ _ e).1
theorem a7J (F:a2F X.prog X.w X.K X.mg X.base k spc)(hr:dR k X.A)(hv:PE X (.Name x p) (b5A i))(ha:PA X (e::es) t)(hK:X.K=K:=by rfl)(he:starEach (e::es) X.env=(false,eval e X.env)::starEach es X.env:=by rfl)(hpl:(backTo pos (starEach es X.env)).any (·.1)=false:=by rfl):
  PE X (.Call (.Name x p) (e::es) [] pos) (b5F K spc i t):=by
 subst hK
 intro pins s σ H Q I ⟨f,h1,h2,h3⟩
 refine Xn (thn (hv pins s σ H (fun v H'=>v= .ref f/\H'=H) I ⟨_,h1,rfl,rfl⟩) fun u s1 hz9=>?_)
 obtain⟨v,H1,I1,rv,e1,e2⟩:=hz9
 subst e1 e2
 obtain rfl:u=Value.ref f:=rv
 refine W.callWith_F (h2.at I1) (thn (ha pos pins s1 σ H1 _ I1 h3) fun us s2 ⟨vs,H2,I2,r,h4,h5⟩=>⟨h4.at I2,?_⟩) he hpl
 refine wpAny_call (Ji (F f X.A X.stack s2 H2 us vs Q hr I2.env0 r h5) fun r s' hq=>?_)
 cases r with
 |error e=>exact hq.elim
 | ok fl=>
  cases fl with
  |ret u=>exact I2.after hq
  |next=>exact False.elim hq
  |brk=>exact False.elim hq
  |cont=>exact False.elim hq
end
section
def c1P (X:Cx)(Q:VK)(fl:Flow)(s':Shared):Prop:=∃u,fl= .ret u/\∃v H',s'.os=X.s₀.os/\AllBare s'.gens/\Un X.fs X.ex X.H₀ H' X.s₀.heap s'.heap/\HOk X.prog X.w H' s'.heap/\RelV v u/\Q v H'
def c1V (C P:Addr)(m iq y:Str)(ip:Arguments)(ib:Expr)(isc:Scope)(pos:Pos)(iy:Nat)(sp:Sp)(ta:TE)(Q:VK):St->Hp->Prop:=fun σ H=>ta σ H fun x H1=>∃a dx fs w,x= .ref a/\H1 a=some (.ins C dx fs)/\fs.lookup m=none/\σ[iy]? =some (some w)/\a4M P pos iq H1/\
 ∀f c c' H2,H1 f=none->H1 c=none->(∀b o,b≠P->H1 b=some o->H2 b=some o)->xQ P pos c' H2->(H1 c'=none\/xQ P pos c' H1)->H2 c'=some (jK c' iq)->H2 c=some (lF c w)->H2 f=some (nQ f iq ip ib isc [(y,c)] c')->sp [.ref a,.ref f] H2 Q fun _ _ _=>False
theorem b6D {C c0 P bm fa:Addr}{fd:FuncData}{ps:List Str}{k iy:Nat}{sp:Sp}{m iq y:Str}{ip:Arguments}{ib:Expr}{isc:Scope}{lpos pos apos p2:Pos}{o:Expr}{ta:TE}{Q:VK}{pl:Sem Bool}(he:PE X o ta)(c:Cls X.K C)(hm:Meth X.K C m fa)(F:fQ X.prog X.w X.K X.mg X.base CX0 k fa fd ps sp)(hr:dR k X.A)(hb:Binds X.K fd ps [])
    (hcode:X.env.code= .ref c0) (Cd:W.codeHdIn X.K c0 P=true) (hbm:Bm X.K X.mg bm) (hcl:∀c,X.env.cells.lookup y=some c->closureFor isc X.env=pure [(y,c)]) (hy:X.N[iy]? =some y) (hyc:X.env.scope.names.lookup y=some .cell) (hfn:X.fn y=true) (hdef:defaultsOf ip X.env=([], [])) (hq:X.env.qual++"<lambda>"=iq)
    (hst:starEach [.Lambda ip ib isc lpos] X.env=(false,eval (.Lambda ip ib isc lpos) X.env)::starEach [] X.env:=by rfl)
    (ht:eval (.Call (.Attribute o m apos) [.Lambda ip ib isc lpos] [] pos) X.env=(do
      let ov<-eval o X.env
      standAt apos.atName
      let (f,first)<-holding [ov] (getMethod ov m pl)
      callWith pos f first (backTo pos (starEach [.Lambda ip ib isc lpos] X.env)) (backToKw pos (keywordEach [] X.env))):=by rfl) :
    PF X [.Return (some (.Call (.Attribute o m apos) [.Lambda ip ib isc lpos] [] pos)) p2] (c1V C P m iq y ip ib isc lpos iy sp ta Q) (c1P X Q):=by
  intro pins s σ H I h
  obtain⟨cc,hc⟩:=I.ok.has y (.inl hyc)
  refine wpAny_execs_cons (wpAny_Return_some ?_)
  have lam:PE X (.Lambda ip ib isc lpos) (fun σ H Q=>a4M P lpos iq H/\∀f c' H',H f=none->(∀b o,b≠P->H b=some o->H' b=some o)->xQ P lpos c' H'->(H c'=none\/xQ P lpos c' H)->H' c'=some (jK c' iq)->H' f=some (nQ f iq ip ib isc [(y,cc)] c')->Q (.ref f) H'):=by
    intro pins s σ H Q I ⟨hT,kk⟩
    refine W.kla_eval hdef ?_
    rw[hq]
    exact b6Y I hcode Cd hbm hT (hcl cc hc) fun f c' H' s' hf hsm hT' hor hc' hf' J=>⟨.ref f,H',J,rfl,kk f c' H' hf hsm hT' hor hc' hf'⟩
  refine XE (pl:=pl) (thn (he pins s σ H _ I h) fun u s1 hz1=>?_) ht
  obtain⟨x,H1,I1,rx,a,dx,fs,w,ex,ea,l,hw,hT,q⟩:=hz1
  subst ex
  obtain rfl:u=Value.ref a:=rx
  refine fM I1 ea c hm l ?_
  have hn1:=I1.freeC y cc hc
  refine X4 (first:=[.ref a]) (h₀:=X.base) I.ok.mod.kin hm.kp (thn ((aA lam aD hst) pos pins s1 σ H1 (fun vs H2=>∃f c',vs= [.ref f]/\H1 f=none/\(∀b o,b≠P->H1 b=some o->H2 b=some o)/\xQ P lpos c' H2/\(H1 c'=none\/xQ P lpos c' H1)/\H2 c'=some (jK c' iq)/\H2 f=some (nQ f iq ip ib isc [(y,cc)] c')) I1 ⟨hT,fun f c' H' h1 h2 h3 h3' h4 h5=>⟨f,c',rfl,h1,h2,h3,h3',h4,h5⟩⟩) fun us s2 hz2=>?_) hst rfl
  obtain⟨vs,H2,I2,r,f,c',e1,h1,h2,h3,h3',h4,h5⟩:=hz2
  refine⟨I2.kIn,?_⟩
  subst e1
  have hn2:=I2.freeC y cc hc
  obtain⟨mm,_,hl⟩:=I2.loc
  obtain⟨uv,ru,lk⟩:=hl iy y w hy hw (.inr (.inl hyc))
  have hcell:s2.heap.IsCell cc (some uv):=by
    rcases lk with ⟨hk,_⟩ | ⟨_,c2,hc2,hcell⟩
    · have hk':X.env.scope.names.lookup y=some .local:=hk
      rw[hyc]at hk';cases hk'
    · rw[hc]at hc2
      cases hc2
      exact hcell
  have hco:∃o,s2.heap.get? cc=some o:=by obtain⟨o,ho,_⟩:=hcell;exact⟨o,ho⟩
  have hcs:X.s₀.heap.objs.size<=cc:=I2.ok.cab y cc hfn hc
  obtain⟨H3,hH3⟩:∃H3,H3=upd H2 cc (lF cc w):=⟨_,rfl⟩
  have up:∀b o,H2 b=some o->H3 b=some o:=fun b o z=>by rw[hH3,aH (aP z hn2)];exact z
  have hok3:HOk X.prog X.w H3 s2.heap:=fun b o z=>by
    by_cases hbc:b=cc
    · subst hbc
      rw[hH3,aB]at z
      cases z
      exact⟨⟨uv,ru,hcell⟩,hco,fun k1 k2 ⟨v1,r1,o1,ho1,hd1⟩ kk=>⟨v1,r1,o1,kk _ ho1,hd1⟩⟩
    · rw[hH3,aH hbc]at z
      exact(I2.hok b o z).stay (fun d u' _ zz=>zz) (fun d zz=>up d _ zz) fun d xs zz=>up d _ zz
  have e0:=I2.env0
  have ltc:∀b,b<X.s₀.heap.objs.size->b≠cc:=fun b z=>YO (Yj z hcs)
  have e3 :rG X.prog X.w X.K X.mg X.base X.A X.stack s2 H3:=⟨e0.frames,e0.mod,fun b o z=>⟨(e0.bs b o z).1,by
      rw[hH3,aH (ltc b (Yj (Ys z) I2.ok.bsz))];exact(e0.bs b o z).2⟩,e0.bsz,e0.funs,fun b z=>by
      rw[hH3,aH fun q=>?_]
      · exact e0.frf b z
      · rcases YG.mp (I2.stkSub b z) with e | hb'
        · exact I2.cne y cc hc (q.symm.trans e)
        · obtain⟨_,o,ho,_⟩:=I2.ok.funs.mem hb'
          exact ltc b (Ys ho) q,hok3,e0.bare⟩
  have hspec:=q f cc c' H3 h1 hn1 (fun b o n z=>up b o (h2 b o n z)) (by
    obtain⟨qs,a1,a2,a3⟩:=h3
    exact⟨qs,up _ _ a1,a2,a3⟩) h3' (up _ _ h4) (by rw[hH3,aB]) (up _ _ h5)
  have hl2:((Value.ref a::us)++[]).length=ps.length:=by
    rw[YS,<-(show Vals (.ref a::[.ref f]) (Value.ref a::us) from .cons rfl r).length];exact F.len _ _ _ _ hspec
  have hbd:=hb s2 (.ref a::us) I2.kIn hl2
  rw[YS]at hbd
  refine wpAny_call (Ji (F.run X.A X.stack s2 H3 ⟨.ref a::us, []⟩ (.ref a::us) [.ref a,.ref f] Q _ hr e3 hbd (.cons rfl r) hspec) fun r s' hq'=>?_)
  cases r with
  |error e=>exact hq'.elim
  | ok fl =>
    cases fl with
    |next=>exact False.elim hq'
    |brk=>exact False.elim hq'
    |cont=>exact False.elim hq'
    | ret u=>
      obtain⟨v,H',os,bare,un,hok,rv,qq⟩:=hq'
      have b0:=I2.base
      have h30:∀b ob,X.s₀.heap.get? b=some ob->H2 b=none->H3 b=none:=fun b ob z n=>by
        rw[hH3,aH (ltc b (Ys z))];exact n
      have nst:∀b ob,X.s₀.heap.get? b=some ob->b∉X.fs->b∉frs X.stack:=fun b ob z n hb'=>by
        rcases YG.mp (I2.stkSub b hb') with e | hb''
        · have:=I2.ok.above
          rw[<-e]at this
          exact absurd (Ys z) (Nat.not_lt.mpr this)
        · exact n hb''
      refine⟨u,rfl,v,H',os.trans I2.os,bare,⟨fun b ob z n hb' hx=>?_,fun b ob z n hb' hx=>?_,fun b ob z n hx=>?_,fun b ob z hx=>?_,fun b xs z=>?_,fun b ob uu z=>?_,fun b qs z=>?_⟩,hok,rv,qq⟩
      · exact un.keep b ob (b0.keep b ob z n hb' hx) (h30 b ob z (b0.free b ob z n hx)) (nst b ob z hb') (by simp)
      · obtain⟨sl,e1⟩:=b0.slot b ob z n hb' hx
        obtain⟨sl',e2⟩:=un.any e1 (h30 b ob z (b0.free b ob z n hx)) (by simp)
        exact⟨sl',e2⟩
      · obtain⟨o',e1⟩:=b0.there b ob z hx
        exact un.free b o' e1 (h30 b ob z (b0.free b ob z n hx)) (by simp)
      · obtain⟨o',e1⟩:=b0.there b ob z hx
        exact un.there b o' e1 (by simp)
      · exact un.tups b xs (up _ _ (b0.tups b xs z))
      · exact un.frzs b ob uu (up _ _ (b0.frzs b ob uu z))
      · obtain⟨m1,z1⟩:=b0.tbls b qs z
        obtain⟨m2,z2⟩:=un.tbls b _ (up _ _ z1)
        exact⟨m1++m2,by rw[z2,Array.append_assoc]⟩
end
theorem Fun.okL {CX:CXT}{P:Program}{w:World}{K:W.Frag}{mg:Str->Option Value}{base:Heap}{x qual:Str}{st:Stmt}{f c0:Addr}{fd:FuncData}{N ps:List Str}{k:Nat}{sp:Sp}(F:Fun K x qual st f fd)(hcode:fd.code= .ref c0)(S:gY N ps (bY st))(len:∀vs H Q E,sp vs H Q E->vs.length=ps.length)
  (hbody:∀(A:Around)(outer:List Env)(s:Shared)(H:Hp)(vs:List V)(Q:VK)(E:XK),dR k (A.deeper (envOfC qual (bY st) s.heap.objs.size f (.ref c0)))->sp vs H Q E->
   ∃u,PF (uP CX P w K mg base N qual (bY st) f (.ref c0) A outer s H E) (gR st) u (c1P (uP CX P w K mg base N qual (bY st) f (.ref c0) A outer s H E) Q)/\u (start N vs) H):fQ P w K mg base CX (k+1) f fd ps sp:=by
 obtain⟨oc,od,kV,doc,pm,an,cdv,ct,osl,rfl,lk,hcd⟩:=F.ex
 have hcv:cdv= .ref c0:=hcode
 subst hcv
 refine⟨len,fun A outer s H args us vs Q E hr e0 hb r hsp=>?_⟩
 have hl:=len _ _ _ _ hsp
 have KX:K.In s.heap:=e0.mod.kin.keeps fun b o e=>(e0.bs b o e).1
 have lim:s.heap.NoLimit:=e0.mod.nolimit.keeps fun b o e=>(e0.bs b o e).1
 refine codeAny_call_function hr.depth (KX _ _ lk) rfl S.co S.gen rfl (W.codeRec_of KX hcd) (hb _ _ _ _ ?_)
 refine wpAny_newFunctionEnv_cells S.kind (fun ⟨n,v⟩ hy=>by
  rcases S.par n (X6 hy).1 with q | q
  ·exact .inl q
  ·exact .inr ⟨q,W.cellsFrom_some _ _ _ (.inl q)⟩) fun env he s1 xx=>?_
 subst he
 refine⟨lim.keeps xx.toInCall.keep,codeAny_func ?_⟩
 obtain⟨u,hu,hq⟩:=hbody A outer s H vs Q E (hr.deeper _) hsp
 have I:Inv (uP CX P w K mg base N qual (bY st) f (.ref c0) A outer s H E) [] (start N vs) H s1:=tD S hr.hd e0 hl r xx
 refine Xe (hu [] s1 (start N vs) H I hq) (fun fl s' hs=>?_) fun e s' hs=>hs
 obtain⟨v,rfl,v',H',os,bare,un,hok,rv,q⟩:=hs
 exact⟨v',H',os,bare,un,hok,rv,q⟩
end L2
namespace Bm
def fG (n j:Nat):Int:=if n.testBit j then 1 else 0
def bN (n m:Nat):List Int:=(List.range m).map fun i=>fG n (m-1-i)
def jP (bs:List Int):Int:=bs.foldl (fun x b=>x*2+b) 0
def bO (bs:List Int):Prop:=∀b∈bs,b=0\/b=1
theorem b2V (n j:Nat):fG n j=0\/fG n j=1:=by unfold fG;split <;> simp
theorem gC (n m:Nat):bO (bN n m):=fun b hb=>by
 obtain⟨i,_,rfl⟩:=YA.mp hb
 exact b2V _ _
theorem cC (n m:Nat):(bN n m).length=m:=by unfold bN;rw[Ya,YN]
theorem tG {n m k:Nat}(h:k<(bN n m).length):(bN n m)[k]=fG n (m-1-k):=by simp[bN]
theorem a9B (n j:Nat):((n / 2 ^ j:Nat):Int)=((n / 2 ^ (j+1):Nat):Int)*2+fG n j:=by
 have e:n / 2 ^ (j+1)=n / 2 ^ j / 2:=by rw[XI,Nat.div_div_eq_div_mul]
 unfold fG
 rw[Y2,e]
 generalize n / 2 ^ j=q
 by_cases h:q % 2=1
 ·rw[Ye h,if_pos rfl];omega
 ·rw[Yi h,if_neg (by decide)];omega
theorem a7R:jP []=0:=rfl
theorem nZ (l:List Int)(b:Int):jP (l++[b])=jP l*2+b:=by
 unfold jP;rw[Y8];rfl
theorem a3H (l:List Int):∀x:Int,l.foldl (fun x b=>x*2+b) x=x*2 ^ l.length+jP l:=by
 induction l with
 |nil=>intro x;simp[jP]
 | cons b r ih=>
  intro x
  unfold jP
  rw[Xq,Xq,ih,ih,Yz,Int.pow_succ]
  have:(x*2+b)*2 ^ r.length=x*(2 ^ r.length*2)+b*2 ^ r.length:=by
   rw[Int.add_mul,Int.mul_assoc,Int.mul_comm 2 (2 ^ r.length)]
  rw[this]
  simp only[Int.zero_mul,XM]
  omega
theorem sO (b:Int)(l:List Int):jP (b::l)=b*2 ^ l.length+jP l:=by
 show (b::l).foldl _ 0=_
 rw[Xq,a3H];simp
theorem uF {l:List Int}(h:bO l):0<=jP l/\jP l<2 ^ l.length:=by
 induction l with
 |nil=>exact⟨Int.le_refl _,by decide⟩
 | cons b r ih=>
  have:=ih fun z hz=>h z (Yw _ hz)
  rw[sO,Yz,Int.pow_succ]
  have p:(0:Int)<2 ^ r.length:=Int.pow_pos (by decide)
  rcases h b YC with rfl | rfl
  ·omega
  ·omega
theorem a7P (n m:Nat)(hn:n<2 ^ m):∀k,k<=m->jP ((bN n m).take k)=((n / 2 ^ (m-k):Nat):Int):=by
 intro k
 induction k with
 | zero=>
  intro _
  rw[Jf,a7R,Nat.sub_zero,Nat.div_eq_of_lt hn];rfl
 | succ k ih=>
  intro hk
  have hl:k<(bN n m).length:=by rw[cC];omega
  rw[Yg hl,nZ,ih (by omega)]
  have e1:(bN n m)[k]=fG n (m-1-k):=tG hl
  rw[e1]
  have e2:m-k=(m-1-k)+1:=by omega
  have e3:m-(k+1)=m-1-k:=by omega
  rw[e2,e3,a9B n (m-1-k)]
theorem a7Q {n m:Nat}(hn:n<2 ^ m):jP (bN n m)=(n:Int):=by
 have h:=a7P n m hn m (Yd _)
 rw[Yk (by rw[cC];exact Yd _),Xz,Nat.pow_zero,Nat.div_one]at h
 exact h
end Bm
namespace Rn
open Bm
def Win (l:List Int)(a n:Nat):Prop:=a+n<=l.length/\∀i j,a<=i->i<a+n->a<=j->j<a+n->l.getD i 0=l.getD j 0
theorem pZ {l:List Int}(h:bO l):0<=l.sum/\l.sum<=l.length:=by
 induction l with
 |nil=>exact⟨Int.le_refl _,Int.le_refl _⟩
 | cons b r ih=>
  have:=ih fun z hz=>h z (Yw _ hz)
  rw[List.sum_cons,Yz]
  rcases h b YC with rfl | rfl <;> omega
theorem vL {l:List Int}(h:bO l)(e:l.sum=0):∀b∈l,b=0:=by
 induction l with
 |nil=>intro b hb;cases hb
 | cons c r ih=>
  have hr:bO r:=fun z hz=>h z (Yw _ hz)
  have s:=pZ hr
  rw[List.sum_cons]at e
  intro b hb
  rcases h c YC with rfl | rfl
  ·rcases YG.mp hb with rfl | hb
   ·rfl
   ·exact ih hr (by omega) b hb
  ·omega
theorem vM {l:List Int}(h:bO l)(e:l.sum=l.length):∀b∈l,b=1:=by
 induction l with
 |nil=>intro b hb;cases hb
 | cons c r ih=>
  have hr:bO r:=fun z hz=>h z (Yw _ hz)
  have s:=pZ hr
  rw[List.sum_cons,Yz]at e
  intro b hb
  rcases h c YC with rfl | rfl
  ·omega
  ·rcases YG.mp hb with rfl | hb
   ·rfl
   ·exact ih hr (by omega) b hb
theorem a2P {c:Int}{l:List Int}(h:∀b∈l,b=c):l.sum=c*l.length:=by
 induction l with
 |nil=>simp
 | cons b r ih=>
  rw[List.sum_cons,ih fun z hz=>h z (Yw _ hz),h b YC,Yz]
  have:((r.length+1:Nat):Int)=(r.length:Int)+1:=by omega
  rw[this,Int.mul_add,Int.mul_one];omega
theorem a1X {l:List Int}{a n i:Nat}(h:i<n)(ha:a+n<=l.length):((l.drop a).take n).getD i 0=l.getD (a+i) 0:=by
 rw[Yh,Yh,XC h,List.getElem?_drop]
theorem nD {l:List Int}{a n:Nat}(ha:a+n<=l.length):((l.drop a).take n).length=n:=by
 rw[Yr,XS];omega
theorem b2B {l:List Int}{a n:Nat}{b:Int}(ha:a+n<=l.length)(h:b∈(l.drop a).take n):∃i,i<n/\b=l.getD (a+i) 0:=by
 obtain⟨i,hi,e⟩:=List.mem_iff_getElem.mp h
 have hi':i<n:=by rw[nD ha]at hi;exact hi
 refine⟨i,hi',?_⟩
 rw[<-a1X hi' ha,Yh,Yb hi,<-e];rfl
theorem b0A {l:List Int}(hb:bO l){a n:Nat}(hn:0<n)(ha:a+n<=l.length):((l.drop a).take n).sum % (n:Int)=0↔Win l a n:=by
 have hc:bO ((l.drop a).take n):=fun b h=>hb b (List.mem_of_mem_drop (XA h))
 have s:=pZ hc
 rw[nD ha]at s
 constructor
 ·intro h
  have:((l.drop a).take n).sum=0\/((l.drop a).take n).sum=n:=by
   by_cases z:((l.drop a).take n).sum=n
   ·exact .inr z
   ·rw[Int.emod_eq_of_lt s.1 (by omega)]at h;exact .inl h
  refine⟨ha,fun i j i1 i2 j1 j2=>?_⟩
  have gi:∀k,a<=k->k<a+n->l.getD k 0∈(l.drop a).take n:=fun k k1 k2=>by
   have h1:k-a<((l.drop a).take n).length:=by rw[nD ha];omega
   have e:=a1X (l:=l) (a:=a) (n:=n) (i:=k-a) (by omega) ha
   have e2:a+(k-a)=k:=by omega
   rw[e2,Yh,Yb h1]at e
   rw[<-e];exact YR h1
  rcases this with e | e
  ·rw[vL hc e _ (gi i i1 i2),vL hc e _ (gi j j1 j2)]
  ·have e':((l.drop a).take n).sum=((l.drop a).take n).length:=by rw[nD ha];exact e
   rw[vM hc e' _ (gi i i1 i2),vM hc e' _ (gi j j1 j2)]
 ·intro h
  have:∀b∈(l.drop a).take n,b=l.getD a 0:=fun b hm=>by
   obtain⟨i,hi,rfl⟩:=b2B ha hm
   exact h.2 (a+i) a (by omega) (by omega) (by omega) (by omega)
  rw[a2P this,nD ha]
  exact Int.mul_emod_left _ _
end Rn
namespace Cl
def xs:Nat->(Nat->Nat)->Nat
 |0,_=>0
 |n+1,f=>xs n f ^^^ f n
theorem xs_congr {n:Nat}{f g:Nat->Nat}(h:∀k,k<n->f k=g k):xs n f=xs n g:=by
 induction n with
 |zero=>rfl
 | succ n ih=>
  show xs n f ^^^ f n=xs n g ^^^ g n
  rw[ih (fun k hk=>h k (by omega)),h n (by omega)]
theorem xs_zero {n:Nat}{f:Nat->Nat}(h:∀k,k<n->f k=0):xs n f=0:=by
 induction n with
 |zero=>rfl
 | succ n ih=>
  show xs n f ^^^ f n=0
  rw[ih (fun k hk=>h k (by omega)),h n (by omega)];rfl
theorem xor4 (a b c d:Nat):(a ^^^ b) ^^^ (c ^^^ d)=(a ^^^ c) ^^^ (b ^^^ d):=by
 rw[XV,<-XV b c d,Nat.xor_comm b c,XV c b d,<-XV]
theorem xs_xor {n:Nat}{f g:Nat->Nat}:xs n (fun k=>f k ^^^ g k)=xs n f ^^^ xs n g:=by
 induction n with
 |zero=>exact(Jb 0).symm
 | succ n ih=>
  show xs n (fun k=>f k ^^^ g k) ^^^ (f n ^^^ g n)=(xs n f ^^^ f n) ^^^ (xs n g ^^^ g n)
  rw[ih,xor4]
theorem xs_more {n m:Nat}{f:Nat->Nat}(hnm:n<=m)(h:∀k,n<=k->k<m->f k=0):xs m f=xs n f:=by
  induction m with
  | zero => have:n=0:=by omega
            subst this;rfl
  | succ m ih=>
    by_cases e:n=m+1
    · subst e;rfl
    · show xs m f ^^^ f m=xs n f
      rw[ih (by omega) (fun k h1 h2=>h k h1 (by omega)),h m (by omega) (by omega)]
      exact Jb _
theorem self {n:Nat}:∀{a:Nat},a<2 ^ n->a=xs n (fun j=>if a.testBit j then 1 <<< j else 0):=by
  induction n with
  | zero => intro a h;have:a=0:=by simpa using h
            subst this;rfl
  | succ n ih=>
    intro a h
    show a=xs n (fun j=>if a.testBit j then 1 <<< j else 0) ^^^ (if a.testBit n then 1 <<< n else 0)
    have hlow:a % 2 ^ n<2 ^ n:=Nat.mod_lt _ (XY n)
    have e1:xs n (fun j=>if a.testBit j then 1 <<< j else 0)=xs n (fun j=>if (a % 2 ^ n).testBit j then 1 <<< j else 0):=by
      refine xs_congr fun k hk=>?_
      rw[Nat.testBit_mod_two_pow]
      simp[hk]
    rw[e1,<-ih hlow]
    apply Nat.eq_of_testBit_eq
    intro i
    rw[XW,Nat.testBit_mod_two_pow]
    by_cases hi:i<n
    · have e2:(if a.testBit n=true then 1 <<< n else 0).testBit i=false:=by
        split
        · rw[X3];simp;omega
        · simp
      rw[e2];simp[hi]
    · by_cases hin:i=n
      · subst hin
        cases hb:a.testBit i with
        |true=>simp[X3]
        |false=>simp
      · have hgt:a.testBit i=false:=Xa (Yj h (Yy (by decide) (by omega)))
        have e2:(if a.testBit n=true then 1 <<< n else 0).testBit i=false:=by
          split
          · rw[X3]
            have h1:(1:Nat).testBit (i-n)=false:=Xa (Yj (by decide:1<2 ^ 1) (Yy (by decide) (by omega)))
            rw[h1,Jd]
          · simp
        rw[e2,hgt];simp[hi]
theorem xs_lt {n m:Nat}{f:Nat->Nat}(h:∀k,k<n->f k<2 ^ m):xs n f<2 ^ m:=by
 induction n with
 |zero=>exact XY m
 |succ n ih=>exact Jg (ih fun k hk=>h k (by omega)) (h n (by omega))
end Cl
namespace Rm
open Bm
theorem b4S {a b n:Nat}(ha:a<2 ^ (n+1))(hb:b<2 ^ (n+1))(ha':2 ^ n<=a)(hb':2 ^ n<=b):a ^^^ b<2 ^ n:=by
 apply Nat.lt_pow_two_of_testBit
 intro i hi
 rw[XW]
 by_cases e:i=n
 ·subst e
  have h1:a.testBit i=true:=by
   rw[Y2]
   have:a / 2 ^ i=1:=by
    apply X9
    ·simpa using ha'
    ·rw[XI]at ha;omega
   rw[this];rfl
  have h2:b.testBit i=true:=by
   rw[Y2]
   have:b / 2 ^ i=1:=by
    apply X9
    ·simpa using hb'
    ·rw[XI]at hb;omega
   rw[this];rfl
  rw[h1,h2];rfl
 ·have h1:a.testBit i=false:=Xa (Yj ha (Yy (by decide) (by omega)))
  have h2:b.testBit i=false:=Xa (Yj hb (Yy (by decide) (by omega)))
  rw[h1,h2];rfl
def nx (r:Nat):Nat:=if 32768<=2*r then (2*r) ^^^ 64647 else 2*r
def rr:Nat->Nat
 |0=>1
 |k+1=>nx (rr k)
theorem a7N {r:Nat}(h:r<32768):nx r<32768:=by
 unfold nx
 split
 ·exact b4S (n:=15) (by omega) (by decide) (by omega) (by decide)
 ·omega
theorem b3U:∀k,rr k<32768
 |0=>by decide
 |k+1=>a7N (b3U k)
theorem uE:nx 0=0:=by decide
theorem b0E (a b:Nat):2*(a ^^^ b)=2*a ^^^ 2*b:=by
 have h:(a ^^^ b) <<< 1=a <<< 1 ^^^ b <<< 1:=Nat.shiftLeft_xor_distrib
 have e:∀z:Nat,z <<< 1=2*z:=fun z=>by rw[Xl];omega
 rw[e,e,e]at h
 exact h
theorem b3I {a:Nat}(h:a<32768):32768<=2*a↔a.testBit 14=true:=by
 rw[Y2,XJ]
 show _↔a / 16384 % 2=1
 omega
theorem a7O {a:Nat}(h:a<32768):nx a=2*a ^^^ (if a.testBit 14=true then 64647 else 0):=by
 unfold nx
 by_cases c:a.testBit 14=true
 ·rw[if_pos c,if_pos ((b3I h).mpr c)]
 ·rw[if_neg c,if_neg fun z=>c ((b3I h).mp z),Jb]
theorem a7M {a b:Nat}(ha:a<32768)(hb:b<32768):nx (a ^^^ b)=nx a ^^^ nx b:=by
 have hab:a ^^^ b<32768:=Jg (n:=15) ha hb
 rw[a7O ha,a7O hb,a7O hab,Cl.xor4,b0E,XW]
 cases a.testBit 14 <;> cases b.testBit 14 <;> rfl
def tm (n k:Nat):Nat:=if n.testBit k then rr k else 0
def R (n:Nat):Nat:=Cl.xs 600 (tm n)
theorem b3J (n k:Nat):tm n k<32768:=by unfold tm;split;exact b3U k;decide
theorem c3T (n:Nat):R n<32768:=Cl.xs_lt (m:=15) fun k _=>b3J n k
theorem c1M (a b:Nat):R (a ^^^ b)=R a ^^^ R b:=by
 unfold R
 rw[<-Cl.xs_xor]
 refine Cl.xs_congr fun k _=>?_
 unfold tm
 rw[XW]
 cases a.testBit k <;> cases b.testBit k <;> simp
theorem b8N:R 0=0:=Cl.xs_zero fun k _=>by unfold tm;rw[Nat.zero_testBit];rfl
theorem a6S:∀k,k<15->rr k=1 <<< k:=by decide
theorem pU {r:Nat}(h:r<32768):R r=r:=by
 unfold R
 have e:Cl.xs 600 (tm r)=Cl.xs 15 (tm r):=Cl.xs_more (by decide) fun k h1 _=>by
  unfold tm
  rw[Xa (Yj h (Yy (n:=2) (i:=15) (by decide) h1))];rfl
 rw[e]
 have s:=Cl.self (n:=15) h
 conv=>rhs;rw[s]
 refine Cl.xs_congr fun k hk=>?_
 unfold tm
 rw[a6S k hk]
theorem c0D {n:Nat}{f:Nat->Nat}(h:∀k,f k<32768):nx (Cl.xs n f)=Cl.xs n fun k=>nx (f k):=by
 induction n with
 |zero=>exact uE
 | succ n ih=>
  show nx (Cl.xs n f ^^^ f n)=_ ^^^ _
  rw[a7M (Cl.xs_lt (m:=15) fun k _=>h k) (h n),ih]
theorem a4V {n:Nat}{f:Nat->Nat}:Cl.xs (n+1) f=f 0 ^^^ Cl.xs n fun k=>f (k+1):=by
 induction n with
 |zero=>show 0 ^^^ f 0=f 0 ^^^ 0;rw[Nat.zero_xor,Jb]
 | succ n ih=>
  show Cl.xs (n+1) f ^^^ f (n+1)=f 0 ^^^ (Cl.xs n (fun k=>f (k+1)) ^^^ f (n+1))
  rw[ih,XV]
theorem tb2 (n b k:Nat)(hb:b<2):(2*n+b).testBit (k+1)=n.testBit k:=by
 rw[XF]
 congr 1;omega
theorem c1X (n b:Nat)(hb:b<2):(2*n+b).testBit 0=decide (b=1):=by
 rw[Nat.testBit_zero]
 congr 1
 have:(2*n+b) % 2=b:=by omega
 rw[this]
theorem zW {n b:Nat}(hn:n<2 ^ 599)(hb:b<2):R (2*n+b)=nx (R n) ^^^ b:=by
 unfold R
 have e:Cl.xs 600 (tm n)=Cl.xs 599 (tm n):=Cl.xs_more (by decide) fun k h1 _=>by
  unfold tm
  rw[Xa (Yj hn (Yy (by decide) h1))];rfl
 rw[e,c0D (b3J n),a4V,Nat.xor_comm]
 congr 1
 ·refine Cl.xs_congr fun k _=>?_
  unfold tm
  rw[tb2 n b k hb]
  cases n.testBit k
  ·exact uE.symm
  ·rfl
 ·unfold tm
  rw[c1X n b hb]
  have:b=0\/b=1:=by omega
  rcases this with rfl | rfl <;> rfl
theorem c1N {n:Nat}(hn:n<2 ^ 599):R (2*n)=nx (R n):=by
 have:=zW hn (b:=0) (by decide)
 rwa [Nat.add_zero,Jb]at this
theorem c1O:∀p,p<=500->R (64647 <<< p)=0:=by
 intro p
 induction p with
 | zero=>
  intro _
  have e:(64647:Nat) <<< 0=2*32323+1:=by decide
  rw[e,zW (Yj (m:=2 ^ 15) (by decide) (Yy (by decide) (by decide))) (by decide),pU (by decide)]
  decide
 | succ p ih=>
  intro hp
  have e:(64647:Nat) <<< (p+1)=2*64647 <<< p:=by rw[Xl,Xl,XI];omega
  rw[e,c1N,ih (by omega)]
  ·exact uE
  ·rw[Xl]
   have:(64647:Nat)*2 ^ p<2 ^ 16*2 ^ p:=Nat.mul_lt_mul_of_pos_right (by decide) (XY p)
   rw[<-Nat.pow_add]at this
   exact Yj this (Yy (by decide) (by omega))
theorem a9R {r p:Nat}(hp:p<=500):R (r ^^^ 64647 <<< p)=R r:=by
 rw[c1M,c1O p hp,Jb]
def nm (bs:List Int):Nat:=(jP bs).toNat
theorem pI {bs:List Int}(h:bO bs):((nm bs:Nat):Int)=jP bs:=Int.toNat_of_nonneg (uF h).1
theorem lX {bs:List Int}(h:bO bs):nm bs<2 ^ bs.length:=by
 have h1:=(uF h).2
 have h2:=pI h
 have:((nm bs:Nat):Int)<((2 ^ bs.length:Nat):Int):=by rw[h2];simpa using h1
 exact_mod_cast this
theorem mO {bs:List Int}{b:Int}(h:bO bs)(hb:b=0\/b=1):nm (bs++[b])=2*nm bs+b.toNat:=by
 have h1:=pI h
 have h2:bO (bs++[b]):=fun z hz=>by
  rcases YI.mp hz with q | q
  ·exact h z q
  ·rw[Yn.mp q];exact hb
 have h3:=pI h2
 rw[nZ]at h3
 rcases hb with rfl | rfl <;> (simp only[Int.toNat_zero,Int.toNat_one];omega)
def rst (bs:List Int):Nat:=R (nm bs)
theorem yO (bs:List Int):rst bs<32768:=c3T _
theorem b1C:rst []=0:=b8N
theorem a6R {bs:List Int}{b:Int}(h:bO bs)(hl:bs.length<=500)(hb:b=0\/b=1):rst (bs++[b])=nx (rst bs) ^^^ b.toNat:=by
 unfold rst
 rw[mO h hb]
 refine zW (Yj (lX h) (Yy (by decide) (by omega))) ?_
 rcases hb with rfl | rfl <;> decide
def stp (r:Nat)(b:Int):Nat:=nx r ^^^ b.toNat
def nxn:Nat->Nat->Nat
 |0,d=>d
 |n+1,d=>nxn n (nx d)
theorem b8I {b:Int}(h:b=0\/b=1):b.toNat<32768:=by rcases h with rfl | rfl <;> decide
theorem b5H {r:Nat}{b:Int}(hr:r<32768)(hb:b=0\/b=1):stp r b<32768:=Jg (n:=15) (a7N hr) (b8I hb)
theorem qG {bs:List Int}(h:bO bs)(hl:bs.length<=500):rst bs=bs.foldl stp 0:=by
 have key:∀k,k<=bs.length->rst (bs.take k)=(bs.take k).foldl stp 0:=by
  intro k
  induction k with
  |zero=>intro _;exact b1C
  | succ k ih=>
   intro hk
   have ht:bO (bs.take k):=fun b hb=>h b (XA hb)
   rw[Yg (by omega),Y8,<-ih (by omega),a6R ht (by rw[Yr];omega) (h _ (YR _))]
   rfl
 have:=key bs.length (Yd _)
 rwa [Yk (Yd _)]at this
theorem wY:∀(suf:List Int),bO suf->∀r d,r<32768->d<32768->suf.foldl stp (r ^^^ d)=suf.foldl stp r ^^^ nxn suf.length d
 |[],_,_,_,_,_=>rfl
 | b ::s,h,r,d,hr,hd=>by
  have hb:=h b YC
  rw[Xq,Xq]
  have e:stp (r ^^^ d) b=stp r b ^^^ nx d:=by
   unfold stp
   rw[a7M hr hd,XV,Nat.xor_comm (nx d),<-XV]
  rw[e,wY s (fun z hz=>h z (Yw _ hz)) _ _ (b5H hr hb) (a7N hd)]
  rfl
end Rm
namespace Wm
open Bm Rn
abbrev S:=Option Int×Nat
def skp (s:S)(b:Int):S:=(some b,if s.1=some b then s.2+1 else 1)
def sk (w:List Int):S:=w.foldl skp (none,0)
def run (w:List Int):Nat:=(sk w).2
theorem lH (w:List Int)(b:Int):sk (w++[b])=skp (sk w) b:=by unfold sk;rw[Y8];rfl
theorem gG (w:List Int)(b:Int):run (w++[b])=if (sk w).1=some b then run w+1 else 1:=by unfold run;rw[lH];rfl
theorem oF (w:List Int)(b:Int):(sk (w++[b])).1=some b:=by rw[lH];rfl
theorem snoc_ind {P:List Int->Prop}(h0:P [])(hs:∀w b,P w->P (w++[b]))(w:List Int):P w:=by
 have :∀n,∀w:List Int,w.length=n->P w:=by
  intro n
  induction n with
  |zero=>intro w hw;rw[List.eq_nil_of_length_eq_zero hw];exact h0
  | succ n ih=>
   intro w hw
   have hne:w≠ []:=fun z=>by rw[z]at hw;cases hw
   rw[<-List.dropLast_concat_getLast hne]
   exact hs _ _ (ih _ (by rw[List.length_dropLast,hw];rfl))
 exact this _ w rfl
theorem a6Q (w:List Int):run w<=w.length:=by
 refine snoc_ind (P:=fun w=>run w<=w.length) (Yd _) (fun w b ih=>?_) w
 rw[gG,Yc,Yt]
 split <;> omega
theorem last_eq (w:List Int)(h:0<w.length):(sk w).1=some (w.getD (w.length-1) 0):=by
 have hne:w≠ []:=fun z=>by rw[z]at h;cases h
 conv=>lhs;rw[<-List.dropLast_concat_getLast hne]
 rw[oF,Yh,Yb (by omega),List.getLast_eq_getElem];rfl
theorem b1B (w:List Int):∀n,1<=n->n<=w.length->(n<=run w↔Win w (w.length-n) n):=by
 refine snoc_ind (P:=fun w=>∀n,1<=n->n<=w.length->(n<=run w↔Win w (w.length-n) n)) (fun n h1 h2=>absurd h2 (by simp;omega)) (fun w b ih n h1 h2=>?_) w
 rw[Yc,Yt]at h2 ⊢
 have gl:∀i,i<w.length->(w++[b]).getD i 0=w.getD i 0:=fun i hi=>by
  rw[Yh,Yh,YF hi]
 have gr:(w++[b]).getD w.length 0=b:=by
  rw[Yh,Yv (Yd _),Xz];rfl
 rw[gG]
 by_cases hn:n=1
 ·subst hn
  refine iff_of_true (by split <;> omega) ⟨by rw[Yc,Yt];omega,fun i j a1 a2 a3 a4=>?_⟩
  have:i=j:=by omega
  rw[this]
 have hw:0<w.length:=by omega
 have ih':=ih (n-1) (by omega) (by omega)
 have hl:=last_eq w hw
 constructor
 ·intro h
  by_cases c:(sk w).1=some b
  ·rw [if_pos c]at h
   have hb:w.getD (w.length-1) 0=b:=by rw[hl]at c;exact Yo c
   have W:=ih'.mp (by omega)
   refine⟨by rw[Yc,Yt];omega,?_⟩
   have key:∀i,w.length+1-n<=i->i<w.length+1-n+n->(w++[b]).getD i 0=b:=fun i a1 a2=>by
    by_cases hi:i<w.length
    ·rw[gl i hi,<-hb]
     exact W.2 i (w.length-1) (by omega) (by omega) (by omega) (by omega)
    ·have:i=w.length:=by omega
     rw[this,gr]
   intro i j a1 a2 a3 a4
   rw[key i a1 a2,key j a3 a4]
  ·rw[if_neg c]at h;omega
 ·intro W
  have e1:=W.2 (w.length-1) w.length (by omega) (by omega) (by omega) (by omega)
  rw[gl _ (by omega),gr]at e1
  have c:(sk w).1=some b:=by rw[hl,e1]
  rw[if_pos c]
  have:=ih'.mpr ⟨by omega,fun i j a1 a2 a3 a4=>by
   have:=W.2 i j (by omega) (by omega) (by omega) (by omega)
   rwa [gl i (by omega),gl j (by omega)]at this⟩
  omega
theorem a4Y {w:List Int}{k a n:Nat}(h:a+n<=k)(hk:k<=w.length):Win (w.take k) a n↔Win w a n:=by
 have e:∀i,i<k->(w.take k).getD i 0=w.getD i 0:=fun i hi=>by
  rw[Yh,Yh,XC hi]
 constructor
 ·intro W
  exact⟨by omega,fun i j a1 a2 a3 a4=>by rw[<-e i (by omega),<-e j (by omega)];exact W.2 i j a1 a2 a3 a4⟩
 ·intro W
  exact⟨by rw[Yr];omega,fun i j a1 a2 a3 a4=>by rw[e i (by omega),e j (by omega)];exact W.2 i j a1 a2 a3 a4⟩
theorem b0G {w:List Int}(hb:bO w){n k:Nat}(hn:0<n)(h1:n<=k)(hk:k<=w.length):((w.drop (k-n)).take n).sum % (n:Int)=0↔n<=run (w.take k):=by
 have hl:(w.take k).length=k:=by rw[Yr];omega
 rw[b0A hb hn (by omega),b1B (w.take k) n hn (by omega),hl]
 exact(a4Y (by omega) hk).symm
def pst (w:List Int)(b:Int):List Int:=if run (w++[b])=5 then w++[b]++[1-b] else w++[b]
def put (l:List Int):List Int:=l.foldl pst []
theorem gJ (l:List Int)(b:Int):put (l++[b])=pst (put l) b:=by unfold put;rw[Y8];rfl
theorem a1B (b:Int):¬ (some b:Option Int)=some (1-b):=fun z=>by have:=Yo z;omega
theorem b1G {w:List Int}{b:Int}(h:run w<=4):run (pst w b)<=4:=by
 unfold pst
 by_cases c:run (w++[b])=5
 ·rw[if_pos c,gG,oF,if_neg (a1B b)];omega
 ·rw[if_neg c]
  rw[gG]at c ⊢
  split at c <;> rename_i z
  ·rw[if_pos z];omega
  ·rw[if_neg z];omega
theorem mG (l:List Int):run (put l)<=4:=snoc_ind (P:=fun l=>run (put l)<=4) (by decide) (fun w b ih=>by rw[gJ];exact b1G ih) l
theorem vZ {l:List Int}(h:bO l):bO (put l):=by
 have : ∀ k,k<=l.length->bO (put (l.take k)):=by
  intro k
  induction k with
  |zero=>intro _ z hz;rw[Jf]at hz;cases hz
  | succ k ih=>
   intro hk
   have hb:=h _ (YR (show k<l.length by omega))
   have hi:=ih (by omega)
   rw[Yg (by omega),gJ]
   intro z hz
   unfold pst at hz
   split at hz
   ·rcases YI.mp hz with q | q
    ·rcases YI.mp q with q | q
     ·exact hi z q
     ·rw[Yn.mp q];exact hb
    ·rw[Yn.mp q];omega
   ·rcases YI.mp hz with q | q
    ·exact hi z q
    ·rw[Yn.mp q];exact hb
 have:=this l.length (Yd _)
 rwa [Yk (Yd _)]at this
theorem b1H (w:List Int)(b:Int):w.length+1<=(pst w b).length/\(pst w b).length<=w.length+2:=by
 unfold pst
 split <;> simp
theorem mH (l:List Int):l.length<=(put l).length/\(put l).length<=2*l.length:=by
 refine snoc_ind (P:=fun l=>l.length<=(put l).length/\(put l).length<=2*l.length) ⟨Yd _,Yd _⟩ (fun w b ih=>?_) l
 have:=b1H (put w) b
 rw[gJ,Yc,Yt]
 omega
def kst (s:S×List Int)(b:Int):S×List Int:=(skp s.1 b,if s.1.2=5 then s.2 else s.2++[b])
def kp (w:List Int):List Int:=(w.foldl kst ((none,0), [])).2
theorem b2D (w:List Int):(w.foldl kst ((none,0), [])).1=sk w:=by
 refine snoc_ind (P:=fun w=>(w.foldl kst ((none,0), [])).1=sk w) rfl (fun w b ih=>?_) w
 rw[Y8,lH,<-ih];rfl
theorem fW (w:List Int)(b:Int):kp (w++[b])=if run w=5 then kp w else kp w++[b]:=by
 unfold kp run
 rw[Y8,<-b2D];rfl
theorem b7C:kp []= []:=rfl
def Good (w:List Int):Prop:=∀k,k<=w.length->run (w.take k)<=5
theorem Good.snoc {w:List Int}{b:Int}(h:Good w)(h5:run (w++[b])<=5):Good (w++[b]):=fun k hk=>by
 rw[Yc,Yt]at hk
 by_cases c:k<=w.length
 ·rw[Y6 c];exact h k c
 ·rw[Yk (by rw[Yc,Yt];omega)];exact h5
theorem vV {w:List Int}{b:Int}:run (w++[b])<=run w+1:=by rw[gG];split <;> omega
theorem a6X (l:List Int):Good (put l):=by
 refine snoc_ind (P:=fun l=>Good (put l)) (fun k hk=>?_) (fun w b ih=>?_) l
 ·have:k=0:=Nat.le_zero.mp hk
  subst this;decide
 ·rw [gJ]
  have h4:=mG w
  have h1:run (put w++[b])<=5:=Y9 vV (by omega)
  unfold pst
  split
  ·rename_i c
   refine(ih.snoc h1).snoc ?_
   rw[gG,oF,if_neg (a1B b)];omega
  ·exact ih.snoc h1
theorem a8I (l:List Int):kp (put l)=l:=by
 refine snoc_ind (P:=fun l=>kp (put l)=l) rfl (fun w b ih=>?_) l
 rw[gJ]
 have h4:=mG w
 have e1:kp (put w++[b])=w++[b]:=by rw[fW,if_neg (by omega),ih]
 unfold pst
 split
 ·rename_i c
  rw[fW,if_pos c,e1]
 ·exact e1
theorem a6V {w:List Int}(hb:bO w)(hg:Good w):put (kp w)=if run w=5 then w++[1-w.getD (w.length-1) 0] else w:=by
 have : ∀ k,k<=w.length->put (kp (w.take k))=if run (w.take k)=5 then w.take k++[1-w.getD (k-1) 0] else w.take k:=by
  intro k
  induction k with
  |zero=>intro _;rfl
  | succ k ih=>
   intro hk
   have hlt:k<w.length:=by omega
   have hbk:=hb _ (YR hlt)
   have gk:w.getD (k+1-1) 0=w[k]:=by rw[Nat.add_sub_cancel,Yh,Yb hlt];rfl
   have ih':=ih (by omega)
   have h5:=hg (k+1) hk
   rw[Yg hlt]at h5 ⊢
   rw[fW,gk]
   by_cases c:run (w.take k)=5
   ·rw [if_pos c,ih',if_pos c]
    have hk0:0<k:=by
     have:=a6Q (w.take k)
     rw[Yr]at this
     omega
    have hl:(w.take k).length=k:=by rw[Yr];omega
    have l1:=last_eq (w.take k) (by omega)
    have e2:(w.take k).getD (k-1) 0=w.getD (k-1) 0:=by
     rw[Yh,Yh,XC (by omega)]
    rw[hl,e2]at l1
    have hne:¬ (sk (w.take k)).1=some w[k]:=fun z=>by
     rw[gG,if_pos z,c]at h5;omega
    have hlb:w.getD (k-1) 0=0\/w.getD (k-1) 0=1:=by
     rw[Yh,Yb (show k-1<w.length by omega)]
     exact hb _ (YR _)
    have e3:1-w.getD (k-1) 0=w[k]:=by
     have:¬ w.getD (k-1) 0=w[k]:=fun z=>hne (by rw[l1,z])
     omega
    rw[e3,if_neg]
    rw[gG,if_neg hne];decide
   ·rw[if_neg c,gJ,ih',if_neg c]
    unfold pst
    split <;> rfl
 have h:=this w.length (Yd _)
 rwa [Yk (Yd _)]at h
theorem uJ {w:List Int}(hb:bO w):bO (kp w):=by
 have : ∀k,k<=w.length->bO (kp (w.take k)):=by
  intro k
  induction k with
  |zero=>intro _ z hz;rw[Jf,b7C]at hz;cases hz
  | succ k ih=>
   intro hk z hz
   have hi:=ih (by omega)
   rw[Yg (show k<w.length by omega),fW]at hz
   split at hz
   ·exact hi z hz
   ·rcases YI.mp hz with q | q
    ·exact hi z q
    ·rw[Yn.mp q];exact hb _ (YR _)
 have h:=this w.length (Yd _)
 rwa [Yk (Yd _)]at h
theorem uI (w:List Int):(kp w).length<=w.length:=by
 refine snoc_ind (P:=fun w=>(kp w).length<=w.length) (Yd _) (fun w b ih=>?_) w
 rw[fW,Yc,Yt]
 split
 ·omega
 ·rw[Yc,Yt];omega
end Wm
namespace Rm
open Bm
theorem a7T {cs:List Int}(h:bO cs)(hl:cs.length<=15):nm cs<32768:=Yj (lX h) (Yy (n:=2) (j:=15) (by decide) hl)
theorem a3D {cs:List Int}(h:bO cs)(hl:cs.length<=15):rst cs=nm cs:=pU (a7T h hl)
theorem fZ {as bs:List Int}(ha:bO as)(hb:bO bs):bO (as++bs):=fun z hz=>(YI.mp hz).elim (ha z) (hb z)
theorem a0N {bs cs:List Int}(h:bO bs)(hc:bO cs)(hl:bs.length+cs.length<=500)(h15:cs.length<=15):rst (bs++cs)=nm cs ^^^ nxn cs.length (rst bs):=by
 rw[qG (fZ h hc) (by rw[Yc];exact hl),Y8,<-qG h (by omega)]
 have:=wY cs hc 0 (rst bs) (by decide) (yO bs)
 rw[Nat.zero_xor,<-qG hc (by omega),a3D hc h15]at this
 exact this
def zs (n:Nat):List Int:=List.replicate n 0
theorem tU (n:Nat):bO (zs n):=fun b hb=> .inl (YY hb)
theorem b3Y:∀n,nm (zs n)=0:=by
 intro n
 have:∀n,jP (zs n)=0:=fun n=>by
  induction n with
  |zero=>rfl
  |succ n ih=>unfold zs;rw[Xg,sO];show 0*_+jP (zs n)=0;rw[ih];simp
 unfold nm;rw[this];rfl
def ckn (bs:List Int):Nat:=rst (bs++zs 15)
theorem a9J (bs:List Int):ckn bs<32768:=yO _
def ck (bs:List Int):List Int:=bN (ckn bs) 15
theorem fV {n m:Nat}(h:n<2 ^ m):nm (bN n m)=n:=by unfold nm;rw[a7Q h];rfl
theorem yP {bs cs:List Int}(h:bO bs)(hc:bO cs)(hl:bs.length<=400)(h15:cs.length=15):rst (bs++cs)=nm cs ^^^ ckn bs:=by
 rw[a0N h hc (by omega) (by omega)]
 unfold ckn
 rw[a0N h (tU 15) (by unfold zs;rw[Yu];omega) (by unfold zs;rw[Yu];exact Yd _),b3Y,Nat.zero_xor,h15]
 unfold zs
 rw[Yu]
theorem b5W {bs:List Int}(h:bO bs)(hl:bs.length<=400):rst (bs++ck bs)=0:=by
 unfold ck
 rw[yP h (gC _ _) hl (cC _ _),fV (m:=15) (a9J bs),Nat.xor_self]
end Rm
namespace Wm
open L2 Bm Rn
theorem a6W (l:List Int):(put l).head? =l.head?:=snoc_ind (P:=fun l=>(put l).head? =l.head?) rfl (fun w b ih=>by
 rw[gJ]
 unfold pst
 split
 ·rw[Xb,Xb,Xb,ih]
  cases w.head? <;> rfl
 ·rw[Xb,Xb,ih]) l
theorem b2E (w:List Int):(kp w).head? =w.head?:=snoc_ind (P:=fun w=>(kp w).head? =w.head?) rfl (fun w b ih=>by
 rw[fW]
 split
 ·rename_i h
  rw[ih,Xb]
  cases w with
  |nil=>exact absurd h (by decide)
  |cons x r=>rfl
 ·rw[Xb,Xb,ih]) w
theorem a4A {l:List Int}{x:Int}(h:l.head? =some x):l.getD 0 0=x:=by
 cases l with
 |nil=>cases h
 |cons y r=>exact Yo h
end Wm
namespace Wm
open Bm Rn Rm
end Wm
namespace Wm
open Bm
theorem a0P (w:List Int)(b:Int):∃s,pst w b=w++b::s:=by
 unfold pst
 split
 ·exact⟨[1-b],by rw[YJ];rfl⟩
 ·exact⟨[],rfl⟩
theorem wZ:∀(r w:List Int),∃s,r.foldl pst w=w++s
 |[],w=>⟨[],by rw[YS];rfl⟩
 | b::r,w=>by
  obtain⟨s,hs⟩:=a0P w b
  obtain⟨t,ht⟩:=wZ r (pst w b)
  refine⟨b::s++t,?_⟩
  show r.foldl pst (pst w b)=_
  rw[ht,hs,YJ]
theorem put_pre (l:List Int)(b:Int)(r:List Int):∃s,put (l++b::r)=put l++b::s:=by
 obtain⟨s,hs⟩:=a0P (put l) b
 obtain⟨t,ht⟩:=wZ r (pst (put l) b)
 refine⟨s++t,?_⟩
 unfold put at hs ht ⊢
 rw[Y8]
 show r.foldl pst (pst (l.foldl pst []) b)=_
 rw[ht,hs,YJ]
 rfl
theorem bitsI_split {n1 n2 s:Nat}(hs:s<8)(h:∀j,s<j->n1.testBit j=n2.testBit j)(h1:n1.testBit s=true)(h2:n2.testBit s=false):∃c t1 t2:List Int,bN n1 8=c++1::t1/\bN n2 8=c++0::t2/\c.length=7-s:=by
 have e:∀n:Nat,bN n 8=((List.range (7-s)).map fun i=>fG n (7-i))++fG n s::((List.range s).map fun i=>fG n (s-1-i)):=by
  intro n
  unfold bN
  have e8:List.range 8=List.range (7-s)++(7-s)::((List.range s).map fun i=>8-s+i):=by
   have:∀s,s<8->List.range 8=List.range (7-s)++(7-s)::((List.range s).map fun i=>8-s+i):=by decide
   exact this s hs
  rw[e8,Ym,YM,List.map_map]
  refine congr (YT _ rfl) (congr (YT _ ?_) (Ja fun i hi=>?_))
  ·show fG n (8-1-(7-s))=fG n s
   rw[show 8-1-(7-s)=s by omega]
  ·show fG n (8-1-(8-s+i))=fG n (s-1-i)
   have:=YU.mp hi
   rw[show 8-1-(8-s+i)=s-1-i by omega]
 have b1:fG n1 s=1:=by unfold fG;rw[h1];rfl
 have b2:fG n2 s=0:=by unfold fG;rw[h2];rfl
 refine⟨(List.range (7-s)).map fun i=>fG n1 (7-i),(List.range s).map fun i=>fG n1 (s-1-i),(List.range s).map fun i=>fG n2 (s-1-i),(e n1).trans (by rw[b1]),(e n2).trans ?_,by rw[Ya,YN]⟩
 rw[b2]
 refine YT (·++_) (Ja fun i hi=>?_)
 have hi':=YU.mp hi
 unfold fG
 rw[h (7-i) (by omega)]
end Wm
namespace Wm
open Bm Rn Rm
theorem qL {a:List Int}(ha:bO a):∀{b:List Int},bO b->nm (a++b)=2 ^ b.length*nm a+nm b:=by
 intro b
 refine snoc_ind (P:=fun b=>bO b->nm (a++b)=2 ^ b.length*nm a+nm b) (fun _=>by rw[YS];show nm a=1*nm a+0;omega) (fun l x ih h=>?_) b
 have hl:bO l:=fun z hz=>h z (Xy _ hz)
 have hx:x=0\/x=1:=h x (by simp)
 rw[<-YJ,mO (fZ ha hl) hx,mO hl hx,ih hl,Yc,Yt,XI,Nat.mul_add,Nat.mul_comm (2 ^ l.length) 2,Nat.mul_assoc]
 omega
theorem b6U:∀{a b:List Int},bO a->bO b->a.length=b.length->nm a=nm b->a=b:=by
 intro a
 refine snoc_ind (P:=fun a=>∀{b:List Int},bO a->bO b->a.length=b.length->nm a=nm b->a=b) (fun {b} _ _ hl _=>(List.eq_nil_of_length_eq_zero hl.symm).symm) (fun l x ih {b} ha hb hl e=>?_) a
 have hne:b≠ []:=fun z=>by rw[z,Yc]at hl;simp at hl
 obtain⟨m,y,rfl⟩:∃m y,b=m++[y]:=⟨b.dropLast,b.getLast hne,(List.dropLast_concat_getLast hne).symm⟩
 have h1:bO l:=fun z hz=>ha z (Xy _ hz)
 have h2:bO m:=fun z hz=>hb z (Xy _ hz)
 have hx:x=0\/x=1:=ha x (by simp)
 have hy:y=0\/y=1:=hb y (by simp)
 rw[mO h1 hx,mO h2 hy]at e
 rw[Yc,Yc]at hl
 have e2:x=y/\nm l=nm m:=by rcases hx with rfl | rfl <;> rcases hy with rfl | rfl <;> simp at e <;> omega
 rw[e2.1,ih h1 h2 (by simpa using hl) e2.2]
theorem a9N {c:List Int}(h:bO c):bN (nm c) c.length=c:=b6U (gC _ _) h (cC _ _) (fV (lX h))
end Wm
namespace Vd
def sdB (fl i p:Nat):Bool:=if fl=0 then !(decide (p=1) && decide (0<i)) else decide (6<p+1-fl)
def flB (i p:Nat)(b:Bool):Bool:=if p=1 then decide (i=0) && b else decide (p<9) && !b
def nx1 (i p:Nat)(b:Bool)(s:Nat×Nat):Nat×Nat:=(if s.1=0/\flB i p b=true then p+1 else s.1,if 9<=p/\b=false then s.2+1 else s.2)
def least (m p:Nat)(F:Nat->Nat×Nat):Bool:=(List.range m).all fun i=>sdB (F i).1 i p
def hd (l w:Bool):Bool:=if w=true then !l else l
def St (m:Nat)(wr:Nat->Nat->Bool):Nat->Nat->Nat×Nat
 |0=>fun _=>(0,0)
 |p+1=>fun i=>nx1 i p (hd (least m p (St m wr p)) (wr i p)) (St m wr p i)
theorem a9Q {m:Nat}{wr:Nat->Nat->Bool}:∀(p i:Nat),(St m wr p i).1<=p
 |0,_=>Yd _
 | p+1,i=>by
  have:=a9Q (m:=m) (wr:=wr) p i
  show (if (St m wr p i).1=0/\flB i p (hd (least m p (St m wr p)) (wr i p))=true then p+1 else (St m wr p i).1)<=p+1
  by_cases c:(St m wr p i).1=0/\flB i p (hd (least m p (St m wr p)) (wr i p))=true
  ·rw[if_pos c];exact Yd _
  ·rw[if_neg c];exact Xo this
def oO (p:Nat):Nat->List (Nat×Nat)->Bool
 |_, []=>true
 |i,s::r=>sdB s.1 i p && oO p (i+1) r
def nxs (wr:Nat->Nat->Bool)(p:Nat)(l:Bool):Nat->List (Nat×Nat)->List (Nat×Nat)
 |_, []=>[]
 |i,s::r=>nx1 i p (hd l (wr i p)) s::nxs wr p l (i+1) r
def SL (wr:Nat->Nat->Bool):Nat->Nat->List (Nat×Nat)->List (Nat×Nat)
 |0,_,S=>S
 |k+1,p,S=>SL wr k (p+1) (nxs wr p (oO p 0 S) 0 S)
theorem vQ {p:Nat}:∀(S:List (Nat×Nat))(i:Nat),oO p i S=(List.range S.length).all fun j=>sdB (S.getD j (0,0)).1 (i+j) p
 |[],i=>rfl
 | s::r,i=>by
  rw[oO,vQ r (i+1),Yz,List.range_succ_eq_map,XD,List.all_map]
  congr 1
  congr 1
  funext j
  show sdB (r.getD j (0,0)).1 (i+1+j) p=sdB (((s::r).getD (j+1) (0,0))).1 (i+(j+1)) p
  rw[List.getD_cons_succ,show i+1+j=i+(j+1) by omega]
theorem a0Y {wr:Nat->Nat->Bool}{p:Nat}{l:Bool}:∀(S:List (Nat×Nat))(i j:Nat),j<S.length->(nxs wr p l i S).getD j (0,0)=nx1 (i+j) p (hd l (wr (i+j) p)) (S.getD j (0,0))
 |[],_,_,h=>absurd h (Xi _)
 |s::r,i,0,_=>rfl
 | s::r,i,j+1,h=>by
  rw[nxs,List.getD_cons_succ,List.getD_cons_succ,a0Y r (i+1) j (by rw[Yz]at h;omega),show i+1+j=i+(j+1) by omega]
theorem a0X {wr:Nat->Nat->Bool}{p:Nat}{l:Bool}:∀(S:List (Nat×Nat))(i:Nat),(nxs wr p l i S).length=S.length
 |[],_=>rfl
 |_::r,i=>by rw[nxs,Yz,Yz,a0X r]
theorem a8H {m p:Nat}{F:Nat->Nat×Nat}{S:List (Nat×Nat)}(hl:S.length=m)(h:∀i,i<m->S.getD i (0,0)=F i):oO p 0 S=least m p F:=by
 rw[vQ,hl]
 unfold least
 rw[Xx,YQ,YQ]
 constructor
 ·intro g i hi
  have:=g i hi
  rw[h i (YU.mp hi),Nat.zero_add]at this
  exact this
 ·intro g i hi
  rw[h i (YU.mp hi),Nat.zero_add]
  exact g i hi
theorem b4L {m:Nat}{wr:Nat->Nat->Bool}:∀(k p:Nat)(S:List (Nat×Nat)),S.length=m->(∀i,i<m->S.getD i (0,0)=St m wr p i)->(SL wr k p S).length=m/\∀i,i<m->(SL wr k p S).getD i (0,0)=St m wr (p+k) i
 |0,p,S,hl,h=>⟨hl,h⟩
 | k +1,p,S,hl,h=>by
  have e:=b4L k (p+1) (nxs wr p (oO p 0 S) 0 S) (by rw[a0X,hl]) (fun i hi=>by
   rw[a0Y S 0 i (by omega),h i hi,a8H hl h,Nat.zero_add];rfl)
  rw[show p+(k+1)=p+1+k by omega]
  exact e
theorem a8S (m i:Nat):(List.replicate m ((0:Nat),(0:Nat))).getD i (0,0)=(0,0):=by
 rw[Yh,X1]
 split <;> rfl
theorem c1L {m k:Nat}{wr:Nat->Nat->Bool}:(SL wr k 0 (List.replicate m (0,0))).length=m/\∀i,i<m->(SL wr k 0 (List.replicate m (0,0))).getD i (0,0)=St m wr k i:=by
 have:=b4L (wr:=wr) (m:=m) k 0 (List.replicate m (0,0)) Yu (fun i _=>a8S m i)
 rwa [Nat.zero_add]at this
def wd (v:Nat)(s:Nat×Nat):Nat:=if s.1≠0 then 0 else if v / 2<s.2 then 1 else 2
def vd (m v:Nat)(wr:Nat->Nat->Bool):List Nat:=(List.range m).map fun i=>wd v (St m wr (9+v) i)
theorem b4W (m v:Nat)(wr:Nat->Nat->Bool):(vd m v wr).length=m:=by
 unfold vd
 rw[Ya,YN]
theorem b0D (m v:Nat)(wr:Nat->Nat->Bool):vd m v wr=(SL wr (9+v) 0 (List.replicate m (0,0))).map (wd v):=by
 obtain⟨h1,h2⟩:=c1L (m:=m) (k:=9+v) (wr:=wr)
 apply List.ext_getElem?
 intro i
 by_cases hi:i<m
 ·have:=h2 i hi
  have hi':i<(SL wr (9+v) 0 (List.replicate m (0,0))).length:=by rw[h1];exact hi
  rw[Yh,Yb hi']at this
  rw[vd,Yl,Xh hi,Yl,Yb hi']
  show some (wd v (St m wr (9+v) i))=some (wd v _)
  rw[<-this];rfl
 ·rw[List.getElem?_eq_none (by rw[b4W];omega),List.getElem?_eq_none (by rw[Ya,h1];omega)]
def wrL (ps:List (Nat×Nat))(i p:Nat):Bool:=ps.any fun q=>Nat.beq q.1 i && Nat.beq q.2 p
def calm (ps:List (Nat×Nat)):Bool:=ps.all fun q=>Nat.ble 9 q.2
def sdF (fl i p:Nat):Bool:=bif Nat.beq fl 0 then !(Nat.beq p 1 && Nat.ble 1 i) else Nat.ble 7 (p+1-fl)
def flF (i p:Nat)(b:Bool):Bool:=bif Nat.beq p 1 then Nat.beq i 0 && b else Nat.ble p 8 && !b
def nxF (i p:Nat)(b:Bool)(s:Nat×Nat):Nat×Nat:=(bif Nat.beq s.1 0 && flF i p b then p+1 else s.1,bif Nat.ble 9 p && !b then s.2+1 else s.2)
def a0M (p:Nat):Nat->List (Nat×Nat)->Bool
 |_, []=>true
 |i,s::r=>bif sdF s.1 i p then a0M p (i+1) r else false
def hdF (l w:Bool):Bool:=bif w then !l else l
def wD (ps:List (Nat×Nat))(p:Nat)(l:Bool):Nat->List (Nat×Nat)->List (Nat×Nat)
 |_, []=>[]
 |i,s::r=>nxF i p (hdF l (wrL ps i p)) s::wD ps p l (i+1) r
def SF (ps:List (Nat×Nat)):Nat->Nat->List (Nat×Nat)->List (Nat×Nat)
 |0,_,S=>S
 |k+1,p,S=>SF ps k (p+1) (wD ps p (a0M p 0 S) 0 S)
theorem iV (a b:Nat):Nat.beq a b=decide (a=b):=by
 cases h:Nat.beq a b
 ·exact(Yi (Nat.ne_of_beq_eq_false h)).symm
 ·exact(Ye (Nat.eq_of_beq_eq_true h)).symm
theorem ble_iff (a b:Nat):Nat.ble a b=decide (a<=b):=by
 cases h:Nat.ble a b
 ·exact(Yi (fun z=>by rw[Nat.ble_eq.mpr z]at h;cases h)).symm
 ·exact(Ye (Nat.ble_eq.mp h)).symm
theorem b5U (fl i p:Nat):sdF fl i p=sdB fl i p:=by
 unfold sdF sdB
 rw[iV,iV,ble_iff,ble_iff]
 by_cases h:fl=0
 ·rw[Ye h,if_pos h];rfl
 ·rw[Yi h,if_neg h];rfl
theorem b7N (i p:Nat)(b:Bool):flF i p b=flB i p b:=by
 unfold flF flB
 rw[iV,iV,ble_iff]
 by_cases h:p=1
 ·rw[Ye h,if_pos h];rfl
 ·rw [Yi h,if_neg h]
  have:decide (p<=8)=decide (p<9):=by
   by_cases z:p<=8
   ·rw[Ye z,Ye (by omega)]
   ·rw[Yi z,Yi (by omega)]
  rw[this];rfl
theorem b6T (i p:Nat)(b:Bool)(s:Nat×Nat):nxF i p b s=nx1 i p b s:=by
 unfold nxF nx1
 rw[iV,ble_iff,b7N]
 by_cases h:s.1=0 <;> by_cases z:9<=p <;> cases flB i p b <;> cases b <;> simp[h,z]
theorem vU (p:Nat):∀(S:List (Nat×Nat))(i:Nat),a0M p i S=oO p i S
 |[],_=>rfl
 | s::r,i=>by
  rw[a0M,oO,b5U,vU p r]
  cases sdB s.1 i p <;> rfl
theorem a0Z (ps:List (Nat×Nat))(p:Nat)(l:Bool):∀(S:List (Nat×Nat))(i:Nat),wD ps p l i S=nxs (wrL ps) p l i S
 |[],_=>rfl
 | s ::r,i=>by
  rw[wD,nxs,b6T,a0Z ps p l r]
  have:hdF l (wrL ps i p)=hd l (wrL ps i p):=by
   generalize wrL ps i p=w
   cases w <;> rfl
  rw[this]
theorem b4M (ps:List (Nat×Nat)):∀(k p:Nat)(S:List (Nat×Nat)),SF ps k p S=SL (wrL ps) k p S
 |0,_,_=>rfl
 |k+1,p,S=>by rw[SF,SL,a0Z,vU,b4M ps k]
def wdF (v:Nat)(s:Nat×Nat):Bool:=Nat.beq s.1 0 && Nat.ble s.2 (v / 2)
theorem a4Z (v:Nat)(s:Nat×Nat):wdF v s=decide (wd v s=2):=by
 unfold wdF wd
 rw[iV,ble_iff]
 by_cases h:s.1=0
 ·rw[Ye h,if_neg (not_not_intro h)]
  by_cases z:v / 2<s.2
  ·rw[if_pos z,Yi (by omega)];rfl
  ·rw[if_neg z,Ye (by omega)];rfl
 ·rw[Yi h,if_pos h];rfl
def okB (m v:Nat)(ps:List (Nat×Nat)):Bool:=
 (fun W:List (Nat×Nat)=>(W.all fun w=>wdF v w) || (!calm ps && W.all fun w=>!wdF v w)) (SF ps (9+v) 0 (List.replicate m (0,0)))
theorem a7L {m v:Nat}{ps:List (Nat×Nat)}(h:okB m v ps=true):(∀x∈vd m v (wrL ps),x=2)\/(calm ps=false/\∀x∈vd m v (wrL ps),x≠2):=by
 rw[b0D,<-b4M]
 unfold okB at h
 generalize SF ps (9+v) 0 (List.replicate m (0,0))=W at h
 rcases (Bool.or_eq_true _ _).mp h with h | h
 ·refine .inl fun x hx=>?_
  obtain⟨s,hs,rfl⟩:=YA.mp hx
  have:=YQ.mp h s hs
  rw[a4Z]at this
  exact YK this
 ·obtain⟨h1,h2⟩:=(Y1 _ _).mp h
  have h0:calm ps=false:=by
   cases e:calm ps with
   |false=>rfl
   |true=>rw[e]at h1;cases h1
  refine .inr ⟨h0,fun x hx=>?_⟩
  obtain⟨s,hs,rfl⟩:=YA.mp hx
  have:=YQ.mp h2 s hs
  rw[a4Z]at this
  intro z
  rw[Ye z]at this
  cases this
def prs (m v:Nat):List (Nat×Nat):=(List.range m).flatMap fun i=>(List.range (9+v)).map fun p=>(i,p)
theorem pJ {m v:Nat}{q:Nat×Nat}(h1:q.1<m)(h2:q.2<9+v):q∈prs m v:=
 List.mem_flatMap.mpr ⟨q.1,YU.mpr h1,YA.mpr ⟨q.2,YU.mpr h2,rfl⟩⟩
def a2J (f:Nat×Nat->Nat×Nat->Bool):List (Nat×Nat)->Bool
 |[]=>true
 |a::r=>(f a a && r.all (f a)) && a2J f r
theorem jD {f:Nat×Nat->Nat×Nat->Bool}(hf:∀a b,f a b=f b a):∀{l:List (Nat×Nat)},a2J f l=true->∀a b,a∈l->b∈l->f a b=true
 |[],_,a,_,ha,_=>absurd ha Xd
 | x::r,h,a,b,ha,hb=>by
  obtain⟨h1,h2⟩:=(Y1 _ _).mp h
  obtain⟨h3,h4⟩:=(Y1 _ _).mp h1
  rcases YG.mp ha with ea | ea <;> rcases YG.mp hb with eb | eb
  ·rw[ea,eb];exact h3
  ·rw[ea];exact YQ.mp h4 b eb
  ·rw[eb,hf];exact YQ.mp h4 a ea
  ·exact jD hf h2 a b ea eb
theorem a4W (a b:Nat×Nat):wrL [a,b]=wrL [b,a]:=by
 funext i p
 simp only[wrL,Xv,List.any_nil,Bool.or_false]
 rw[Bool.or_comm]
theorem sJ (a b:Nat×Nat)(p:Nat)(l:Bool):∀(S:List (Nat×Nat))(i:Nat),wD [a,b] p l i S=wD [b,a] p l i S
 |[],_=>rfl
 |s::r,i=>by rw[wD,wD,a4W,sJ a b p l r]
theorem a2E (a b:Nat×Nat):∀(k p:Nat)(S:List (Nat×Nat)),SF [a,b] k p S=SF [b,a] k p S
 |0,_,_=>rfl
 |k+1,p,S=>by rw[SF,SF,sJ,a2E a b k]
theorem mL (m v:Nat)(a b:Nat×Nat):okB m v [a,b]=okB m v [b,a]:=by
 unfold okB
 rw[a2E]
 have:calm [a,b]=calm [b,a]:=by
  simp only[calm,XD,List.all_nil,Bool.and_true]
  rw[Bool.and_comm]
 rw[this]
theorem c3K:([2,3,4,5].all fun m=>okB m 1 [] && okB m 3 [] && okB m 5 [] && ((prs m 3).all fun a=>okB m 3 [a]) && (prs m 5).all fun a=>okB m 5 [a])=true:=by decide +kernel
theorem c3J:a2J (fun a b=>okB 2 5 [a,b]) (prs 2 5)=true:=by decide +kernel
theorem c3I:a2J (fun a b=>okB 3 5 [a,b]) (prs 3 5)=true:=by decide +kernel
theorem c3H:a2J (fun a b=>okB 4 5 [a,b]) (prs 4 5)=true:=by decide +kernel
theorem c3G:a2J (fun a b=>okB 5 5 [a,b]) (prs 5 5)=true:=by decide +kernel
theorem few {m v:Nat}{ps:List (Nat×Nat)}(hm:2<=m/\m<=5)(hv:v=1\/v=3\/v=5)(hl:ps.length<=v / 2)(hp:∀q∈ps,q.1<m/\q.2<9+v):okB m v ps=true:=by
 have hm':m∈ [2,3,4,5]:=by
  simp only[YG,Xd,or_false]
  omega
 have h0:=YQ.mp c3K m hm'
 have two:∀a b,a∈prs m 5->b∈prs m 5->okB m 5 [a,b]=true:=by
  intro a b ha hb
  simp only[YG,Xd,or_false]at hm'
  rcases hm' with rfl | rfl | rfl | rfl
  ·exact jD (fun a b=>mL 2 5 a b) c3J a b ha hb
  ·exact jD (fun a b=>mL 3 5 a b) c3I a b ha hb
  ·exact jD (fun a b=>mL 4 5 a b) c3H a b ha hb
  ·exact jD (fun a b=>mL 5 5 a b) c3G a b ha hb
 obtain⟨h1,b5⟩:=(Y1 _ _).mp h0
 obtain⟨h2,b3⟩:=(Y1 _ _).mp h1
 obtain⟨h3,a5⟩:=(Y1 _ _).mp h2
 obtain⟨a1,a3⟩:=(Y1 _ _).mp h3
 clear h0 h1 h2 h3
 generalize hok:okB=ok at a1 a3 a5 b3 b5 two ⊢
 match ps,hl,hp with
 | [],_,_=>
  rcases hv with rfl | rfl | rfl
  ·exact a1
  ·exact a3
  ·exact a5
 | [a],hl,hp=>
  have ha:=hp a YC
  rcases hv with rfl | rfl | rfl
  ·exact absurd hl (show ¬ (1<=1 / 2) by decide)
  ·exact YQ.mp b3 a (pJ ha.1 ha.2)
  ·exact YQ.mp b5 a (pJ ha.1 ha.2)
 | [a,b],hl,hp=>
  have ha:=hp a YC
  have hb:=hp b (Yw _ YC)
  rcases hv with rfl | rfl | rfl
  ·exact absurd hl (show ¬ (2<=1 / 2) by decide)
  ·exact absurd hl (show ¬ (2<=3 / 2) by decide)
  ·exact two a b (pJ ha.1 ha.2) (pJ hb.1 hb.2)
 | a::b::c::r,hl,hp=>
  exfalso
  rw[Yz,Yz,Yz]at hl
  omega
end Vd
namespace My
open PySem L2
variable {H:Hp}{p:Addr}{H':Hp}{a:Addr}{v:Nat}{n:Nat}{x:Addr}{C:Addr}{dx:Addr}{fs:List (Nat×Nat×List Int)}{m:Nat}{i:Nat}{bs:List Int}{xs:List (List Int)}{w:List Int}{CK:Addr}{r:Addr}{st:Addr}{ks:Addr}{t:Addr}{ds:List Int}{l:List Int}{j:Nat}{k:Nat}{b:Int}{C1:Addr}{C2:Addr}{s:Nat×Nat}{K:W.Frag}{vs:List V}{H1:Hp}{f:Nat×Nat×List Int}{h:List Int}{nwf:Addr}{ch:Addr}{wl:Addr}{ul:Addr}{ct:Value}{ws:List Int}{us:List V}{nw:Addr}{H0:Hp}{nw':Addr}{y:List Int}{c:Addr×HO}{dp:Addr}{ps:List (Int×Int)}{L:List (Addr×HO)}{v':HO}{as:List Addr}{L1:List (Addr×HO)}{mg:Str->Option Value}{cd:Value}{P:Addr}{d:FuncData}{CJ:Addr}{js:List Addr}{ts:List Addr}{F:Nat->Nat×Nat}{oc:Value}{kV:Value}{dc:Value}{pm:Value}{od:Option Addr}{an:Option Addr}{sl:Array (Option Value)}{q:Nat}{vt:Nat}{sp:Bool}
def top (i:Nat):Stmt:=PySem.Challenge.pw_bitrail_k93_whole_tails_never_part.main.body.getD i (.Pass ⟨0,0,0,0⟩)
def aO (s:Stmt):List Stmt:=match s with | .ClassDef _ _ _ b _ _ _ _ _ _ _=>b | _=>[]
abbrev Zji:Stmt:=top 89
abbrev Zil:Stmt:=(aO (top 33)).getD 0 (.Pass ⟨0,0,0,0⟩)
abbrev ZfJ:Stmt:=(aO (top 33)).getD 1 (.Pass ⟨0,0,0,0⟩)
abbrev Zgv:Stmt:=(aO (top 33)).getD 2 (.Pass ⟨0,0,0,0⟩)
abbrev ZeR:Stmt:=(aO (top 33)).getD 3 (.Pass ⟨0,0,0,0⟩)
abbrev Zla:Stmt:=top 10
abbrev Zj3:Stmt:=top 11
abbrev Zj1:Stmt:=top 12
abbrev Zlb:Stmt:=top 20
abbrev Zld:Stmt:=top 24
abbrev ZkI:Stmt:=top 25
abbrev Zlc:Stmt:=top 29
abbrev Zl9:Stmt:=top 34
abbrev Zin:Stmt:=top 41
abbrev Zjh:Stmt:=top 42
abbrev Zle:Stmt:=top 46
abbrev Zj4:Stmt:=top 44
abbrev Zip:Stmt:=top 43
abbrev Zjj:Stmt:=top 45
abbrev Zih:Stmt:=(aO (top 48)).getD 0 (.Pass ⟨0,0,0,0⟩)
abbrev ZgI:Stmt:=(aO (top 48)).getD 2 (.Pass ⟨0,0,0,0⟩)
abbrev Zig:Stmt:=(aO (top 48)).getD 1 (.Pass ⟨0,0,0,0⟩)
abbrev Zhw:Stmt:=(aO (top 48)).getD 3 (.Pass ⟨0,0,0,0⟩)
abbrev Zhv:Stmt:=(aO (top 48)).getD 4 (.Pass ⟨0,0,0,0⟩)
abbrev ZjW:Stmt:=(aO (top 52)).getD 0 (.Pass ⟨0,0,0,0⟩)
abbrev ZjX:Stmt:=(aO (top 52)).getD 1 (.Pass ⟨0,0,0,0⟩)
abbrev Zje:Stmt:=(aO (top 52)).getD 5 (.Pass ⟨0,0,0,0⟩)
abbrev ZgJ:Stmt:=(aO (top 52)).getD 3 (.Pass ⟨0,0,0,0⟩)
abbrev Zfm:Stmt:=(aO (top 52)).getD 4 (.Pass ⟨0,0,0,0⟩)
abbrev ZjV:Stmt:=(aO (top 52)).getD 2 (.Pass ⟨0,0,0,0⟩)
abbrev ZgH:Stmt:=(aO (top 53)).getD 0 (.Pass ⟨0,0,0,0⟩)
abbrev Zgu:Stmt:=(aO (top 54)).getD 0 (.Pass ⟨0,0,0,0⟩)
abbrev Zi1:Stmt:=(aO (top 18)).getD 0 (.Pass ⟨0,0,0,0⟩)
abbrev Zgr:Stmt:=(aO (top 18)).getD 6 (.Pass ⟨0,0,0,0⟩)
abbrev Zhr:Stmt:=(aO (top 18)).getD 7 (.Pass ⟨0,0,0,0⟩)
abbrev Zhs:Stmt:=(aO (top 18)).getD 5 (.Pass ⟨0,0,0,0⟩)
abbrev Zi2:Stmt:=(aO (top 18)).getD 4 (.Pass ⟨0,0,0,0⟩)
abbrev Zia:Stmt:=(aO (top 18)).getD 1 (.Pass ⟨0,0,0,0⟩)
abbrev Zh9:Stmt:=(aO (top 18)).getD 2 (.Pass ⟨0,0,0,0⟩)
abbrev Zi0:Stmt:=(aO (top 18)).getD 3 (.Pass ⟨0,0,0,0⟩)
abbrev ZhA:Stmt:=top 60
abbrev ZjM:Stmt:=(aO (top 65)).getD 0 (.Pass ⟨0,0,0,0⟩)
abbrev Zii:Stmt:=(aO (top 66)).getD 0 (.Pass ⟨0,0,0,0⟩)
abbrev Zi8:Stmt:=(aO (top 67)).getD 0 (.Pass ⟨0,0,0,0⟩)
abbrev Zib:Stmt:=(aO (top 68)).getD 0 (.Pass ⟨0,0,0,0⟩)
abbrev ZgD:Stmt:=(aO (top 69)).getD 0 (.Pass ⟨0,0,0,0⟩)
abbrev Zhx:Stmt:=(aO (top 70)).getD 0 (.Pass ⟨0,0,0,0⟩)
abbrev Zjb:Stmt:=(aO (top 71)).getD 0 (.Pass ⟨0,0,0,0⟩)
abbrev ZgG:Stmt:=(aO (top 78)).getD 8 (.Pass ⟨0,0,0,0⟩)
abbrev Zie:Stmt:=(aO (top 78)).getD 9 (.Pass ⟨0,0,0,0⟩)
abbrev Zgs:Stmt:=(aO (top 78)).getD 10 (.Pass ⟨0,0,0,0⟩)
abbrev ZeQ:Stmt:=(aO (top 78)).getD 11 (.Pass ⟨0,0,0,0⟩)
abbrev ZeP:Stmt:=(aO (top 78)).getD 12 (.Pass ⟨0,0,0,0⟩)
abbrev Zj2:Stmt:=top 30
abbrev Zht:Stmt:=(aO (top 78)).getD 13 (.Pass ⟨0,0,0,0⟩)
abbrev ZjP:Stmt:=(aO (top 78)).getD 1 (.Pass ⟨0,0,0,0⟩)
abbrev Zl8:Stmt:=top 77
abbrev Zi6:Stmt:=(aO (top 78)).getD 5 (.Pass ⟨0,0,0,0⟩)
abbrev ZkE:Stmt:=(aO (top 78)).getD 6 (.Pass ⟨0,0,0,0⟩)
abbrev Zjl:Stmt:=top 61
abbrev ZkJ:Stmt:=top 62
abbrev Zjk:Stmt:=top 63
abbrev ZkH:Stmt:=top 64
abbrev Zio:Stmt:=top 75
abbrev ZhB:Stmt:=top 76
abbrev ZjR:Stmt:=(aO (top 78)).getD 0 (.Pass ⟨0,0,0,0⟩)
abbrev ZjN:Stmt:=(aO (top 65)).getD 2 (.Pass ⟨0,0,0,0⟩)
abbrev Zij:Stmt:=(aO (top 66)).getD 2 (.Pass ⟨0,0,0,0⟩)
abbrev Zi9:Stmt:=(aO (top 67)).getD 2 (.Pass ⟨0,0,0,0⟩)
abbrev Zic:Stmt:=(aO (top 68)).getD 2 (.Pass ⟨0,0,0,0⟩)
abbrev ZgE:Stmt:=(aO (top 69)).getD 2 (.Pass ⟨0,0,0,0⟩)
abbrev Zhy:Stmt:=(aO (top 70)).getD 2 (.Pass ⟨0,0,0,0⟩)
abbrev Zjc:Stmt:=(aO (top 71)).getD 2 (.Pass ⟨0,0,0,0⟩)
abbrev ZkC:Stmt:=(aO (top 72)).getD 1 (.Pass ⟨0,0,0,0⟩)
abbrev ZkD:Stmt:=(aO (top 72)).getD 2 (.Pass ⟨0,0,0,0⟩)
abbrev ZgF:Stmt:=(aO (top 69)).getD 3 (.Pass ⟨0,0,0,0⟩)
abbrev Zhz:Stmt:=(aO (top 70)).getD 3 (.Pass ⟨0,0,0,0⟩)
abbrev Zjd:Stmt:=(aO (top 71)).getD 3 (.Pass ⟨0,0,0,0⟩)
abbrev ZjO:Stmt:=(aO (top 65)).getD 3 (.Pass ⟨0,0,0,0⟩)
abbrev Zja:Stmt:=(aO (top 67)).getD 3 (.Pass ⟨0,0,0,0⟩)
abbrev Zik:Stmt:=(aO (top 66)).getD 3 (.Pass ⟨0,0,0,0⟩)
abbrev Zid:Stmt:=(aO (top 68)).getD 3 (.Pass ⟨0,0,0,0⟩)
abbrev ZjS:Stmt:=(aO (top 78)).getD 2 (.Pass ⟨0,0,0,0⟩)
abbrev ZjQ:Stmt:=(aO (top 78)).getD 3 (.Pass ⟨0,0,0,0⟩)
abbrev Zhu:Stmt:=(aO (top 88)).getD 5 (.Pass ⟨0,0,0,0⟩)
abbrev ZjU:Stmt:=(aO (top 88)).getD 0 (.Pass ⟨0,0,0,0⟩)
abbrev ZjT:Stmt:=(aO (top 88)).getD 1 (.Pass ⟨0,0,0,0⟩)
abbrev Zgt:Stmt:=(aO (top 88)).getD 4 (.Pass ⟨0,0,0,0⟩)
abbrev Zdo:Stmt:=(aO (top 88)).getD 2 (.Pass ⟨0,0,0,0⟩)
abbrev ZkG:Stmt:=(aO (top 88)).getD 3 (.Pass ⟨0,0,0,0⟩)
abbrev Zif:Stmt:=(aO (top 88)).getD 10 (.Pass ⟨0,0,0,0⟩)
abbrev ZkF:Stmt:=(aO (top 88)).getD 13 (.Pass ⟨0,0,0,0⟩)
abbrev Zi7:Stmt:=(aO (top 88)).getD 12 (.Pass ⟨0,0,0,0⟩)
abbrev Zjg:Stmt:=top 85
abbrev Zi4:Stmt:=(aO (top 83)).getD 0 (.Pass ⟨0,0,0,0⟩)
abbrev Zi5:Stmt:=(aO (top 83)).getD 1 (.Pass ⟨0,0,0,0⟩)
abbrev Zi3:Stmt:=(aO (top 83)).getD 2 (.Pass ⟨0,0,0,0⟩)
abbrev ZkK:Stmt:=top 84
abbrev ZjY:Stmt:=top 91
abbrev ZjZ:Stmt:=top 92
abbrev Zim:Stmt:=top 93
abbrev Zjf:Stmt:=top 94
abbrev Zj0:Stmt:=top 95
abbrev ZmH:Stmt:=top 96
theorem aJ (h:H p=none)(o:HO):Same H (upd H p o):=fun b u q=>by rw[aH (aP q h)];exact q
theorem nS {v:HO}(h:H a=none)(e:upd H a v=H'):Same H H':=e▸aJ h v
theorem nE {v:HO}(e:upd H a v=H'):H' a=some v:=e▸aB
theorem small (h:n<=1000):n<=sizeLine:=Xm (sE h)
theorem aL (h:decide (n<=1000)=true):n<=sizeLine:=small (YK h)
theorem bR (h:n<=1000):n<sizeLine:=sE h
theorem _root_.L2.Same.put {o:HO}(g:Same H H')(h:H p=none):Same H (upd H' p o):=fun b u q=>by rw[aH (aP q h)];exact g b u q
theorem _root_.L2.Same.none (g:Same H H')(h:H' x=none):H x=none:=by
 cases e:H x with
 |none=>rfl
 |some o=>rw[g x o e]at h;cases h
theorem bF {fs:List (Str×V)}(hx:H x=none)(hd:H dx=none):Same H (upd (upd (upd H dx (.own x)) x (.ins C dx [])) x (.ins C dx fs)):=fun b u q=>by
 rw[aH (aP q hx),aH (aP q hx),aH (aP q hd)];exact q
open Bm Rm
theorem b4J (n k:Nat):Builtin.bitAnd ((n:Int) / 2 ^ ((k:Int)).toNat) 1=fG n k:=by
 rw[c3A]
 have h:Builtin.bitAnd ((n >>> k:Nat):Int) 1=(((n >>> k:Nat) &&& 1:Nat):Int):=band (n >>> k) 1
 rw[h]
 unfold fG
 have h1:=bit_at n k
 have h2:((n >>> k:Nat) &&& 1)=(n >>> k) % 2:=Nat.and_one_is_mod _
 split
 ·rename_i c;exact h1.mpr c
 ·rename_i c
  have:¬ (((n >>> k:Nat) &&& 1:Nat):Int)=1:=fun z=>c (h1.mp z)
  omega
def a6L:Sp:=fun vs H Q _=>∃n m:Nat,vs= [.int n,.int m]/\n<2 ^ m/\m<=128/\∀p,H p=none->Q (.ref p) (upd H p (.lst ((bN n m).map V.int)))
def yI (K:W.Frag):Sp:=fun vs H Q _=>∃(a:Addr)(bs:List Int),vs= [.ref a]/\SqL K H a (bs.map V.int)/\bO bs/\bs.length<=450/\Q (.int ((nm bs:Nat):Int)) H
theorem a4D (h:n<2 ^ m):(n:Int) / 2 ^ ((m:Int)).toNat=0:=by
 rw[qI]
 exact Int.ediv_eq_zero_of_lt (Int.natCast_nonneg n) (by exact_mod_cast h)
theorem a2M (h:i<m):(bN n m).take (i+1)=(bN n m).take i++[fG n (m-1-i)]:=by
 have hl:i<(bN n m).length:=by rw[cC];exact h
 rw[Yg hl,tG hl]
theorem uX (h:i<bs.length):atI (bs.map V.int) ((i:Nat):Int)=some (.int bs[i]):=fB (by rw[Yl,Yb h];rfl)
theorem nC {x:V}(hx:(bs.map V.int)[i]? =some x):∃h:i<bs.length,x= .int bs[i]:=by
 have hi:i<bs.length:=by
  have:=(Yf.mp hx).1
  rwa [Ya]at this
 refine⟨hi,?_⟩
 rw[Yl,Yb hi]at hx
 exact(Yo hx).symm
abbrev bl (a:Nat):Nat:=Builtin.Int.intBits (a:Int)
theorem c1J {a:Nat}(h:a≠0):2 ^ (bl a-1)<=a:=by
 show 2 ^ (Builtin.Int.intBits (a:Int)-1)<=a
 rw[rA,if_neg h]
 exact Nat.log2_self_le h
theorem a9M {a:Nat}(h:a<2 ^ n):bl a<=n:=bits_le h
theorem b4D (a:Nat):a<2 ^ bl a:=b2U a
theorem zP:bl 64647=16:=by decide
theorem a8K {r:Nat}(hr:r<2 ^ 450)(h:16<=bl r):(r ^^^ 64647 <<< (bl r-16))<2 ^ 450/\R (r ^^^ 64647 <<< (bl r-16))=R r/\bl (r ^^^ 64647 <<< (bl r-16))<bl r:=by
 have r3:=a9M hr
 have hr0:r≠0:=by
  intro z
  subst z
  have:bl 0=0:=by decide
  omega
 have l1:64647 <<< (bl r-16)<2 ^ (bl r-1+1):=by
  rw[Xl]
  have e1:bl r-1+1=16+(bl r-16):=by omega
  rw[e1,Nat.pow_add]
  exact Nat.mul_lt_mul_of_lt_of_le (by decide) (Yd _) (XY _)
 have l2:2 ^ (bl r-1)<=64647 <<< (bl r-16):=by
  rw[Xl]
  have e1:bl r-1=15+(bl r-16):=by omega
  rw[e1,Nat.pow_add]
  exact Nat.mul_le_mul_right _ (by decide)
 have l3:r<2 ^ (bl r-1+1):=by
  have e1:bl r-1+1=bl r:=by omega
  rw[e1];exact b4D r
 have l4:=a9W l3 l1 (c1J hr0) l2
 have l5:bl (r ^^^ 64647 <<< (bl r-16))<=bl r-1:=a9M l4
 exact⟨Yj l4 (Yy (by decide) (by omega)),a9R (by omega),by omega⟩
def a2X:Sp:=fun vs H Q _=>∃a:Nat,vs= [.int a,.int 64647]/\a<2 ^ 450/\∀(w:Nat)(p:Addr),H p=none->Q (.ref p) (upd H p (.tup [.int ((w:Nat):Int),.int ((R a:Nat):Int)]))
def b5N (K:W.Frag):Sp:=fun vs H Q _=>∃(a:Addr)(bs:List Int),vs= [.ref a]/\SqL K H a (bs.map V.int)/\bO bs/\bs.length<=450/\∀H',Same H H'->Q (.int ((rst bs:Nat):Int)) H'
def b0S (K:W.Frag):Sp:=fun vs H Q _=>∃(a:Addr)(bs:List Int),vs= [.ref a]/\SqL K H a (bs.map V.int)/\bO bs/\bs.length<=400/\∀p H',H p=none->Same H H'->H' p=some (.lst ((ck bs).map V.int))->Q (.ref p) H'
theorem b1Z (h:bO bs):jP bs=((nm bs:Nat):Int):=(pI h).symm
def szB (bs:List Int):Nat:=nm ((bs.drop 9).take 3)
def nmB (bs:List Int):Nat:=nm ((bs.drop 1).take 8)
def dtB (bs:List Int)(k:Nat):Int:=((nm ((bs.drop (12+8*k)).take 8):Nat):Int)
def daB (bs:List Int):List Int:=(List.range (szB bs)).map (dtB bs)
def lD (bs:List Int):Prop:=12<=bs.length/\bs.length=27+8*szB bs
def zV (bs:List Int):Prop:=lD bs/\bs.getD 0 0=0/\rst bs=0
theorem lA (h:bO bs)(a n:Nat):bO ((bs.drop a).take n):=fun b hb=>h b (List.mem_of_mem_drop (XA hb))
theorem a5H (h:bO bs):szB bs<8:=by
 have:=lX (lA h 9 3)
 refine Yj this (Yy (n:=2) (j:=3) (by decide) ?_)
 rw[Yr];omega
def b5M (K:W.Frag):Sp:=fun vs H Q _=>∃(a:Addr)(bs:List Int),vs= [.ref a]/\SqL K H a (bs.map V.int)/\bO bs/\12<=bs.length/\bs.length<=450/\∀H',Same H H'->Q (.int ((szB bs:Nat):Int)) H'
def b9R (K:W.Frag):Sp:=fun vs H Q _=>∃(a:Addr)(bs:List Int),vs= [.ref a]/\SqL K H a (bs.map V.int)/\bO bs/\bs.length<=450/\(lD bs->∀H',Same H H'->Q (.bl true) H')/\(¬ lD bs->∀H',Same H H'->Q (.bl false) H')
def b5O (K:W.Frag)(C:Addr):Sp:=fun vs H Q E=>∃(a:Addr)(bs:List Int),vs= [.ref a]/\SqL K H a (bs.map V.int)/\bO bs/\bs.length<=450/\
 (zV bs->∀t p H',H p=none->Same H H'->H' p=some (.lst ((daB bs).map V.int))->H' t=some (.tup [.int ((nmB bs:Nat):Int),.ref p])->Q (.ref t) H')/\(¬ zV bs->∀H',Same H H'->False)
theorem a1V (bs:List Int):(daB bs).length=szB bs:=by unfold daB;rw[Ya,YN]
theorem a9D (h:i<szB bs):(daB bs).take (i+1)=(daB bs).take i++[dtB bs i]:=by
 have hl:i<(daB bs).length:=by rw[a1V];exact h
 have e:(daB bs)[i]=dtB bs i:=by simp[daB]
 rw[Yg hl,e]
theorem c3D (h:0<bs.length):bs[0]=bs.getD 0 0:=by rw[Yh,Yb h];rfl
theorem zL {a n:Nat}{x y:Int}(hx:x=((a:Nat):Int))(hy:y=((a+n:Nat):Int))(h:a+n<=bs.length):lQ (bs.map V.int) (some x) (some y)=((bs.drop a).take n).map V.int:=by
 rw[hx,hy];exact b2S h
open Bm Rn Wm
def c0Q:Option Int->V
 |none=> .non
 |some b=> .int b
abbrev skF (s:S):List (Str×V):=[("last",c0Q s.1),("alike",.int ((s.2:Nat):Int))]
def jH (C:Addr)(H:Hp)(a:Addr)(s:S):Prop:=∃dx,H a=some (.ins C dx (skF s))
theorem jH.same {n:S}(h:jH C H a n)(g:Same H H'):jH C H' a n:=by
 obtain⟨dx,e⟩:=h
 exact⟨dx,g _ _ e⟩
theorem jH.at_ {n:S}(h:jH C H a n)(g:H' a=H a):jH C H' a n:=by
 obtain⟨dx,e⟩:=h
 exact⟨dx,g.trans e⟩
theorem jH.ne {n:S}{xs:List V}(h:jH C H a n)(e:H p=some (.lst xs)):p≠a:=fun z=>by
 obtain⟨dx,q⟩:=h
 rw[z,q]at e;cases e
theorem jH.set {n:S}{xs ys:List V}(h:jH C H a n)(e:H p=some (.lst xs)):jH C (upd H p (.lst ys)) a n:=by
 obtain⟨dx,q⟩:=h
 exact⟨dx,by rw[aH (fun z=>by rw[z,e]at q;cases q)];exact q⟩
def a5S (C:Addr):Sp:=fun vs H Q _=>∃a dx,vs= [.ref a]/\H a=some (.ins C dx [])/\∀H',H'=upd H a (.ins C dx (skF (none,0)))->Q .non H'
def b0L (C:Addr):Sp:=fun vs H Q _=>∃a s b,vs= [.ref a,.int b]/\jH C H a s/\∀H',jH C H' a (skp s b)->(∀x,x≠a->H' x=H x)->Q .non H'
def a5T (C:Addr):Sp:=fun vs H Q _=>∃a s,vs= [.ref a]/\jH C H a s/\Q (.bl (decide (s.2=5))) H
def a5R (C:Addr):Sp:=fun vs H Q _=>∃a s,vs= [.ref a]/\jH C H a s/\Q (.bl (decide (5<s.2))) H
theorem a4E (n:Nat):decide (((n:Nat):Int)=5)=decide (n=5):=by
 by_cases h:n=5
 ·subst h;rfl
 ·rw[Yi h,Yi (by omega)]
theorem b2N (n:Nat):decide ((5:Int)<((n:Nat):Int))=decide (5<n):=by
 by_cases h:5<n
 ·rw[Ye h,Ye (by omega)]
 ·rw[Yi h,Yi (by omega)]
theorem a8Q:Good []:=fun k hk=>by
 have:k=0:=Nat.le_zero.mp hk
 subst this;decide
def b0O (K:W.Frag):Sp:=fun vs H Q _=>∃(a:Addr)(bs:List Int),vs= [.ref a]/\SqL K H a (bs.map V.int)/\bs.length<=400/\∀p H',H p=none->Same H H'->H' p=some (.lst ((put bs).map V.int))->Q (.ref p) H'
theorem vY (h:i<bs.length):put (bs.take (i+1))=pst (put (bs.take i)) bs[i]:=by rw[Yg h,gJ]
instance decCmp (bs:List Int):Decidable (lD bs):=by unfold lD;infer_instance
def ans (w:List Int):Str:=if 5<run w then "six" else if run w=5\/¬ lD (kp w) then "more" else if rst (kp w)=0 then "whole" else "bad"
theorem pQ (h:5<run w):ans w="six":=if_pos h
theorem lC (h:¬ 5<run w)(g:run w=5\/¬ lD (kp w)):ans w="more":=(if_neg h).trans (if_pos g)
theorem oJ (h:¬ 5<run w)(g:¬ (run w=5\/¬ lD (kp w)))(r:rst (kp w)=0):ans w="whole":=(if_neg h).trans ((if_neg g).trans (if_pos r))
theorem uZ (h:¬ 5<run w)(g:¬ (run w=5\/¬ lD (kp w)))(r:¬ rst (kp w)=0):ans w="bad":=(if_neg h).trans ((if_neg g).trans (if_neg r))
abbrev rdF (st ks:Addr)(t:Str):List (Str×V):=[("streak",.ref st),("kept",.ref ks),("answer",.str t)]
structure gU (C CK:Addr)(H:Hp)(r st ks:Addr)(w:List Int)(t:Str):Prop where
 rd:∃dx,H r=some (.ins C dx (rdF st ks t))
 sk:jH CK H st (sk w)
 kp:H ks=some (.lst ((kp w).map V.int))
theorem gU.same {t:Str}(h:gU C CK H r st ks w t)(g:Same H H'):gU C CK H' r st ks w t:=⟨let ⟨dx,e⟩:=h.rd;⟨dx,g _ _ e⟩,h.sk.same g,g _ _ h.kp⟩
theorem gU.ne1 {t:Str}(h:gU C CK H r st ks w t):r≠st:=fun z=>by
 obtain⟨dx,e⟩:=h.rd
 obtain⟨dy,f⟩:=h.sk
 rw[z,f]at e
 cases e
theorem gU.ne2 {t:Str}(h:gU C CK H r st ks w t):r≠ks:=fun z=>by
 obtain⟨dx,e⟩:=h.rd
 rw[z,h.kp]at e
 cases e
theorem gU.ne3 {t:Str}(h:gU C CK H r st ks w t):ks≠st:=fun z=>by
 obtain⟨dy,f⟩:=h.sk
 rw[<-z,h.kp]at f
 cases f
def b2Y (H H':Hp)(r st ks:Addr):Prop:=∀x o,x≠r->x≠st->x≠ks->H x=some o->H' x=some o
def a5Z (C CK:Addr):Sp:=fun vs H Q _=>∃a dx,vs= [.ref a]/\H a=some (.ins C dx [])/\∀H' st ks,gU C CK H' a st ks [] "more"->H st=none->H ks=none->(∀x o,x≠a->H x=some o->H' x=some o)->Q .non H'
def yG (C CK:Addr):Sp:=fun vs H Q _=>∃r st ks w t,vs= [.ref r]/\gU C CK H r st ks w t/\bO w/\w.length<=450/\∀H',Same H H'->Q (.str (ans w)) H'
def a6A (C CK:Addr):Sp:=fun vs H Q _=>∃r st ks w t b,vs= [.ref r,.int b]/\gU C CK H r st ks w t/\bO (w++[b])/\w.length<450/\∀H',gU C CK H' r st ks (w++[b]) (ans (w++[b]))->b2Y H H' r st ks->Q (.str (ans (w++[b]))) H'
def a2V (C CK:Addr):Sp:=fun vs H Q _=>∃r st ks w t,vs= [.ref r]/\gU C CK H r st ks w t/\∀p H',H p=none->Same H H'->H' p=some (.lst ((kp w).map V.int))->Q (.ref p) H'
def a2W (C CK:Addr):Sp:=fun vs H Q _=>∃r st ks w,vs= [.ref r]/\gU C CK H r st ks w (ans w)/\bO w/\w.length<=450/\(ans w="whole"->(kp w).getD 0 0=0)/\
 (ans w="whole"->zV (kp w)->∀t p H',H p=none->Same H H'->H' p=some (.lst ((daB (kp w)).map V.int))->H' t=some (.tup [.int ((nmB (kp w):Nat):Int),.ref p])->Q (.ref t) H')/\(ans w≠"whole"->Q .non H)
theorem nM (h:ans w="whole"):lD (kp w)/\rst (kp w)=0:=by
 by_cases h1:5<run w
 ·rw[pQ h1]at h;exact absurd h (by decide +kernel)
 by_cases h2:run w=5\/¬ lD (kp w)
 ·rw[lC h1 h2]at h;exact absurd h (by decide +kernel)
 by_cases h3:rst (kp w)=0
 ·exact⟨YD fun z=>h2 (.inr z),h3⟩
 ·rw[uZ h1 h2 h3]at h;exact absurd h (by decide +kernel)
def byt (n:Int):Bool:=decide (0<=n) && decide (n<=255)
theorem fY {n:Int}:byt n=true↔0<=n/\n<=255:=by unfold byt;simp
theorem uV {n:Int}(h:byt n=true):∃m:Nat,n=m/\m<256:=by
 obtain⟨h0,h1⟩:=fY.mp h
 exact⟨n.toNat,by omega,by omega⟩
def b9S:Sp:=fun vs H Q _=>∃n,vs= [.int n]/\Q (.bl (byt n)) H
def b0T (K:W.Frag):Sp:=fun vs H Q _=>∃(a:Addr)(ns:List Int),vs= [.ref a]/\SqA K H a (ns.map V.int)/\ns.length<=500/\∀H',Same H H'->Q (.bl (ns.all byt)) H'
def oK (n:Int)(ds:List Int):Prop:=byt n=true/\ds.length<=7/\ds.all byt=true
def b5T (K:W.Frag)(C:Addr):Sp:=fun vs H Q E=>∃(n:Int)(a:Addr)(ds:List Int),vs= [.int n,.ref a]/\SqL K H a (ds.map V.int)/\ds.length<=500/\(oK n ds->∀H',Same H H'->Q .non H')/\(¬ oK n ds->∀H',Same H H'->False)
def b8 (d:Int):List Int:=bN d.toNat 8
def hdD (n:Int)(k:Nat)(ds:List Int):List Int:=[0]++b8 n++bN k 3++(ds.map b8).flatten
def hd (n:Int)(ds:List Int):List Int:=hdD n ds.length ds
def fb (n:Int)(ds:List Int):List Int:=hd n ds++ck (hd n ds)
theorem iZ (d:Int):(b8 d).length=8:=cC _ _
theorem nH (d:Int):bO (b8 d):=gC _ _
theorem xF:∀ds:List Int,(ds.map b8).flatten.length=8*ds.length
 |[]=>rfl
 |d::r=>by rw[YM,Xf,Yc,xF r,iZ,Yz];omega
theorem tK:∀ds:List Int,bO (ds.map b8).flatten
 |[]=>fun _ z=>nomatch z
 |d::r=>by rw[YM,Xf];exact fZ (nH d) (tK r)
theorem pN (n:Int)(k:Nat)(ds:List Int):(hdD n k ds).length=12+8*ds.length:=by
 unfold hdD
 rw[Yc,Yc,Yc,xF,iZ,cC,Yt]
theorem nA (n:Int)(k:Nat)(ds:List Int):bO (hdD n k ds):=by
 unfold hdD
 refine fZ (fZ (fZ ?_ (nH n)) (gC _ _)) (tK ds)
 intro b hb
 exact .inl (Yn.mp hb)
theorem wU (n:Int)(k:Nat)(ds:List Int)(d:Int):hdD n k (ds++[d])=hdD n k ds++b8 d:=by
 unfold hdD
 rw[Ym,List.flatten_append,<-YJ]
 simp
theorem zF (n:Int)(ds:List Int):(hd n ds).length=12+8*ds.length:=pN n _ ds
theorem mZ (n:Int)(ds:List Int):bO (hd n ds):=nA n _ ds
theorem zN (bs:List Int):(ck bs).length=15:=cC _ _
theorem a1Z (bs:List Int):bO (ck bs):=gC _ _
theorem oH (n:Int)(ds:List Int):(fb n ds).length=27+8*ds.length:=by unfold fb;rw[Yc,zF,zN];omega
theorem pO (n:Int)(ds:List Int):bO (fb n ds):=fZ (mZ n ds) (a1Z _)
theorem b7O (n:Int)(ds:List Int)(h:ds.length<=40):rst (fb n ds)=0:=b5W (mZ n ds) (by rw[zF];omega)
def b0Q (K:W.Frag)(C:Addr):Sp:=fun vs H Q E=>∃(n:Int)(a:Addr)(ds:List Int),vs= [.int n,.ref a]/\SqL K H a (ds.map V.int)/\ds.length<=500/\(oK n ds->∀p H',H p=none->Same H H'->H' p=some (.lst ((fb n ds).map V.int))->Q (.ref p) H')/\(¬ oK n ds->∀H',Same H H'->False)
theorem a7S {n:Int}(h:¬ byt n=true\/7<ds.length\/∃d∈ds,¬ byt d=true):¬ oK n ds:=fun ⟨h1,h2,h3⟩=>by
 rcases h with h | h | ⟨d,hd,h⟩
 ·exact h h1
 ·omega
 ·exact h (YQ.mp h3 d hd)
theorem xP (h:ds.all byt=true)(hi:i<ds.length):byt ds[i]=true:=YQ.mp h _ (YR hi)
theorem a1M (hn:n<256)(hl:ds.length<=7):szB (fb (n:Int) ds)=ds.length:=by
 unfold szB fb hd hdD
 have e:(([0]++b8 (n:Int)++bN ds.length 3++(ds.map b8).flatten++ck ([0]++b8 (n:Int)++bN ds.length 3++(ds.map b8).flatten)).drop 9).take 3=bN ds.length 3:=by
  have h9:([0]++b8 (n:Int)).length=9:=by rw[Yc,iZ];rfl
  rw[YJ,YJ ([0]++b8 (n:Int)),XG (by omega),List.drop_of_length_le (by omega),List.nil_append,Y6 (by rw[cC];exact Yd _),Yk (by rw[cC];exact Yd _)]
 rw[e]
 exact fV (by show ds.length<2 ^ 3;omega)
theorem a1N (hn:n<256):nmB (fb (n:Int) ds)=n:=by
 unfold nmB fb hd hdD
 have e:(([0]++b8 (n:Int)++bN ds.length 3++(ds.map b8).flatten++ck ([0]++b8 (n:Int)++bN ds.length 3++(ds.map b8).flatten)).drop 1).take 8=b8 (n:Int):=by
  rw[YJ,YJ,YJ [0]]
  show (b8 (n:Int)++_).take 8=_
  rw[Y6 (by rw[iZ];exact Yd _),Yk (by rw[iZ];exact Yd _)]
 rw[e]
 exact fV (by show n<2 ^ 8;omega)
theorem xG:∀(ds:List Int)(k:Nat)(h:k<ds.length)(r:List Int),(((ds.map b8).flatten++r).drop (8*k)).take 8=b8 ds[k]
 | d::ds,0,_,r=>by
  rw[YM,Xf,Nat.mul_zero,List.drop_zero,YJ,Y6 (by rw[iZ];exact Yd _),Yk (by rw[iZ];exact Yd _)];rfl
 | d::ds,k+1,h,r=>by
  rw[YM,Xf,YJ]
  have e:8*(k+1)=(b8 d).length+8*k:=by rw[iZ];omega
  rw[e,<-List.drop_drop,List.drop_left,xG ds k (by simpa using h) r];rfl
theorem a1O (hn:n<256)(hl:ds.length<=7)(hall:ds.all byt=true):daB (fb (n:Int) ds)=ds:=by
 unfold daB
 rw[a1M hn hl]
 apply List.ext_getElem
 ·rw[Ya,YN]
 ·intro k h1 h2
  rw[XT,List.getElem_range]
  unfold dtB fb hd hdD
  have h12:([0]++b8 (n:Int)++bN ds.length 3).length=12:=by rw[Yc,Yc,iZ,cC];rfl
  rw[YJ,<-List.drop_drop]
  have e:([0]++b8 (n:Int)++bN ds.length 3++((ds.map b8).flatten++ck ([0]++b8 (n:Int)++bN ds.length 3++(ds.map b8).flatten))).drop 12=(ds.map b8).flatten++ck ([0]++b8 (n:Int)++bN ds.length 3++(ds.map b8).flatten):=by
   rw[XG (by omega),List.drop_of_length_le (by omega),List.nil_append]
  rw[e,xG ds k h2]
  obtain⟨m,em,hm⟩:=uV (xP hall h2)
  rw[em]
  show ((nm (bN m 8):Nat):Int)=_
  rw[fV (by show m<2 ^ 8;omega)]
theorem c0Z (hn:n<256)(hl:ds.length<=7):zV (fb (n:Int) ds):=by
 refine⟨⟨by rw[oH];omega,by rw[oH,a1M hn hl]⟩,?_,b7O _ _ (by omega)⟩
 unfold fb hd hdD
 rfl
theorem lB {as:List Int}(ha:bO as)(hb:bO bs):bO (as++bs):=fun z hz=>(YI.mp hz).elim (ha z) (hb z)
theorem tX {as:List Int}(ha:bO as):bO (as.take n):=fun z hz=>ha z (XA hz)
theorem a8J (u:List Int):∀v:List Int,∃x,kp (u++v)=kp u++x:=by
 refine snoc_ind (P:=fun v=>∃x,kp (u++v)=kp u++x) ⟨[],by rw[YS,YS]⟩ (fun v b ih=>?_)
 obtain⟨x,e⟩:=ih
 rw[<-YJ,fW]
 split
 ·exact⟨x,e⟩
 ·exact⟨x++[b],by rw[e,YJ]⟩
theorem a2O {x:List Int}(h:12<=l.length):szB (l++x)=szB l:=by
 unfold szB
 rw[XG (by omega),Y6 (by rw[XS];omega)]
structure Wr (w:List Int)(bs:List Int):Prop where
 w:w=put bs
 bits:bO bs
 ok:zV bs
theorem Wr.take_run (h:Wr w bs)(hj:j<=w.length):run (w.take j)<=5:=by
 have:=a6X bs
 rw[<-h.w]at this
 exact this j hj
theorem Wr.wbits (h:Wr w bs):bO w:=by rw[h.w];exact vZ h.bits
theorem Wr.kp (h:Wr w bs):kp w=bs:=by rw[h.w];exact a8I bs
theorem Wr.more (h:Wr w bs)(hj:j<w.length):ans (w.take j)="more":=by
 have r5:=h.take_run (Xm hj)
 refine lC (by omega) (YD fun z=>?_)
 have n5:¬ run (w.take j)=5:=fun y=>z (.inl y)
 have hc:lD (Wm.kp (w.take j)):=YD fun y=>z (.inr y)
 obtain⟨x,e⟩:=a8J (w.take j) (w.drop j)
 rw[List.take_append_drop,h.kp]at e
 have hc':lD (Wm.kp (w.take j)):=hc
 have h12:=hc.1
 have h27:=hc.2
 have hs:=a2O (l:=Wm.kp (w.take j)) (x:=x) h12
 have hb:=h.ok.1.2
 rw[e]at hb
 have hb':(Wm.kp (w.take j)++x).length=27+8*szB (Wm.kp (w.take j)++x):=hb
 rw[hs,Yc]at hb'
 have hx:x= []:=List.eq_nil_of_length_eq_zero (by omega)
 rw[hx,YS]at e
 have good:Good (w.take j):=fun k hk=>by
  rw[List.take_take]
  exact h.take_run (by rw[Yr]at hk;omega)
 have hp:=a6V (tX (n:=j) h.wbits) good
 rw[if_neg n5,<-e,<-h.w]at hp
 have:=YT List.length hp
 rw[Yr]at this
 omega
theorem Wr.whole (h:Wr w bs):ans w="whole":=by
 have r4:=mG bs
 rw[<-h.w]at r4
 refine oJ (by omega) (fun z=>?_) ?_
 ·rcases z with z | z
  ·omega
  ·rw[h.kp]at z;exact z h.ok.1
 ·rw[h.kp];exact h.ok.2.2
theorem b2H (h:k<n):ixN n ((k:Nat):Int)=some k:=by
 unfold ixN
 rw[if_pos (by omega),if_pos (by omega),YB]
structure On (w:List Int):Prop where
 good:Good w
 le:12<=(kp w).length->(kp w).length<=27+8*szB (kp w)
 five:lD (kp w)->run w=5
theorem On.nil:On []:=⟨a8Q,fun z=>absurd z (by decide),fun z=>absurd z.1 (by decide)⟩
theorem a5G (h:12<=l.length):szB (l++[b])=szB l:=by
 unfold szB
 rw[XG (by omega),Y6 (by rw[XS];omega)]
theorem On.le' (h:On w):12<=(kp (w++[b])).length->(kp (w++[b])).length<=27+8*szB (kp (w++[b])):=by
 rw[fW]
 by_cases c:run w=5
 ·rw[if_pos c];exact h.le
 ·rw [if_neg c]
  intro h12
  rw[Yc,Yt]at h12 ⊢
  by_cases z:12<=(kp w).length
  ·rw[a5G z]
   have h1:=h.le z
   have h2:¬ (kp w).length=27+8*szB (kp w):=fun y=>c (h.five ⟨z,y⟩)
   omega
  ·omega
theorem On.next (h:On w)(hm:ans (w++[b])="more"):On (w++[b]):=by
 have h1:¬ 5<run (w++[b]):=fun z=>by
  rw[pQ z]at hm;exact absurd hm (by decide +kernel)
 refine⟨h.good.snoc (by omega),h.le',fun hc=>YD fun z=>?_⟩
 have h2:¬ (run (w++[b])=5\/¬ lD (kp (w++[b]))):=fun y=>y.elim z fun x=>x hc
 by_cases r:rst (kp (w++[b]))=0
 ·rw[oJ h1 h2 r]at hm;exact absurd hm (by decide +kernel)
 ·rw[uZ h1 h2 r]at hm;exact absurd hm (by decide +kernel)
def a5K (K:W.Frag)(C:Addr):Sp:=fun vs H Q E=>∃(n:Int)(a:Addr)(ds:List Int),vs= [.int n,.ref a]/\SqL K H a (ds.map V.int)/\ds.length<=500/\(oK n ds->∀p H',H p=none->Same H H'->H' p=some (.lst ((put (fb n ds)).map V.int))->Q (.ref p) H')/\(¬ oK n ds->∀H',Same H H'->False)
def b0K (C:Addr):Sp:=fun vs H Q E=>∃v:Int,vs= [.int v]/\((v=1\/v=3\/v=5)->Q .non H)/\(¬ (v=1\/v=3\/v=5)->False)
theorem sU (v:Int):decide (v∈ [(1:Int),3,5])=true↔(v=1\/v=3\/v=5):=by
 rw[XJ]
 simp
structure TCl (K:W.Frag)(C:Addr):Prop where
 cls:Cls K C
 n1:bH K C "votes"
 n2:bH K C "spoke"
 n3:bH K C "over"
 n4:bH K C "noughts"
abbrev tlF (v:Nat)(s:Bool)(o n:Nat):List (Str×V):=[("votes",.int v),("spoke",.bl s),("over",.int o),("noughts",.int n)]
def iJ (C1 C2:Addr)(H:Hp)(t:Addr)(v:Nat)(s:Bool)(o n:Nat):Prop:=∃C dx,(C=C1\/C=C2)/\H t=some (.ins C dx (tlF v s o n))
theorem iJ.same {s:Bool}{o:Nat}(h:iJ C1 C2 H t v s o n)(g:Same H H'):iJ C1 C2 H' t v s o n:=let ⟨C,dx,c,e⟩:=h;⟨C,dx,c,g _ _ e⟩
theorem iJ.at_ {s:Bool}{o:Nat}(h:iJ C1 C2 H t v s o n)(g:H' t=H t):iJ C1 C2 H' t v s o n:=let ⟨C,dx,c,e⟩:=h;⟨C,dx,c,g.trans e⟩
def eQ (s:Bool)(o:Nat):Int:=if o=1/\s=false then 0 else 1
def fJ (s:Bool)(o:Nat)(b:Int):Bool:=if o=1 then s && decide (b=1) else decide (b=0)
def tlN (o:Nat)(b:Int)(n:Nat):Nat:=if 9<=o/\b=0 then n+1 else n
def fK (v o n:Nat):Str:=if o<9+v then ("more":Str) else if v / 2<n then ("refused":Str) else ("taken":Str)
def aZ (v:Nat)(s:Bool)(o n:Nat)(b:Int):Str:=if 9<=o then fK v (o+1) (tlN o b n) else if fJ s o b=true then ("fault":Str) else ("more":Str)
def a9V (H H':Hp)(t:Addr):Prop:=∀x o,x≠t->H x=some o->H' x=some o
def a5P (K:W.Frag)(C1 C2:Addr):Sp:=fun vs H Q _=>∃(t C dx:Addr)(v:Nat)(s:Bool),vs= [.ref t,.int v,.bl s]/\(C=C1\/C=C2)/\H t=some (.ins C dx [])/\Q .non (upd H t (.ins C dx (tlF v s 0 0)))
def vO (C:Addr)(s:Bool):Sp:=fun vs H Q _=>∃(t dx:Addr)(v:Nat),vs= [.ref t,.int v]/\H t=some (.ins C dx [])/\∀H',H'=upd H t (.ins C dx (tlF v s 0 0))->Q .non H'
def a5O (C1 C2:Addr):Sp:=fun vs H Q _=>∃t v s o n,vs= [.ref t]/\iJ C1 C2 H t v s o n/\Q (.int (eQ s o)) H
def a2R (C1 C2:Addr):Sp:=fun vs H Q _=>∃t v s o n,vs= [.ref t]/\iJ C1 C2 H t v s o n/\Q (.int ((o:Nat):Int)) H
def a2T (C1 C2:Addr):Sp:=fun vs H Q _=>∃t v s o n,∃(a:Nat)(b:Int),vs= [.ref t,.int ((a:Nat):Int),.int b]/\iJ C1 C2 H t v s o n/\Q (.bl (fJ s a b)) H
def a2S (C1 C2:Addr):Sp:=fun vs H Q _=>∃t v s o n,∃b:Int,vs= [.ref t,.int b]/\iJ C1 C2 H t v s o n/\∀H',iJ C1 C2 H' t v s o (if b=0 then n+1 else n)->a9V H H' t->Q (.str (fK v o (if b=0 then n+1 else n))) H'
def a5Q (C1 C2:Addr):Sp:=fun vs H Q _=>∃t v s o n,∃b:Int,vs= [.ref t,.int b]/\iJ C1 C2 H t v s o n/\∀H',iJ C1 C2 H' t v s (o+1) (tlN o b n)->a9V H H' t->Q (.str (aZ v s o n b)) H'
theorem iM (h1:TCl K C1)(h2:TCl K C2)(h:C=C1\/C=C2):TCl K C:=h.elim (fun z=>z▸h1) (fun z=>z▸h2)
theorem oN {fa:Addr}{m:Str}(h1:Meth K C1 m fa)(h2:Meth K C2 m fa)(h:C=C1\/C=C2):Meth K C m fa:=h.elim (fun z=>z▸h1) (fun z=>z▸h2)
abbrev ctF (n:Int):List (Str×V):=[("total",.int n)]
def rQ (C:Addr)(H:Hp)(a:Addr)(n:Int):Prop:=∃dx,H a=some (.ins C dx (ctF n))
def a6I (C:Addr):Sp:=fun vs H Q _=>∃a dx,vs= [.ref a]/\H a=some (.ins C dx [])/\Q .non (upd H a (.ins C dx (ctF 0)))
def b3R (C:Addr)(lim:Int):Sp:=fun vs H Q _=>∃a n,vs= [.ref a]/\rQ C H a n/\Q (.bl (decide (lim<=n))) H
def b9Q (C:Addr):Sp:=fun vs H Q _=>∃a n,vs= [.ref a]/\rQ C H a n/\Q (.int n) H
def mvd (n st:Int):Int:=if 18<=n then n else max 0 (n+st)
def a6H (C:Addr):Sp:=fun vs H Q _=>∃a n st,vs= [.ref a,.int st]/\rQ C H a n/\∀H',rQ C H' a (mvd n st)->(∀b,b≠a->H' b=H b)->Q .non H'
def a2Y (C:Addr):Sp:=fun vs H Q _=>∃a n b,vs= [.ref a,.bl b]/\rQ C H a n/\∀H',rQ C H' a (mvd n (if b=true then 8 else 1))->(∀b,b≠a->H' b=H b)->Q .non H'
def vP (C:Addr)(st:Int):Sp:=fun vs H Q _=>∃a n,vs= [.ref a]/\rQ C H a n/\∀H',rQ C H' a (mvd n st)->(∀b,b≠a->H' b=H b)->Q .non H'
abbrev Own:=Addr->Prop
variable {o:Own}{o':Own}{o1:Own}{ob:Own}{os:Own}
def isT (o:HO):Prop:=∃vs,o= .tup vs
def cJ (o:Own)(H H':Hp):Prop:=∀x v,H x=some v->(¬ o x\/isT v)->H' x=some v
def Mv (o:Own)(H:Hp)(o':Own)(H':Hp):Prop:=cJ o H H'/\∀x,o' x->o x\/H x=none
abbrev Or2 (a b:Own):Own:=fun x=>a x\/b x
theorem cJ.of (g:Same H H'):cJ o H H':=fun x v e _=>g x v e
theorem cJ.refl:cJ o H H:=fun _ _ e _=>e
theorem cJ.tup (k:cJ o H H')(e:H x=some (.tup vs)):H' x=some (.tup vs):=k x _ e (.inr ⟨vs,rfl⟩)
theorem cJ.le (k:cJ o H H')(h:∀x,o x->o' x):cJ o' H H':=fun x v e z=>k x v e (z.elim (fun y=> .inl fun w=>y (h x w)) .inr)
theorem Mv.refl:Mv o H o H:=⟨cJ.refl,fun _=> .inl⟩
theorem Mv.of (g:Same H H'):Mv o H o H':=⟨cJ.of g,fun _=> .inl⟩
theorem Mv.trans {o2:Own}{H2:Hp}(a:Mv o H o1 H1)(b:Mv o1 H1 o2 H2):Mv o H o2 H2:=by
 refine⟨fun x v e z=>b.1 x v (a.1 x v e z) ?_,fun x hx=>?_⟩
 ·rcases z with z | z
  ·exact .inl fun w=>(a.2 x w).elim z fun n=>by rw[n]at e;cases e
  ·exact .inr z
 ·rcases b.2 x hx with h | h
  ·exact a.2 x h
  ·rcases Classical.em (o x) with c | c
   ·exact .inl c
   ·right
    cases e:H x with
    |none=>rfl
    |some v=>rw[a.1 x v e (.inl c)]at h;cases h
theorem Mv.out (a:Mv o H o1 H1){v:HO}(e:H x=some v)(h:¬ o x):¬ o1 x:=fun w=>(a.2 x w).elim h fun n=>by rw[n]at e;cases e
structure Cs where
 (post count free speaks reads intail flag settles rests off reader streak rtail stail:Addr)
variable {A:Cs}
inductive Stc where
 |free (k:Nat) | speaks (n:Nat) (ds:List Int) (k:Nat) | reads (h:List Int) | tlS (v c:Nat) | tlR (n:Nat) (ds:List Int) (v c:Nat) | flag (l:Nat) (m:Bool) | settles (m:Bool) | rests (l:Nat) | off
abbrev Fr:=Nat×List Int
variable {g:Nat->Option Fr}
structure PS where
 (m1 m2 vt:Nat) (wt up:List Fr) (tot:Int) (now:Stc)
variable {S:PS}{S1:PS}{T:PS}
abbrev wr (n:Nat)(ds:List Int):List Int:=put (fb (n:Int) ds)
def Stc.shown:Stc->Str×Nat
 |.free k=>("free",k)
 |.speaks _ _ k=>("speaks",k)
 |.reads h=>("reads",h.length)
 |.tlS v _=>("tail speaks",v)
 |.tlR _ _ v _=>("tail reads",v)
 |.flag l _=>("flag",l)
 |.settles _=>("settles",0)
 |.rests l=>("rests",l)
 |.off=>("off",0)
def bC (S:PS):Int:=match S.now with
 |.free k=>if S.wt= [] then 1 else if 12<=S.tot/\k<8 then 1 else 0
 |.speaks n ds k=>(wr n ds).getD k 0
 |.tlS v _=>eQ true v
 |.tlR _ _ v _=>eQ false v
 |.flag _ _=>0
 |_=>1
def dF (S:PS)(st:Int)(w:Str)(nx:Stc):Str×PS:=if 18<=mvd S.tot st then ("off",{ S with tot:=mvd S.tot st,now:= .off }) else (w,{ S with tot:=mvd S.tot st,now:=nx })
def cT (S:PS)(sp:Bool):Str×PS:=dF S (if sp=true then 8 else 1) "fault" (.flag 6 (!sp))
def dJ (S:PS)(sp:Bool):Str×PS:=dF S (if sp=true then 8 else 1) "refuses" (.settles false)
def iY (S:PS):Str×PS:=dF S 8 "" (.settles false)
def jC (S:PS)(n:Nat):Bool:=decide (Builtin.bitAnd ((n:Nat):Int) ((S.m1:Nat):Int)=((S.m2:Nat):Int))
def aY (S:PS)(b:Int):Str×PS:=match S.now with
 |.free k=>if bC S=0 then (if b=0 then ("begins",{ S with now:= .speaks (S.wt.headD (0, [])).1 (S.wt.headD (0, [])).2 1 }) else cT S true) else if b=0 then ("",{ S with now:= .reads [0] }) else ("",{ S with now:= .free (k+1) })
 |.speaks n ds k=>if ans ((wr n ds).take k++[b])="six" then cT S true else if (wr n ds).getD k 0=1/\b=0/\(kp ((wr n ds).take k)).length<9 then ("loses",{ S with now:= .reads ((wr n ds).take k++[b]) }) else if b=(wr n ds).getD k 0 then (if k+1=(wr n ds).length then ("",{ S with now:= .tlS 0 0 }) else ("",{ S with now:= .speaks n ds (k+1) })) else cT S true
 |.reads h=>if ans (h++[b])="more" then ("",{ S with now:= .reads (h++[b]) }) else if ans (h++[b])="whole" then ("",{ S with now:= .tlR (nmB (kp (h++[b]))) (daB (kp (h++[b]))) 0 0 }) else cT S false
 |.tlS v c=>if aZ S.vt true v c b="more" then ("",{ S with now:= .tlS (v+1) (tlN v b c) }) else if aZ S.vt true v c b="fault" then cT S true else if aZ S.vt true v c b="refused" then dJ S true else ("done",{ S with tot:=mvd S.tot (-1),wt:=S.wt.tail,now:= .rests 3 })
 |.tlR n ds v c=>if aZ S.vt false v c b="more" then ("",{ S with now:= .tlR n ds (v+1) (tlN v b c) }) else if aZ S.vt false v c b="fault" then cT S false else if aZ S.vt false v c b="refused" then dJ S false else ("takes",{ S with tot:=mvd S.tot (-1),up:=if jC S n=true then S.up++[(n,ds)] else S.up,now:= .rests 3 })
 |.flag l m=>if l=1 then ("",{ S with now:= .settles m }) else ("",{ S with now:= .flag (l-1) m })
 |.settles m=>if b=1 then ("",{ S with now:= .rests 3 }) else if m=true then iY S else ("",S)
 |.rests l=>if b=0 then cT S false else ("",{ S with now:=if l=1 then .free 0 else .rests (l-1) })
 |.off=>("",S)
def FrN (f:Fr):Prop:=f.1<256/\f.2.length<=7/\f.2.all byt=true
theorem FrN.ok {f:Fr}(h:FrN f):oK (f.1:Int) f.2:=⟨fY.mpr ⟨by omega,by have:=h.1;omega⟩,h.2.1,h.2.2⟩
def Stc.Wf (wt:List Fr):Stc->Prop
 |.speaks n ds k=>FrN (n,ds)/\1<=k/\k<(wr n ds).length/\wt≠ []
 |.reads h=>bO h/\On h/\h.head? =some 0
 |.tlS _ _=>wt≠ []
 |.flag l _=>1<=l
 |.rests l=>1<=l
 |_=>True
structure Wf (S:PS):Prop where
 vt:S.vt<=5
 wt:∀f∈S.wt,FrN f
 now:S.now.Wf S.wt
theorem nm3 (hb:bO l):szB l<=7:=by
 unfold szB
 have h:=lX (lA hb 9 3)
 have h2:((l.drop 9).take 3).length<=3:=by rw[Yr];omega
 have h3:=Yy (n:=2) (by decide) h2
 have:(2:Nat) ^ 3=8:=rfl
 omega
theorem b6R (hb:bO h)(ho:On h):h.length<=170:=by
 have e:=a6V hb ho.good
 have l:=(mH (kp h)).2
 have s:=nm3 (uJ hb)
 have k83:(kp h).length<=83:=by
  by_cases c:12<=(kp h).length
  ·have:=ho.le c;omega
  ·omega
 have:h.length<=(put (kp h)).length:=by
  rw[e]
  split
  ·rw[Yc];omega
  ·exact Yd _
 omega
theorem lW (h:FrN (n,ds)):Wr (wr n ds) (fb (n:Int) ds):=⟨rfl,pO _ _,c0Z h.1 h.2.1⟩
theorem jZ (h:FrN (n,ds)):27<=(wr n ds).length/\(wr n ds).length<=166:=by
 have a:=oH (n:Int) ds
 have b:=mH (fb (n:Int) ds)
 have c:=h.2.1
 have c':ds.length<=7:=c
 show 27<=(put (fb (n:Int) ds)).length/\(put (fb (n:Int) ds)).length<=166
 omega
theorem a0F (n:Nat)(ds:List Int):(wr n ds).head? =some 0:=by
 show (put (fb (n:Int) ds)).head? =some 0
 rw[a6W]
 unfold fb hd hdD
 rfl
theorem tW:(wr n ds).take 1= [0]:=by
 have:=a0F n ds
 generalize wr n ds=w at this
 cases w with
 |nil=>cases this
 |cons a b=>exact YT (fun y=>[y]) (Yo this)
theorem b3C (h:FrN (n,ds)):∀k,k<(wr n ds).length->On ((wr n ds).take k)
 |0,_=>On.nil
 | k+1,hk=>by
  have ih:=b3C h k (by omega)
  have e:(wr n ds).take (k+1)=(wr n ds).take k++[(wr n ds)[k]]:=Yg (by omega)
  have m:=(lW h).more hk
  rw[e]at m ⊢
  exact ih.next m
theorem a3O (h6:¬ ans (w++[b])="six")(h9:(kp w).length<9):ans (w++[b])="more":=by
 have h1:¬ 5<run (w++[b]):=fun z=>h6 (pQ z)
 refine lC h1 (.inr fun c=>?_)
 have:=c.1
 rw[fW]at this
 split at this
 ·omega
 ·rw[Yc,Yt]at this;omega
theorem qQ {st:Int}{w:Str}{nx:Stc}(h:Wf S)(hn:nx.Wf S.wt):Wf (dF S st w nx).2:=by
 unfold dF
 split
 ·exact⟨h.vt,h.wt,trivial⟩
 ·exact⟨h.vt,h.wt,hn⟩
theorem Wf.hear (h:Wf S)(hb:b=0\/b=1):Wf (aY S b).2:=by
 have hf:∀sp,Wf (cT S sp).2:=fun sp=>qQ h (by show 1<=6;decide)
 have hr:∀sp,Wf (dJ S sp).2:=fun sp=>qQ h trivial
 have hn:=h.now
 unfold aY
 cases e:S.now with
 | free k =>
  dsimp only
  split
  ·rename_i c
   split
   ·refine⟨h.vt,h.wt,?_⟩
    have hw:S.wt≠ []:=fun z=>by
     unfold bC at c
     rw[e]at c
     dsimp only at c
     rw[if_pos z]at c
     cases c
    cases ew:S.wt with
    |nil=>exact absurd ew hw
    | cons f r=>
     have hfn:=h.wt f (by rw[ew];exact YC)
     have:=jZ (n:=f.1) (ds:=f.2) hfn
     exact⟨hfn,Yd _,by show 1<(wr f.1 f.2).length;omega,by intro z;cases z⟩
   ·exact hf true
  ·split
   ·refine⟨h.vt,h.wt,⟨fun z hz=> .inl (Yn.mp hz),?_,rfl⟩⟩
    exact On.nil.next (b:=0) (by decide +kernel)
   ·exact⟨h.vt,h.wt,trivial⟩
 | speaks n ds k=>
  rw[e]at hn
  obtain⟨f1,f2,f3,f4⟩:=hn
  dsimp only
  split
  ·exact hf true
  rename_i c6
  split
  ·rename_i c
   have ho:=b3C f1 k f3
   refine⟨h.vt,h.wt,⟨?_,ho.next (a3O c6 c.2.2),?_⟩⟩
   ·exact lB (tX (lW f1).wbits) (fun z hz=>by rw[Yn.mp hz];exact hb)
   ·have hh:=a0F n ds
    generalize wr n ds=w at hh f3
    cases w with
    |nil=>cases hh
    | cons x y=>
     cases k with
     |zero=>cases f2
     |succ k=>exact hh
  split
  ·split
   ·exact⟨h.vt,h.wt,f4⟩
   ·exact⟨h.vt,h.wt,⟨f1,by omega,by omega,f4⟩⟩
  ·exact hf true
 | reads r=>
  rw[e]at hn
  obtain⟨f1,f2,f3⟩:=hn
  dsimp only
  split
  ·rename_i c
   refine⟨h.vt,h.wt,⟨lB f1 (fun z hz=>by rw[Yn.mp hz];exact hb),f2.next c,?_⟩⟩
   rw[Xb,f3];rfl
  split
  ·exact⟨h.vt,h.wt,trivial⟩
  ·exact hf false
 | tlS v c=>
  rw[e]at hn
  dsimp only
  split
  ·exact⟨h.vt,h.wt,hn⟩
  split
  ·exact hf true
  split
  ·exact hr true
  ·exact⟨h.vt,fun f hf=>h.wt f (List.mem_of_mem_tail hf),by show 1<=3;decide⟩
 | tlR n ds v c=>
  dsimp only
  split
  ·exact⟨h.vt,h.wt,trivial⟩
  split
  ·exact hf false
  split
  ·exact hr false
  ·exact⟨h.vt,h.wt,by show 1<=3;decide⟩
 | flag l m=>
  rw[e]at hn
  have hl:1<=l:=hn
  dsimp only
  split
  ·exact⟨h.vt,h.wt,trivial⟩
  ·exact⟨h.vt,h.wt,by show 1<=l-1;omega⟩
 | settles m=>
  dsimp only
  split
  ·exact⟨h.vt,h.wt,by show 1<=3;decide⟩
  split
  ·exact qQ h trivial
  ·exact h
 | rests l=>
  rw[e]at hn
  have hl:1<=l:=hn
  dsimp only
  split
  ·exact hf false
  ·refine⟨h.vt,h.wt,?_⟩
   show Stc.Wf S.wt (if l=1 then .free 0 else .rests (l-1))
   split
   ·trivial
   ·show 1<=l-1;omega
 |off=>exact h
def a4O (H:Hp)(o:Own)(t:Addr)(f:Fr):Prop:=∃d,H t=some (.tup [.int ((f.1:Nat):Int),.ref d])/\H d=some (.lst (f.2.map V.int))/\o d
inductive dG (H:Hp)(o:Own):List V->List Fr->Prop
 |nil:dG H o [] []
 |cons {t:Addr} {f:Fr} {ts:List V} {fs:List Fr}:a4O H o t f->dG H o ts fs->dG H o (.ref t::ts) (f::fs)
theorem dG.len:∀{ts:List V}{fs:List Fr},dG H o ts fs->ts.length=fs.length
 |_,_,.nil=>rfl
 |_,_,.cons _ r=>YT (·+1) r.len
theorem dG.snoc {f:Fr}:∀{ts:List V}{fs:List Fr},dG H o ts fs->a4O H o t f->dG H o (ts++[.ref t]) (fs++[f])
 |_,_,.nil,h=> .cons h .nil
 |_,_,.cons a r,h=> .cons a (r.snoc h)
theorem a4O.imp {f:Fr}(h:a4O H o t f)(g:∀x v,H x=some v->(o x\/isT v)->H' x=some v)(w:∀x,o x->o' x):a4O H' o' t f:=by
 obtain⟨d,e1,e2,e3⟩:=h
 exact⟨d,g _ _ e1 (.inr ⟨_,rfl⟩),g _ _ e2 (.inl e3),w d e3⟩
theorem dG.imp (g:∀x v,H x=some v->(o x\/isT v)->H' x=some v)(w:∀x,o x->o' x):∀{ts:List V}{fs:List Fr},dG H o ts fs->dG H' o' ts fs
 |_,_,.nil=> .nil
 |_,_,.cons a r=> .cons (a.imp g w) (r.imp g w)
theorem dG.get:∀{ts:List V}{fs:List Fr},dG H o ts fs->∀{i:Nat}{v:V},ts[i]? =some v->∃t f,v= .ref t/\fs[i]? =some f/\a4O H o t f
 |_,_,.cons a _,0,_,rfl=>⟨_,_,rfl,rfl,a⟩
 |_,_,.cons _ r,i+1,_,h=>r.get (i:=i) h
abbrev pF (ch:Addr)(vt:Nat)(wl ul ct nw:Addr):List (Str×V):=[("choice",.ref ch),("votes",.int vt),("waiting",.ref wl),("handed_up",.ref ul),("tally",.ref ct),("now",.ref nw)]
abbrev Dl (o:Own)(wl ul:Addr):Own:=fun x=>o x/\x≠wl/\x≠ul
structure BAt (A:Cs)(H:Hp)(p nwf:Addr)(S:PS)(o:Own)(dx ch wl ul ct:Addr)(ws us:List V):Prop where
 e:H p=some (.ins A.post dx (pF ch S.vt wl ul ct nwf))
 ec:H ch=some (.tup [.int S.m1,.int S.m2])
 ew:H wl=some (.lst ws)
 fw:dG H (Dl o wl ul) ws S.wt
 eu:H ul=some (.lst us)
 fu:dG H (Dl o wl ul) us S.up
 et:rQ A.count H ct S.tot
 op:o p
 ow:o wl
 ou:o ul
 ot:o ct
 ne:wl≠ul
 al:∀x,o x->H x≠none
def Bd (A:Cs)(H:Hp)(p nwf:Addr)(S:PS)(o:Own):Prop:=∃dx ch wl ul ct ws us,BAt A H p nwf S o dx ch wl ul ct ws us
theorem BAt.move {ct:Addr}{ws:List V}(h:BAt A H p nwf S o dx ch wl ul ct ws us)(g:∀x v,H x=some v->(o x\/isT v)->H' x=some v):BAt A H' p nwf S o dx ch wl ul ct ws us:=
 ⟨g _ _ h.e (.inl h.op),g _ _ h.ec (.inr ⟨_,rfl⟩),g _ _ h.ew (.inl h.ow),h.fw.imp (fun x v e z=>g x v e (z.imp_left And.left)) fun _ z=>z,g _ _ h.eu (.inl h.ou),h.fu.imp (fun x v e z=>g x v e (z.imp_left And.left)) fun _ z=>z,
  let ⟨d,e⟩:=h.et;⟨d,g _ _ e (.inl h.ot)⟩,h.op,h.ow,h.ou,h.ot,h.ne,fun x hx=>by
   have:=h.al x hx
   cases e:H x with
   |none=>exact absurd e this
   |some v=>rw[g x v e (.inl hx)];simp⟩
theorem Bd.move (h:Bd A H p nwf S o)(g:∀x v,H x=some v->(o x\/isT v)->H' x=some v):Bd A H' p nwf S o:=
 let ⟨dx,ch,wl,ul,ct,ws,us,b⟩:=h;⟨dx,ch,wl,ul,ct,ws,us,b.move g⟩
theorem Bd.al (h:Bd A H p nwf S o):∀x,o x->H x≠none:=let ⟨_,_,_,_,_,_,_,b⟩:=h;b.al
theorem Bd.op (h:Bd A H p nwf S o):o p:=let ⟨_,_,_,_,_,_,_,b⟩:=h;b.op
theorem Bd.now {S':PS}(h:Bd A H p nwf S o)(e1:S'.m1=S.m1)(e2:S'.m2=S.m2)(e3:S'.vt=S.vt)(e4:S'.wt=S.wt)(e5:S'.up=S.up)(e6:S'.tot=S.tot):Bd A H p nwf S' o:=by
 obtain⟨dx,ch,wl,ul,ct,ws,us,b⟩:=h
 exact⟨dx,ch,wl,ul,ct,ws,us,by rw[e3];exact b.e,by rw[e1,e2];exact b.ec,b.ew,by rw[e4];exact b.fw,b.eu,by rw[e5];exact b.fu,by rw[e6];exact b.et,b.op,b.ow,b.ou,b.ot,b.ne,b.al⟩
def b8M (A:Cs)(H:Hp)(nw:Addr)(vt:Nat)(o:Own):Stc->Prop
 |.free k=>∃dx,H nw=some (.ins A.free dx [("since",.int ((k:Nat):Int))])
 |.speaks n ds k=>∃dx wa r st ks t,H nw=some (.ins A.speaks dx [("wire",.ref wa),("reader",.ref r),("many",.int ((k:Nat):Int))])/\H wa=some (.lst ((wr n ds).map V.int))/\gU A.reader A.streak H r st ks ((wr n ds).take k) t/\wa≠ks/\o wa/\o r/\o st/\o ks
 |.reads h=>∃dx r st ks t,H nw=some (.ins A.reads dx [("reader",.ref r),("many",.int ((h.length:Nat):Int))])/\gU A.reader A.streak H r st ks h t/\o r/\o st/\o ks
 |.tlS v c=>∃dx tl,H nw=some (.ins A.intail dx [("tail",.ref tl),("found",.non)])/\iJ A.rtail A.stail H tl vt true v c/\o tl
 |.tlR n ds v c=>∃dx tl t d,H nw=some (.ins A.intail dx [("tail",.ref tl),("found",.ref t)])/\iJ A.rtail A.stail H tl vt false v c/\H t=some (.tup [.int ((n:Nat):Int),.ref d])/\H d=some (.lst (ds.map V.int))/\o tl/\o d
 |.flag l m=>∃dx,H nw=some (.ins A.flag dx [("left",.int ((l:Nat):Int)),("may_blame",.bl m)])
 |.settles m=>∃dx,H nw=some (.ins A.settles dx [("may_blame",.bl m)])
 |.rests l=>∃dx,H nw=some (.ins A.rests dx [("left",.int ((l:Nat):Int))])
 |.off=>∃dx,H nw=some (.ins A.off dx [])
structure StW (A:Cs)(H:Hp)(nw:Addr)(S:PS)(o:Own):Prop where
 at_:b8M A H nw S.vt o S.now
 on:o nw
 al:∀x,o x->H x≠none
theorem a0O {t:Str}(h:gU C CK H r st ks w t)(g1:∀v,H r=some v->H' r=some v)(g2:∀v,H st=some v->H' st=some v)(g3:∀v,H ks=some v->H' ks=some v):gU C CK H' r st ks w t:=
 ⟨let ⟨d,e⟩:=h.rd;⟨d,g1 _ e⟩,let ⟨d,e⟩:=h.sk;⟨d,g2 _ e⟩,g3 _ h.kp⟩
theorem StW.move (h:StW A H nw S o)(g:∀x v,H x=some v->(o x\/isT v)->H' x=some v):StW A H' nw S o:=by
 obtain⟨a,on,al⟩:=h
 have gn:∀v,H nw=some v->H' nw=some v:=fun v e=>g _ _ e (.inl on)
 refine⟨?_,on,fun x hx=>?_⟩
 ·revert a
  generalize S.now=s
  cases s with
  |free k=>intro hh;obtain⟨dx,e⟩:=hh;exact⟨dx,gn _ e⟩
  |speaks n ds k=>intro hh;obtain⟨dx,wa,r,st,ks,t,e,e1,e2,e3,o1,o2,o3,o4⟩:=hh;exact⟨dx,wa,r,st,ks,t,gn _ e,g _ _ e1 (.inl o1),a0O e2 (fun v z=>g _ _ z (.inl o2)) (fun v z=>g _ _ z (.inl o3)) (fun v z=>g _ _ z (.inl o4)),e3,o1,o2,o3,o4⟩
  |reads w=>intro hh;obtain⟨dx,r,st,ks,t,e,e2,o2,o3,o4⟩:=hh;exact⟨dx,r,st,ks,t,gn _ e,a0O e2 (fun v z=>g _ _ z (.inl o2)) (fun v z=>g _ _ z (.inl o3)) (fun v z=>g _ _ z (.inl o4)),o2,o3,o4⟩
  |tlS v c=>intro hh;obtain⟨dx,tl,e,⟨C,d,hC,e1⟩,o1⟩:=hh;exact⟨dx,tl,gn _ e,⟨C,d,hC,g _ _ e1 (.inl o1)⟩,o1⟩
  |tlR n ds v c=>intro hh;obtain⟨dx,tl,t,d,e,⟨C,d',hC,e1⟩,e2,e3,o1,o2⟩:=hh;exact⟨dx,tl,t,d,gn _ e,⟨C,d',hC,g _ _ e1 (.inl o1)⟩,g _ _ e2 (.inr ⟨_,rfl⟩),g _ _ e3 (.inl o2),o1,o2⟩
  |flag l m=>intro hh;obtain⟨dx,e⟩:=hh;exact⟨dx,gn _ e⟩
  |settles m=>intro hh;obtain⟨dx,e⟩:=hh;exact⟨dx,gn _ e⟩
  |rests l=>intro hh;obtain⟨dx,e⟩:=hh;exact⟨dx,gn _ e⟩
  |off=>intro hh;obtain⟨dx,e⟩:=hh;exact⟨dx,gn _ e⟩
 ·have:=al x hx
  cases e:H x with
  |none=>exact absurd e this
  |some v=>rw[g x v e (.inl hx)];simp
def cA (A:Cs)(H:Hp)(p:Addr)(S:PS)(o:Own):Prop:=∃nw ob os,Bd A H p nw S ob/\StW A H nw S os/\(∀x,ob x->os x->False)/\Wf S/\(∀x,ob x\/os x->o x)/\∀x,o x->H x≠none
theorem cA.move (h:cA A H p S o)(g:∀x v,H x=some v->(o x\/isT v)->H' x=some v):cA A H' p S o:=by
 obtain⟨nw,ob,os,b,s,d,w,i,al⟩:=h
 refine⟨nw,ob,os,b.move fun x v e z=>g x v e (z.imp_left fun y=>i x (.inl y)),s.move fun x v e z=>g x v e (z.imp_left fun y=>i x (.inr y)),d,w,i,fun x hx=>?_⟩
 have:=al x hx
 cases e:H x with
 |none=>exact absurd e this
 |some v=>rw[g x v e (.inl hx)];simp
theorem cA.same (h:cA A H p S o)(g:Same H H'):cA A H' p S o:=h.move fun x v e _=>g x v e
theorem cA.wf (h:cA A H p S o):Wf S:=let ⟨_,_,_,_,_,_,w,_,_⟩:=h;w
theorem cA.al (h:cA A H p S o):∀x,o x->H x≠none:=let ⟨_,_,_,_,_,_,_,_,a⟩:=h;a
theorem at0 {v:V}:atI (v::vs) (0:Int)=some v:=fB (j:=0) rfl
theorem sq0 {v:V}:seqIndex? (0:Int) (v::vs).length=some 0:=by
 unfold seqIndex?
 rw[Yz]
 simp
theorem jL (H:Hp)(a:Addr)(x y:HO):upd (upd H a x) a y=upd H a y:=by
 funext z
 by_cases h:z=a
 ·rw[h,aB,aB]
 ·rw[aH h,aH h,aH h]
def yK (C:Addr)(f:Str):Sp:=fun vs H Q _=>∃a dx v,vs= [.ref a,v]/\H a=some (.ins C dx [])/\∀H',H'=upd H a (.ins C dx [(f,v)])->Q .non H'
def yJ (C:Addr)(f g:Str):Sp:=fun vs H Q _=>∃a dx v w,vs= [.ref a,v,w]/\H a=some (.ins C dx [])/\∀H',H'=upd H a (.ins C dx [(f,v),(g,w)])->Q .non H'
def b5P (C:Addr)(f g h:Str):Sp:=fun vs H Q _=>∃a dx v w z,vs= [.ref a,v,w,z]/\H a=some (.ins C dx [])/\∀H',H'=upd H a (.ins C dx [(f,v),(g,w),(h,z)])->Q .non H'
def b0V (A:Cs):Sp:=fun vs H Q _=>vs= []/\∀r st ks H' t,gU A.reader A.streak H' r st ks [0] t->Same H H'->H r=none->H st=none->H ks=none->Q (.ref r) H'
def b3S (A:Cs)(lim:Int):Sp:=fun vs H Q _=>∃p nwf S o,vs= [.ref p]/\Bd A H p nwf S o/\Q (.bl (decide (lim<=S.tot))) H
def b9O (A:Cs):Sp:=fun vs H Q _=>∃p nwf S o,vs= [.ref p]/\Bd A H p nwf S o/\Q (.bl (decide (0<(S.wt.length:Int)))) H
def yL (A:Cs):Sp:=fun vs H Q _=>∃p nwf S o f r,vs= [.ref p]/\Bd A H p nwf S o/\S.wt=f::r/\FrN f/\∀pw H',H pw=none->Same H H'->H' pw=some (.lst ((wr f.1 f.2).map V.int))->Q (.ref pw) H'
def b5R (A:Cs):Sp:=fun vs H Q _=>∃p nwf S o,vs= [.ref p]/\Bd A H p nwf S o/\S.wt≠ []/\∀H',Bd A H' p nwf { S with wt:=S.wt.tail } o->cJ o H H'->Q .non H'
def a6G (A:Cs):Sp:=fun vs H Q _=>∃p nwf S o t d n ds,vs= [.ref p,.ref t]/\Bd A H p nwf S o/\H t=some (.tup [.int ((n:Nat):Int),.ref d])/\H d=some (.lst (ds.map V.int))/\¬ o d/\S.up.length<900/\
 ∀H',Bd A H' p nwf { S with up:=if jC S n=true then S.up++[(n,ds)] else S.up } (Or2 o fun x=>x=d)->cJ o H H'->Q .non H'
def b5Q (K:W.Frag)(A:Cs)(C:Addr):Sp:=fun vs H Q E=>∃p nwf S o n a ds,vs= [.ref p,.int n,.ref a]/\Bd A H p nwf S o/\SqL K H a (ds.map V.int)/\ds.length<=500/\S.wt.length<900/\
 (oK n ds->∀H' d,H d=none->Bd A H' p nwf { S with wt:=S.wt++[(n.toNat,ds)] } (Or2 o fun x=>x=d)->cJ o H H'->Q .non H')/\(¬ oK n ds->∀H',Same H H'->False)
inductive dW (H H':Hp):List V->List Fr->Prop
 |nil:dW H H' [] []
 |cons {t d:Addr} {f:Fr} {ts:List V} {fs:List Fr}:H t=none->H d=none->H' t=some (.tup [.int ((f.1:Nat):Int),.ref d])->H' d=some (.lst (f.2.map V.int))->dW H H' ts fs->dW H H' (.ref t::ts) (f::fs)
theorem dW.snoc {d:Addr}{f:Fr}(h1:H t=none)(h2:H d=none)(e1:H' t=some (.tup [.int ((f.1:Nat):Int),.ref d]))(e2:H' d=some (.lst (f.2.map V.int))):∀{ts:List V}{fs:List Fr},dW H H' ts fs->dW H H' (ts++[.ref t]) (fs++[f])
 |_,_,.nil=> .cons h1 h2 e1 e2 .nil
 |_,_,.cons a1 a2 a3 a4 r=> .cons a1 a2 a3 a4 (r.snoc h1 h2 e1 e2)
theorem dW.same {H2:Hp}(g:Same H' H2):∀{ts:List V}{fs:List Fr},dW H H' ts fs->dW H H2 ts fs
 |_,_,.nil=> .nil
 |_,_,.cons a1 a2 a3 a4 r=> .cons a1 a2 (g _ _ a3) (g _ _ a4) (r.same g)
theorem dW.len:∀{ts:List V}{fs:List Fr},dW H H' ts fs->ts.length=fs.length
 |_,_,.nil=>rfl
 |_,_,.cons _ _ _ _ r=>YT (·+1) r.len
def a6J (K:W.Frag):Sp:=fun vs H Q _=>∃(a:Addr)(ts:List V)(fs:List Fr)(o:Own),vs= [.ref a]/\H a=some (.lst ts)/\dG H o ts fs/\fs.length<=900/\∀l xs H',H l=none->Same H H'->H' l=some (.lst xs)->dW H H' xs fs->Q (.ref l) H'
def b0J (A:Cs):Sp:=fun vs H Q _=>∃p nwf S o,vs= [.ref p]/\Bd A H p nwf S o/\S.wt.length<=900/\∀l xs H',H l=none->Same H H'->H' l=some (.lst xs)->dW H H' xs S.wt->Q (.ref l) H'
def b9P (A:Cs):Sp:=fun vs H Q _=>∃p nwf S o,vs= [.ref p]/\Bd A H p nwf S o/\S.up.length<=900/\∀l xs H',H l=none->Same H H'->H' l=some (.lst xs)->dW H H' xs S.up->Q (.ref l) H'
def a5M (A:Cs):Sp:=fun vs H Q _=>∃p nwf S o w nx,vs= [.ref p,.str w,.ref nx]/\Bd A H p nwf S o/\(¬ 18<=S.tot->∀t H',Same H H'->H' t=some (.tup [.str w,.ref nx])->Q (.ref t) H')/\
 (18<=S.tot->∀t nw dx H',Same H H'->H nw=none->H' nw=some (.ins A.off dx [])->H' t=some (.tup [.str "off",.ref nw])->Q (.ref t) H')
def Aft (A:Cs)(H:Hp)(p nwf:Addr)(o:Own)(r:Str×PS)(t:Addr)(H':Hp):Prop:=∃nw' os',H' t=some (.tup [.str r.1,.ref nw'])/\Bd A H' p nwf r.2 o/\StW A H' nw' r.2 os'/\(∀x,os' x->H x=none)/\cJ o H H'
def Stp (A:Cs)(H:Hp)(p nwf:Addr)(ob os:Own)(r:Str×PS)(t:Addr)(H':Hp):Prop:=∃nw' ob' os',H' t=some (.tup [.str r.1,.ref nw'])/\Bd A H' p nwf r.2 ob'/\StW A H' nw' r.2 os'/\(∀x,ob' x->os' x->False)/\Mv (Or2 ob os) H (Or2 ob' os') H'
def b0R (A:Cs):Sp:=fun vs H Q _=>∃p nwf S o sp,vs= [.ref p,.bl sp]/\Bd A H p nwf S o/\∀t H',Aft A H p nwf o (cT S sp) t H'->Q (.ref t) H'
def a2U (A:Cs):Sp:=fun vs H Q _=>∃p nwf S o sp,vs= [.ref p,.bl sp]/\Bd A H p nwf S o/\∀t H',Aft A H p nwf o (dJ S sp) t H'->Q (.ref t) H'
def b0U (A:Cs):Sp:=fun vs H Q _=>∃p nwf S o,vs= [.ref p]/\Bd A H p nwf S o/\∀t H',Aft A H p nwf o (iY S) t H'->Q (.ref t) H'
theorem mW {o o':Own}(k:cJ o H H')(n:H' x=none):o x\/H x=none:=by
 rcases Classical.em (o x) with c | c
 ·exact .inl c
 ·right
  cases e:H x with
  |none=>rfl
  |some v=>rw[k x v e (.inl c)]at n;cases n
theorem Aft.stp {r:Str×PS}(h:Aft A H p nwf ob r t H')(k:cJ (Or2 ob os) H0 H)(b:Bd A H p nwf S ob):Stp A H0 p nwf ob os r t H':=by
 obtain⟨nw',os',e,bd,st,fr,kp⟩:=h
 refine⟨nw',ob,os',e,bd,st,fun x hx hy=>b.al x hx (fr x hy),fun x v ex z=>?_,fun x hx=>?_⟩
 ·exact kp x v (k x v ex z) (z.imp_left fun y w=>y (.inl w))
 ·rcases hx with hx | hx
  ·exact .inl (.inl hx)
  ·exact mW (o':=ob) k (fr x hx)
theorem Bd.count {ct:Addr}{ws:List V}{n:Int}(b:BAt A H p nwf S o dx ch wl ul ct ws us)(c:rQ A.count H' ct n)(k:∀x,x≠ct->H' x=H x):Bd A H' p nwf { S with tot:=n } o/\cJ o H H':=by
 have ne:∀{x:Addr}{v:HO},H x=some v->(∀C d,v≠ .ins C d (ctF S.tot))->x≠ct:=fun {x v} e h z=>by
  obtain⟨d,q⟩:=b.et
  rw[z,q]at e
  exact h _ _ (Yo e).symm
 have kk:cJ o H H':=fun x v e z=>by
  rw[k x]
  ·exact e
  ·rintro rfl
   rcases z with z | ⟨vs,rfl⟩
   ·exact z b.ot
   ·obtain⟨d,q⟩:=b.et
    rw[q]at e;cases e
 have lk:∀{x:Addr}{l:List V},H x=some (.lst l)->H' x=some (.lst l):=fun {x l} e=>by rw[k x (ne e fun C d z=>nomatch z)];exact e
 have fk:∀{ts:List V}{fs:List Fr},dG H (Dl o wl ul) ts fs->dG H' (Dl o wl ul) ts fs:=fun {ts fs} h=>by
  induction h with
  |nil=>exact .nil
  | cons a _ ih=>
   obtain⟨d,e1,e2,e3⟩:=a
   exact .cons ⟨d,kk.tup e1,lk e2,e3⟩ ih
 refine⟨⟨dx,ch,wl,ul,ct,ws,us,?_,kk.tup b.ec,lk b.ew,fk b.fw,lk b.eu,fk b.fu,c,b.op,b.ow,b.ou,b.ot,b.ne,fun x hx=>?_⟩,kk⟩
 ·rw[k p (ne b.e fun C d z=>by cases z)];exact b.e
 ·by_cases h:x=ct
  ·obtain⟨d,q⟩:=c
   rw[h,q];simp
  ·rw[k x h];exact b.al x hx
def a5L (K:W.Frag):Sp:=fun vs H Q _=>∃(c:Addr)(m t n:Int),vs= [.ref c,.int n]/\H c=some (.tup [.int m,.int t])/\Q (.bl (decide (Builtin.bitAnd n m=t))) H
def a6K (K:W.Frag)(C:Addr):Sp:=fun vs H Q E=>∃(a:Addr)(ns:List Int),vs= [.ref a]/\SqT K H a (ns.map V.int)/\ns.length<=500/\(ns.all byt=true->∀H',Same H H'->Q .non H')/\(¬ ns.all byt=true->∀H',Same H H'->False)
def S0 (m1 m2 v:Nat):PS:=⟨m1,m2,v, [], [],0,.free 0⟩
def a4N (m1 m2 v:Int):Prop:=byt m1=true/\byt m2=true/\(v=1\/v=3\/v=5)
def yH (K:W.Frag)(A:Cs)(C:Addr):Sp:=fun vs H Q E=>∃(a dx ch:Addr)(m1 m2 v:Int),vs= [.ref a,.ref ch,.int v]/\H a=some (.ins A.post dx [])/\H ch=some (.tup [.int m1,.int m2])/\
 (a4N m1 m2 v->∀H' o,cA A H' a (S0 m1.toNat m2.toNat v.toNat) o->(∀x,o x->x=a\/H x=none)->(∀x u,x≠a->H x=some u->H' x=some u)->Q .non H')/\(¬ a4N m1 m2 v->∀H':Hp,(∀x u,x≠a->H x=some u->H' x=some u)->False)
theorem Bd.grow {d:Addr}{v:HO}(h:Bd A H p nwf S o)(e:H d=some v):Bd A H p nwf S (Or2 o fun x=>x=d):=by
 obtain⟨dx,ch,wl,ul,ct,ws,us,b⟩:=h
 refine⟨dx,ch,wl,ul,ct,ws,us,b.e,b.ec,b.ew,b.fw.imp (fun x v e _=>e) (fun x z=>⟨.inl z.1,z.2⟩),b.eu,b.fu.imp (fun x v e _=>e) (fun x z=>⟨.inl z.1,z.2⟩),b.et,.inl b.op,.inl b.ow,.inl b.ou,.inl b.ot,b.ne,fun x hx=>?_⟩
 rcases hx with hx | hx
 ·exact b.al x hx
 ·have hx':x=d:=hx
  rw[hx',e];simp
theorem wO {ct:Addr}{ws ys:List V}(b:BAt A H p nwf S o dx ch wl ul ct ws us)(ha:a=wl\/a=ul):
  cJ o H (upd H a (.lst ys))/\upd H a (.lst ys) p=H p/\upd H a (.lst ys) ch=H ch/\upd H a (.lst ys) ct=H ct/\(∀{ts:List V}{fs:List Fr},dG H (Dl o wl ul) ts fs->dG (upd H a (.lst ys)) (Dl o wl ul) ts fs)/\∀x,o x->upd H a (.lst ys) x≠none:=by
 have ea:∃l,H a=some (.lst l):=ha.elim (fun z=>⟨_,z▸b.ew⟩) fun z=>⟨_,z▸b.eu⟩
 obtain⟨l,ea⟩:=ea
 have oa:o a:=ha.elim (fun z=>z▸b.ow) fun z=>z▸b.ou
 have kk:cJ o H (upd H a (.lst ys)):=fun x v e z=>by
  rw[aH]
  ·exact e
  ·rintro rfl
   rcases z with z | ⟨vs,rfl⟩
   ·exact z oa
   ·rw[ea]at e;cases e
 have nl:∀{x:Addr}{v:HO},H x=some v->(∀l,v≠ .lst l)->upd H a (.lst ys) x=H x:=fun {x v} e h=>by
  rw[aH]
  rintro rfl
  rw[ea]at e
  exact h _ (Yo e).symm
 refine⟨kk,nl b.e (fun l z=>nomatch z),nl b.ec (fun l z=>nomatch z),(let ⟨d,e⟩:=b.et;nl e fun l z=>nomatch z),fun {ts fs} h=>?_,fun x hx=>?_⟩
 ·induction h with
  |nil=>exact .nil
  | cons a' _ ih=>
   obtain⟨d,e1,e2,e3⟩:=a'
   refine .cons ⟨d,kk.tup e1,?_,e3⟩ ih
   rw[aH (ha.elim (fun z=>z▸e3.2.1) fun z=>z▸e3.2.2)]
   exact e2
 ·by_cases h:x=a
  ·rw[h,aB];simp
  ·rw[aH h];exact b.al x hx
def Stc.tag:Stc->Nat
 |.free _=>0
 |.speaks _ _ _=>1
 |.reads _=>2
 |.tlS _ _=>3
 |.tlR _ _ _ _=>3
 |.flag _ _=>4
 |.settles _=>5
 |.rests _=>6
 |.off=>7
def cO (A:Cs)(i:Nat):Sp:=fun vs H Q _=>∃nw p nwf S ob os,vs= [.ref nw,.ref p]/\S.now.tag=i/\Bd A H p nwf S ob/\StW A H nw S os/\Wf S/\Q (.int (bC S)) H
def cN (A:Cs)(i:Nat):Sp:=fun vs H Q _=>∃nw p nwf S ob os b,vs= [.ref nw,.int b,.ref p]/\S.now.tag=i/\Bd A H p nwf S ob/\StW A H nw S os/\(∀x,ob x->os x->False)/\Wf S/\(b=0\/b=1)/\S.up.length<900/\∀t H',Stp A H p nwf ob os (aY S b) t H'->Q (.ref t) H'
structure Bef (S S':PS):Prop where
 e1:S'.m1=S.m1
 e2:S'.m2=S.m2
 e3:S'.vt=S.vt
 e4:S'.wt=S.wt
 e5:S'.up=S.up
 e6:S'.tot=S.tot
theorem Stp.go {os':Own}{r:Str×PS}(b:Bd A H0 p nwf S ob)(dj:∀x,ob x->os x->False)(k:cJ os H0 H1)(g:Same H1 H')(e:H' t=some (.tup [.str r.1,.ref nw']))(f:Bef S r.2)(st:StW A H' nw' r.2 os')(fr:∀x,os' x->os x\/H1 x=none):Stp A H0 p nwf ob os r t H':=by
 have b1:Bd A H1 p nwf S ob:=b.move fun x v e z=>k x v e (z.imp_left fun y w=>dj x y w)
 refine⟨nw',ob,os',e,(b1.move fun x v e _=>g x v e).now f.e1 f.e2 f.e3 f.e4 f.e5 f.e6,st,fun x hx hy=>?_,fun x v ex z=>g x v (k x v ex (z.imp_left fun y w=>y (.inr w))),fun x hx=>?_⟩
 ·exact(fr x hy).elim (dj x hx) (b1.al x hx)
 ·rcases hx with hx | hx
  ·exact .inl (.inl hx)
  ·rcases fr x hx with h | h
   ·exact .inl (.inr h)
   ·exact(mW (o':=ob) k h).imp_left .inr
theorem Stp.go2 {ob' os':Own}{r:Str×PS}(b:Bd A H1 p nwf r.2 ob')(k:cJ (Or2 ob os) H0 H1)(g:Same H1 H')(e:H' t=some (.tup [.str r.1,.ref nw']))(st:StW A H' nw' r.2 os')(fr:∀x,os' x->H1 x=none)(fo:∀x,ob' x->Or2 ob os x\/H0 x=none):Stp A H0 p nwf ob os r t H':=by
 refine⟨nw',ob',os',e,b.move fun x v e _=>g x v e,st,fun x hx hy=>b.al x hx (fr x hy),fun x v ex z=>g x v (k x v ex z),fun x hx=>?_⟩
 rcases hx with hx | hx
 ·exact fo x hx
 ·exact mW (o':=ob) k (fr x hx)
theorem gD {v:HO}(e:H nw=some v)(h:b8M A H nw S.vt (fun x=>x=nw) S.now):StW A H nw S (fun x=>x=nw):=⟨h,rfl,fun x hx=>by
 have hx':x=nw:=hx
 rw[hx',e];simp⟩
theorem mF (e:S.now= .free k):bC S=if S.wt= [] then 1 else if 12<=S.tot/\k<8 then 1 else 0:=by unfold bC;rw[e]
def a6B (A:Cs):Sp:=fun vs H Q _=>∃p S o,vs= [.ref p]/\cA A H p S o/\Q (.int (bC S)) H
def a6C (A:Cs):Sp:=fun vs H Q _=>∃p S o b,vs= [.ref p,.int b]/\cA A H p S o/\(b=0\/b=1)/\S.up.length<900/\∀H' o',cA A H' p (aY S b).2 o'->Mv o H o' H'->Q (.str (aY S b).1) H'
theorem qM {y D dy:Addr}{fs gs:List (Str×V)}{v:V}(f:Str)(e1:H x=some (.ins C dx fs))(e2:H y=some (.ins D dy gs))(h1:fs.lookup f=some v)(h2:gs.lookup f=none):x≠y:=fun z=>by
 rw[z,e2]at e1
 have:=Yo e1
 injection this with _ _ h
 rw[<-h,h2]at h1
 cases h1
theorem a1A {y:Addr}{fs:List (Str×V)}{l:List V}(e1:H x=some (.ins C dx fs))(e2:H y=some (.lst l)):x≠y:=fun z=>by
 rw[z,e2]at e1
 cases e1
theorem a1I {t:Str}(h:gU C CK H r st ks w t)(b:b2Y H H1 r st ks)(o1:o r)(o2:o st)(o3:o ks):cJ o H H1:=fun x v e z=>by
 refine b x v ?_ ?_ ?_ e
 ·rintro rfl
  rcases z with z | ⟨vs,rfl⟩
  ·exact z o1
  ·obtain⟨d,q⟩:=h.rd;rw[q]at e;cases e
 ·rintro rfl
  rcases z with z | ⟨vs,rfl⟩
  ·exact z o2
  ·obtain⟨d,q⟩:=h.sk;rw[q]at e;cases e
 ·rintro rfl
  rcases z with z | ⟨vs,rfl⟩
  ·exact z o3
  ·rw[h.kp]at e;cases e
theorem a1H {tl:Addr}{c:Nat}{s:Bool}(h:iJ C1 C2 H tl v s n c)(b:a9V H H1 tl)(o1:o tl):cJ o H H1:=fun x u e z=>by
 refine b x u ?_ e
 rintro rfl
 rcases z with z | ⟨vs,rfl⟩
 ·exact z o1
 ·obtain⟨C,d,_,q⟩:=h;rw[q]at e;cases e
theorem pL (bd:Bd A H p nwf S ob)(dj:∀x,ob x->os x->False)(k:cJ os H H1):Bd A H1 p nwf S ob:=bd.move fun x v e z=>k x v e (z.imp_left fun y w=>dj x y w)
theorem getD_get (h:k<w.length):w.getD k 0=w[k]:=by rw[Yh,Yb h];rfl
theorem lG {r:Str×PS}{v:HO}(b:Bd A H0 p nwf S ob)(dj:∀x,ob x->os x->False)(k:cJ os H0 H1)(g:Same H1 H')(e:H' t=some (.tup [.str r.1,.ref nw']))(f:Bef S r.2)(hn:H1 nw'=none)(en:H' nw'=some v)(sa:b8M A H' nw' r.2.vt (fun x=>x=nw') r.2.now):Stp A H0 p nwf ob os r t H':=
 Stp.go b dj k g e f (gD en sa) fun x hx=> .inr (by have hx':x=nw':=hx;rw[hx'];exact hn)
theorem lL (e:S.now= .free k):aY S b=(if bC S=0 then (if b=0 then ("begins",{ S with now:= .speaks (S.wt.headD (0, [])).1 (S.wt.headD (0, [])).2 1 }) else cT S true) else if b=0 then ("",{ S with now:= .reads [0] }) else ("",{ S with now:= .free (k+1) }):Str×PS):=by unfold aY;rw[e]
theorem lM {l:Nat}{m:Bool}(e:S.now= .flag l m):aY S b=(if l=1 then ("",{ S with now:= .settles m }) else ("",{ S with now:= .flag (l-1) m }):Str×PS):=by unfold aY;rw[e]
theorem jU {m:Bool}(e:S.now= .settles m):aY S b=(if b=1 then ("",{ S with now:= .rests 3 }) else if m=true then iY S else ("",S):Str×PS):=by unfold aY;rw[e]
theorem qP {l:Nat}(e:S.now= .rests l):aY S b=(if b=0 then cT S false else ("",{ S with now:=if l=1 then .free 0 else .rests (l-1) }):Str×PS):=by unfold aY;rw[e]
theorem wR (e:S.now= .off):aY S b=(("",S):Str×PS):=by unfold aY;rw[e]
theorem lZ (e:S.now= .reads h):aY S b=(if ans (h++[b])="more" then ("",{ S with now:= .reads (h++[b]) }) else if ans (h++[b])="whole" then ("",{ S with now:= .tlR (nmB (kp (h++[b]))) (daB (kp (h++[b]))) 0 0 }) else cT S false:Str×PS):=by unfold aY;rw[e]
theorem iQ (e:S.now= .speaks n ds k):aY S b=(if ans ((wr n ds).take k++[b])="six" then cT S true else if (wr n ds).getD k 0=1/\b=0/\(kp ((wr n ds).take k)).length<9 then ("loses",{ S with now:= .reads ((wr n ds).take k++[b]) }) else if b=(wr n ds).getD k 0 then (if k+1=(wr n ds).length then ("",{ S with now:= .tlS 0 0 }) else ("",{ S with now:= .speaks n ds (k+1) })) else cT S true:Str×PS):=by unfold aY;rw[e]
theorem iH {c:Nat}(e:S.now= .tlS v c):aY S b=(if aZ S.vt true v c b="more" then ("",{ S with now:= .tlS (v+1) (tlN v b c) }) else if aZ S.vt true v c b="fault" then cT S true else if aZ S.vt true v c b="refused" then dJ S true else ("done",{ S with tot:=mvd S.tot (-1),wt:=S.wt.tail,now:= .rests 3 }):Str×PS):=by unfold aY;rw[e]
theorem jF {c:Nat}(e:S.now= .tlR n ds v c):aY S b=(if aZ S.vt false v c b="more" then ("",{ S with now:= .tlR n ds (v+1) (tlN v b c) }) else if aZ S.vt false v c b="fault" then cT S false else if aZ S.vt false v c b="refused" then dJ S false else ("takes",{ S with tot:=mvd S.tot (-1),up:=if jC S n=true then S.up++[(n,ds)] else S.up,now:= .rests 3 }):Str×PS):=by unfold aY;rw[e]
structure Mid (H:Hp)(a:Addr)(v:HO)(cs:List (Addr×HO))(Hx:Hp):Prop where
 ea:Hx a=some v
 kp:∀x u,x≠a->H x=some u->Hx x=some u
 nw:∀c∈cs,H c.1=none/\c.1≠a/\Hx c.1=some c.2
 nd:(cs.map Prod.fst).Nodup
theorem Mid.set {v:HO}{cs:List (Addr×HO)}{Hx:Hp}(m:Mid H a v cs Hx)(v':HO):Mid H a v' cs (upd Hx a v'):=
 ⟨aB,fun x u hx h=>by rw[aH hx];exact m.kp x u hx h,fun c hc=>⟨(m.nw c hc).1,(m.nw c hc).2.1,by rw[aH (m.nw c hc).2.1];exact(m.nw c hc).2.2⟩,m.nd⟩
theorem Mid.add {y:Addr}{v o:HO}{cs:List (Addr×HO)}{Hx Hy:Hp}(m:Mid H a v cs Hx)(hn:Hx y=none)(g:Same Hx Hy)(e:Hy y=some o):Mid H a v ((y,o)::cs) Hy:=by
 have ya:y≠a:=fun z=>by rw[z,m.ea]at hn;cases hn
 refine⟨g _ _ m.ea,fun x u hx h=>g _ _ (m.kp x u hx h),fun c hc=>?_,Y0.mpr ⟨fun h=>?_,m.nd⟩⟩
 ·rcases YG.mp hc with rfl | hc
  ·refine⟨?_,ya,e⟩
   cases eh:H y with
   |none=>rfl
   |some u=>rw[m.kp y u ya eh]at hn;cases hn
  ·exact⟨(m.nw c hc).1,(m.nw c hc).2.1,g _ _ (m.nw c hc).2.2⟩
 ·obtain⟨c,hc,ec⟩:=YA.mp h
  have:=(m.nw c hc).2.2
  rw[ec,hn]at this
  cases this
theorem oA (b:Bd A H1 p nwf S o)(k:cJ o H H1)(n:H1 x=none):H x=none:=by
 rcases mW (o':=o) k n with h | h
 ·exact absurd n (b.al x h)
 ·exact h
theorem a3Z {A:Cs}{H':Hp}{p nwf nw':Addr}{S:PS}{ob' os':Own}{b:Int}(wf:Wf S)(hb:b=0\/b=1)(b':Bd A H' p nwf (aY S b).2 ob')(s':StW A H' nw' (aY S b).2 os')(dj':∀x,ob' x->os' x->False)
  {dp ch wl ul ct:Addr} {ws us:List V} (bb:BAt A H' p nwf (aY S b).2 ob' dp ch wl ul ct ws us) :
  cA A (upd H' p (.ins A.post dp (pF ch (aY S b).2.vt wl ul ct nw'))) p (aY S b).2 (Or2 ob' os')/\cJ (fun x=>x=p) H' (upd H' p (.ins A.post dp (pF ch (aY S b).2.vt wl ul ct nw'))):=by
 have kk:cJ (fun x=>x=p) H' (upd H' p (.ins A.post dp (pF ch (aY S b).2.vt wl ul ct nw'))):=fun x v e z=>by
  rw[aH]
  ·exact e
  ·rintro rfl
   rcases z with z | ⟨vs,rfl⟩
   ·exact z rfl
   ·rw[bb.e]at e;cases e
 have ne:∀{x:Addr}{v:HO},H' x=some v->x≠p->upd H' p (.ins A.post dp (pF ch (aY S b).2.vt wl ul ct nw')) x=some v:=fun e h=>by rw[aH h];exact e
 have nl:∀{x:Addr}{l:List V},H' x=some (.lst l)->x≠p:=fun e z=>by rw[z,bb.e]at e;cases e
 have fk:∀{ts:List V}{fs:List Fr},dG H' (Dl ob' wl ul) ts fs->dG (upd H' p (.ins A.post dp (pF ch (aY S b).2.vt wl ul ct nw'))) (Dl ob' wl ul) ts fs:=fun {ts fs} h=>by
  induction h with
  |nil=>exact .nil
  | cons a _ ih=>
   obtain⟨d,e1,e2,e3⟩:=a
   exact .cons ⟨d,kk.tup e1,ne e2 (nl e2),e3⟩ ih
 have al:∀x,Or2 ob' os' x->upd H' p (.ins A.post dp (pF ch (aY S b).2.vt wl ul ct nw')) x≠none:=fun x hx=>by
  by_cases h:x=p
  ·rw[h,aB];simp
  ·rw[aH h];exact hx.elim (bb.al x) (s'.al x)
 obtain⟨dc,ec⟩:=id bb.et
 have ncp:ct≠p:=qM "total" ec bb.e rfl rfl
 refine⟨⟨nw',ob',os',⟨dp,ch,wl,ul,ct,ws,us,aB,kk.tup bb.ec,ne bb.ew (nl bb.ew),fk bb.fw,ne bb.eu (nl bb.eu),fk bb.fu,⟨dc,ne ec ncp⟩,bb.op,bb.ow,bb.ou,bb.ot,bb.ne,fun x hx=>al x (.inl hx)⟩,s'.move fun x v e z=>kk x v e (z.imp_left fun y w=>dj' x (by have w':x=p:=w;rw[w'];exact bb.op) y),dj',wf.hear hb,fun x hx=>hx,al⟩,kk⟩
structure Lw (A:Cs)(H0 H:Hp)(p:Addr)(S:PS)(o:Own):Prop where
 same:Same H0 H
 fr:∀x,o x->H0 x=none
 po:cA A H p S o
theorem Wf.hand {f:Fr}(h:Wf S)(hf:FrN f):Wf { S with wt:=S.wt++[f] }:=by
 refine⟨h.vt,fun g hg=>?_,?_⟩
 ·rcases YI.mp hg with z | z
  ·exact h.wt g z
  ·rw[Yn.mp z];exact hf
 ·have hn:=h.now
  have hne:S.wt++[f]≠ []:=by intro z;have:=(List.append_eq_nil_iff.mp z).2;cases this
  show Stc.Wf (S.wt++[f]) S.now
  revert hn
  cases S.now with
  |speaks n ds k=>exact fun ⟨a,b,c,d⟩=>⟨a,b,c,hne⟩
  |tlS v c=>exact fun _=>hne
  |free k=>exact fun z=>z
  |reads h=>exact fun z=>z
  |tlR n ds v c=>exact fun z=>z
  |flag l m=>exact fun z=>z
  |settles m=>exact fun z=>z
  |rests l=>exact fun z=>z
  |off=>exact fun z=>z
theorem cA.hand (h:cA A H p S o):∃nw ob,Bd A H p nw S ob/\∀{n:Int}{ds:List Int},oK n ds->∀H' d,H d=none->Bd A H' p nw { S with wt:=S.wt++[(n.toNat,ds)] } (Or2 ob fun x=>x=d)->cJ ob H H'->∃o',cA A H' p { S with wt:=S.wt++[(n.toNat,ds)] } o'/\Mv o H o' H':=by
 obtain⟨nw,ob,os,bd,st,dj,wf,inc,al⟩:=h
 refine⟨nw,ob,bd,fun {n ds} ok H' d hd b' k=>?_⟩
 have hb:=fY.mp ok.1
 have hf:FrN (n.toNat,ds):=⟨by show n.toNat<256;omega,ok.2.1,ok.2.2⟩
 have s':StW A H' nw S os:=st.move fun x v e z=>k x v e (z.imp_left fun y w=>dj x w y)
 refine⟨Or2 o fun x=>x=d,⟨nw,Or2 ob fun x=>x=d,os,b',⟨s'.at_,s'.on,s'.al⟩,?_,wf.hand hf,?_,?_⟩,k.le fun x hx=>inc x (.inl hx),fun x hx=>?_⟩
 ·rintro x (hx | hx) hy
  ·exact dj x hx hy
  ·have hx':x=d:=hx
   rw[hx']at hy
   exact al d (inc d (.inr hy)) hd
 ·rintro x ((hx | hx) | hx)
  ·exact .inl (inc x (.inl hx))
  ·exact .inr hx
  ·exact .inl (inc x (.inr hx))
 ·rintro x (hx | hx)
  ·rcases Classical.em (ob x) with c | c
   ·exact b'.al x (.inl c)
   ·cases e:H x with
    |none=>exact absurd e (al x hx)
    |some v=>rw[k x v e (.inl c)];simp
  ·exact b'.al x (.inr hx)
 ·rcases hx with hx | hx
  ·exact .inl hx
  ·have hx':x=d:=hx
   rw[hx'];exact .inr hd
theorem b1M {v:HO}(g:Same H H1)(hp:H1 p=none)(hdp:H1 dp=none)(hP:cA A H' p S o)(hin:∀x,o x->x=p\/upd (upd H1 dp (.own p)) p v x=none)(hk:∀x u,x≠p->upd (upd H1 dp (.own p)) p v x=some u->H' x=some u):Lw A H H' p S o/\Same H1 H':=by
 have s1:Same H1 H':=fun x u e=>hk x u (aP e hp) (by rw[aH (aP e hp),aH (aP e hdp)];exact e)
 refine⟨⟨g.trans s1,fun x hx=>?_,hP⟩,s1⟩
 rcases hin x hx with h | h
 ·rw[h];exact g.none hp
 ·refine g.none ?_
  by_cases c:x=p
  ·rw[c,aB]at h;cases h
  ·rw[aH c]at h
   by_cases d:x=dp
   ·rw[d,aB]at h;cases h
   ·rw[aH d]at h;exact h
theorem cA.bd (h:cA A H p S o):∃nw ob,Bd A H p nw S ob:=let ⟨nw,ob,_,bd,_⟩:=h;⟨nw,ob,bd⟩
theorem cA.cell (h:cA A H p S o):∃dx ch vt wl ul ct nw,H p=some (.ins A.post dx (pF ch vt wl ul ct nw)):=let ⟨nw,_,_,⟨dx,ch,wl,ul,ct,_,_,b⟩,_⟩:=h;⟨dx,ch,_,wl,ul,ct,nw,b.e⟩
theorem dW.at_:∀{ts:List V}{fs:List Fr},dW H H' ts fs->dG H' (fun _=>True) ts fs
 |_,_,.nil=> .nil
 |_,_,.cons _ _ a3 a4 r=> .cons ⟨_,a3,a4,trivial⟩ r.at_
def frD (f:Fr):PyData:= .tuple [.int ((f.1:Nat):Int),.list (f.2.map .int)]
theorem dG.dvs:∀{ts:List V}{fs:List Fr},dG H o ts fs->DVs K H ts (fs.map frD)
 |_,_,.nil=> .nil
 |_,_,.cons ⟨_,e1,e2,_⟩ r=> .cons (.tup (SqT.of e1) (.cons (.int _) (.cons (DV.ints (SqL.of e2)) .nil))) r.dvs
theorem qT (fs:List Fr):SeqAt.shaped (.list (fs.map frD))=true:=b0Y fun d hd=>by
 obtain⟨f,_,rfl⟩:=YA.mp hd
 have h:=lay_ints f.2
 have h2:=h.2
 unfold frD
 refine⟨?_,?_⟩
 ·simp only[PyData.canLay0,PyData.canLayAll0,Bool.true_and,Bool.and_true]
  have:=h.1
  simp only[PyData.canLay0]at this
  exact this
 ·have h3:=W.depthAll_ints f.2
  simp only[PyData.depth,PyData.depthAll]
  omega
theorem b6X {lo:Own}{o u:HO}(e:H a=some o)(h:lo a)(n:¬ isT o):Mv lo H lo (upd H a u):=⟨fun x v ex z=>by
 rw[aH]
 ·exact ex
 ·rintro rfl
  rcases z with z | z
  ·exact z h
  ·rw[e]at ex;cases ex;exact n z,fun _=> .inl⟩
theorem b2A {xs:List V}:¬ isT (.lst xs):=fun ⟨_,z⟩=>by cases z
theorem StW.disp (st:StW A H nw S os):∃C dd fs,H nw=some (.ins C dd fs)/\(fs.lookup ("says":Str)=none/\fs.lookup ("step":Str)=none/\fs.lookup ("shown":Str)=none)/\∀f:Nat->Sp,(C=A.free/\f S.now.tag=f 0)\/(C=A.speaks/\f S.now.tag=f 1)\/(C=A.reads/\f S.now.tag=f 2)\/(C=A.intail/\f S.now.tag=f 3)\/(C=A.flag/\f S.now.tag=f 4)\/(C=A.settles/\f S.now.tag=f 5)\/(C=A.rests/\f S.now.tag=f 6)\/(C=A.off/\f S.now.tag=f 7):=by
 have sa:=st.at_
 cases en:S.now
 case free k=>
  rw[en]at sa
  obtain⟨dd,hS⟩:=sa
  exact⟨_,dd,_,hS,⟨rfl,rfl,rfl⟩,fun f=> .inl ⟨rfl,rfl⟩⟩
 case speaks n ds k=>
  rw[en]at sa
  obtain⟨dd,wa,r,st2,ks,t0,hS,_⟩:=sa
  exact⟨_,dd,_,hS,⟨rfl,rfl,rfl⟩,fun f=> .inr (.inl ⟨rfl,rfl⟩)⟩
 case reads h=>
  rw[en]at sa
  obtain⟨dd,r,st2,ks,t0,hS,_⟩:=sa
  exact⟨_,dd,_,hS,⟨rfl,rfl,rfl⟩,fun f=> .inr (.inr (.inl ⟨rfl,rfl⟩))⟩
 case tlS v c=>
  rw[en]at sa
  obtain⟨dd,tl,hS,_⟩:=sa
  exact⟨_,dd,_,hS,⟨rfl,rfl,rfl⟩,fun f=> .inr (.inr (.inr (.inl ⟨rfl,rfl⟩)))⟩
 case tlR n ds v c=>
  rw[en]at sa
  obtain⟨dd,tl,tf,df,hS,_⟩:=sa
  exact⟨_,dd,_,hS,⟨rfl,rfl,rfl⟩,fun f=> .inr (.inr (.inr (.inl ⟨rfl,rfl⟩)))⟩
 case flag l m=>
  rw[en]at sa
  obtain⟨dd,hS⟩:=sa
  exact⟨_,dd,_,hS,⟨rfl,rfl,rfl⟩,fun f=> .inr (.inr (.inr (.inr (.inl ⟨rfl,rfl⟩))))⟩
 case settles m=>
  rw[en]at sa
  obtain⟨dd,hS⟩:=sa
  exact⟨_,dd,_,hS,⟨rfl,rfl,rfl⟩,fun f=> .inr (.inr (.inr (.inr (.inr (.inl ⟨rfl,rfl⟩)))))⟩
 case rests l=>
  rw[en]at sa
  obtain⟨dd,hS⟩:=sa
  exact⟨_,dd,_,hS,⟨rfl,rfl,rfl⟩,fun f=> .inr (.inr (.inr (.inr (.inr (.inr (.inl ⟨rfl,rfl⟩))))))⟩
 case off=>
  rw[en]at sa
  obtain⟨dd,hS⟩:=sa
  exact⟨_,dd,_,hS,⟨rfl,rfl,rfl⟩,fun f=> .inr (.inr (.inr (.inr (.inr (.inr (.inr (⟨rfl,rfl⟩)))))))⟩
def iK (A:Cs)(H:Hp):List Addr->List PS->Own->Prop
 |[], [],o=>∀x,o x->H x≠none
 |p::ps,S::Ss,o=>∃o1 o2,cA A H p S o1/\iK A H ps Ss o2/\(∀x,o1 x->o2 x->False)/\(∀x,o1 x\/o2 x->o x)/\∀x,o x->H x≠none
 |_,_,_=>False
theorem iK.al:∀{ps:List Addr}{Ss:List PS}{o:Own},iK A H ps Ss o->∀x,o x->H x≠none
 |[], [],_,h=>h
 |_::_,_::_,_,⟨_,_,_,_,_,_,h⟩=>h
theorem iK.len:∀{ps:List Addr}{Ss:List PS}{o:Own},iK A H ps Ss o->ps.length=Ss.length
 |[], [],_,_=>rfl
 |_::_,_::_,_,⟨_,_,_,h,_⟩=>YT (·+1) h.len
theorem iK.move:∀{ps:List Addr}{Ss:List PS}{o:Own},iK A H ps Ss o->(∀x v,H x=some v->(o x\/isT v)->H' x=some v)->iK A H' ps Ss o
 | [], [],o,h,g=>fun x hx=>by
  cases e:H x with
  |none=>exact absurd e (h x hx)
  |some v=>rw[g x v e (.inl hx)];simp
 | _::_,_::_,o,⟨o1,o2,h1,h2,dj,inc,al⟩,g=>⟨o1,o2,h1.move fun x v e z=>g x v e (z.imp_left fun y=>inc x (.inl y)),h2.move fun x v e z=>g x v e (z.imp_left fun y=>inc x (.inr y)),dj,inc,fun x hx=>by
  cases e:H x with
  |none=>exact absurd e (al x hx)
  |some v=>rw[g x v e (.inl hx)];simp⟩
theorem iK.same {ps:List Addr}{Ss:List PS}(h:iK A H ps Ss o)(g:Same H H'):iK A H' ps Ss o:=h.move fun x v e _=>g x v e
theorem iK.get:∀{ps:List Addr}{Ss:List PS}{o:Own},iK A H ps Ss o->∀{i:Nat}{p:Addr},ps[i]? =some p->∃S oi,Ss[i]? =some S/\cA A H p S oi/\(∀x,oi x->o x)/\∀H' oi' S',Mv oi H oi' H'->cA A H' p S' oi'->∃o',iK A H' ps (Ss.set i S') o'/\Mv o H o' H'
 | q ::ps,S::Ss,o,⟨o1,o2,h1,h2,dj,inc,al⟩,0,p,hp=>by
  cases hp
  refine⟨S,o1,rfl,h1,fun x hx=>inc x (.inl hx),fun H' oi' S' m hP=>?_⟩
  have h2':iK A H' ps Ss o2:=h2.move fun x v e z=>m.1 x v e (z.imp_left fun y w=>dj x w y)
  refine⟨Or2 oi' o2,⟨oi',o2,hP,h2',fun x hx hy=>?_,fun x hx=>hx,fun x hx=>?_⟩,⟨fun x v e z=>m.1 x v e (z.imp_left fun y w=>y (inc x (.inl w))),fun x hx=>?_⟩⟩
  ·exact(m.2 x hx).elim (fun z=>dj x z hy) fun z=>h2.al x hy z
  ·rcases hx with hx | hx
   ·exact hP.al x hx
   ·exact h2'.al x hx
  ·rcases hx with hx | hx
   ·exact(m.2 x hx).imp (fun z=>inc x (.inl z)) id
   ·exact .inl (inc x (.inr hx))
 | q ::ps,S::Ss,o,⟨o1,o2,h1,h2,dj,inc,al⟩,i+1,p,hp=>by
  obtain⟨S1,oi,e1,hP1,le,back⟩:=iK.get h2 (i:=i) hp
  refine⟨S1,oi,e1,hP1,fun x hx=>inc x (.inr (le x hx)),fun H' oi' S' m hP=>?_⟩
  obtain⟨o2',h2',m'⟩:=back H' oi' S' m hP
  have h1':cA A H' q S o1:=h1.move fun x v e z=>m'.1 x v e (z.imp_left fun y w=>dj x y w)
  refine⟨Or2 o1 o2',⟨o1,o2',h1',h2',fun x hx hy=>?_,fun x hx=>hx,fun x hx=>?_⟩,⟨fun x v e z=>m'.1 x v e (z.imp_left fun y w=>y (inc x (.inr w))),fun x hx=>?_⟩⟩
  ·exact(m'.2 x hy).elim (fun z=>dj x hx z) fun z=>h1.al x hx z
  ·rcases hx with hx | hx
   ·exact h1'.al x hx
   ·exact h2'.al x hx
  ·rcases hx with hx | hx
   ·exact .inl (inc x (.inl hx))
   ·exact(m'.2 x hx).imp (fun z=>inc x (.inr z)) id
theorem iK.snoc (hP:cA A H' p S o1)(g:Same H H')(n:∀x,o1 x->H x=none):∀{ps:List Addr}{Ss:List PS}{o:Own},iK A H ps Ss o->iK A H' (ps++[p]) (Ss++[S]) (Or2 o o1)
  | [], [],o,h=>⟨o1,o,hP,fun x hx=>by
      cases e:H x with
      |none=>exact absurd e (h x hx)
      |some v=>rw[g x v e];simp,fun x hx hy=>h x hy (n x hx),fun x hx=>hx.symm,fun x hx=>by
      rcases hx with hx | hx
      · cases e:H x with
        |none=>exact absurd e (h x hx)
        |some v=>rw[g x v e];simp
      · exact hP.al x hx⟩
  | q :: ps,T::Ss,o,⟨oa,ob,h1,h2,dj,inc,al⟩=>⟨oa,Or2 ob o1,h1.same g,iK.snoc hP g n h2,fun x hx hy=>by
      rcases hy with hy | hy
      · exact dj x hx hy
      · exact h1.al x hx (n x hy),fun x hx=>by
      rcases hx with hx | hx | hx
      · exact .inl (inc x (.inl hx))
      · exact .inl (inc x (.inr hx))
      · exact .inr hx,fun x hx=>by
      rcases hx with hx | hx
      · cases e:H x with
        |none=>exact absurd e (al x hx)
        |some v=>rw[g x v e];simp
      · exact hP.al x hx⟩
structure dH (H:Hp)(L:List (Addr×HO)):Prop where
 at_:∀(j:Nat)(c:Addr×HO),L[j]? =some c->H c.1=some c.2
 ap:∀(i j:Nat)(c d:Addr×HO),L[i]? =some c->L[j]? =some d->c.1=d.1->i=j
theorem dH.put {h:HO}(hc:dH H L)(e:L[i]? =some (a,h))(h':HO):dH (upd H a h') (L.set i (a,h')):=by
 have hi:i<L.length:=(Yf.mp e).1
 have old:∀(j:Nat)(c:Addr×HO),(L.set i (a,h'))[j]? =some c->(j=i/\c=(a,h'))\/(j≠i/\L[j]? =some c):=fun j c z=>by
  rw[XB]at z
  by_cases k:i=j
  ·rw[if_pos k,if_pos hi]at z
   exact .inl ⟨k.symm,(Yo z).symm⟩
  ·rw[if_neg k]at z
   exact .inr ⟨fun y=>k y.symm,z⟩
 refine⟨fun j c z=>?_,fun j k c d z y q=>?_⟩
 ·rcases old j c z with ⟨_,rfl⟩ | ⟨n,z⟩
  ·exact aB
  ·rw[aH fun q=>n (hc.ap j i c (a,h) z e q)]
   exact hc.at_ j c z
 ·rcases old j c z with ⟨n1,rfl⟩ | ⟨n1,z⟩ <;> rcases old k d y with ⟨n2,rfl⟩ | ⟨n2,y⟩
  ·rw[n1,n2]
  ·exact absurd (hc.ap k i d (a,h) y e q.symm) n2
  ·exact absurd (hc.ap j i c (a,h) z e q) n1
  ·exact hc.ap j k c d z y q
theorem dH.keep (hc:dH H L)(g:∀(j:Nat)(c:Addr×HO),L[j]? =some c->H' c.1=some c.2):dH H' L:=⟨g,hc.ap⟩
theorem dH.same (hc:dH H L)(g:Same H H'):dH H' L:=hc.keep fun j c z=>g _ _ (hc.at_ j c z)
theorem dH.snoc {h:HO}(hc:dH H L)(n:H a=none):dH (upd H a h) (L++[(a,h)]):=by
 have old:∀(j:Nat)(c:Addr×HO),(L++[(a,h)])[j]? =some c->(j=L.length/\c=(a,h))\/L[j]? =some c:=fun j c z=>by
  by_cases k:j<L.length
  ·rw[YF k]at z
   exact .inr z
  ·rw [Yv (by omega)]at z
   have hj:j-L.length=0:=by
    cases e:j-L.length with
    |zero=>rfl
    |succ m=>rw[e]at z;cases z
   rw[hj]at z
   exact .inl ⟨by omega,(Yo z).symm⟩
 have ne:∀(j:Nat)(c:Addr×HO),L[j]? =some c->c.1≠a:=fun j c z q=>by have:=hc.at_ j c z;rw[q,n]at this;cases this
 refine⟨fun j c z=>?_,fun j k c d z y q=>?_⟩
 ·rcases old j c z with ⟨_,rfl⟩ | z
  ·exact aB
  ·rw[aH (ne j c z)];exact hc.at_ j c z
 ·rcases old j c z with ⟨n1,rfl⟩ | z <;> rcases old k d y with ⟨n2,rfl⟩ | y
  ·rw[n1,n2]
  ·exact absurd q.symm (ne k d y)
  ·exact absurd q (ne j c z)
  ·exact hc.ap j k c d z y q
open PyProof.Rows in
structure RS where
 (ps:List PS) (ow:List (Key×V)) (bo:List Int) (sa he:List (List Int)) (ev:List (Nat×Nat×Str))
inductive gP (H:Hp):List V->List (Nat×Nat×Str)->Prop
 |nil:gP H [] []
 |cons {t:Addr} {e:Nat×Nat×Str} {vs:List V} {es:List (Nat×Nat×Str)}:H t=some (.tup [.int ((e.1:Nat):Int),.int ((e.2.1:Nat):Int),.str e.2.2])->gP H vs es->gP H (.ref t::vs) (e::es)
theorem gP.imp (g:∀x xs,H x=some (.tup xs)->H' x=some (.tup xs)):∀{vs:List V}{es:List (Nat×Nat×Str)},gP H vs es->gP H' vs es
 |_,_,.nil=> .nil
 |_,_,.cons a r=> .cons (g _ _ a) (r.imp g)
theorem gP.snoc {e:Nat×Nat×Str}(a:H t=some (.tup [.int ((e.1:Nat):Int),.int ((e.2.1:Nat):Int),.str e.2.2])):∀{vs:List V}{es:List (Nat×Nat×Str)},gP H vs es->gP H (vs++[.ref t]) (es++[e])
 |_,_,.nil=> .cons a .nil
 |_,_,.cons b r=> .cons b (r.snoc a)
theorem gP.len:∀{vs:List V}{es:List (Nat×Nat×Str)},gP H vs es->vs.length=es.length
 |_,_,.nil=>rfl
 |_,_,.cons _ r=>YT (·+1) r.len
abbrev rF (PL OW BO SA HE EV:Addr):List (Str×V):=[("posts",.ref PL),("owners",.ref OW),("borne",.ref BO),("sayings",.ref SA),("hearings",.ref HE),("happened",.ref EV)]
def lsC (as:List Addr)(xs:List (List Int)):List (Addr×HO):=List.zipWith (fun a x=>(a,HO.lst (x.map V.int))) as xs
structure Rw where
 (dx PL OW BO SA HE EV:Addr) (ps sas hes:List Addr) (evs:List V) (op:Own)
abbrev jY (C r:Addr)(w:Rw)(R:RS):List (Addr×HO):=(r,.ins C w.dx (rF w.PL w.OW w.BO w.SA w.HE w.EV))::(w.PL,.lst (w.ps.map V.ref))::(w.OW,.dK R.ow)::(w.BO,.lst (R.bo.map V.int))::(w.SA,.lst (w.sas.map V.ref))::(w.HE,.lst (w.hes.map V.ref))::(w.EV,.lst w.evs)::(lsC w.sas R.sa++lsC w.hes R.he)
structure cF (C:Addr)(A:Cs)(H:Hp)(r:Addr)(R:RS)(o:Own)(w:Rw):Prop where
 cs:dH H (jY C r w R)
 po:iK A H w.ps R.ps w.op
 ev:gP H w.evs R.ev
 l1:w.sas.length=R.ps.length
 l2:R.sa.length=R.ps.length
 l3:w.hes.length=R.ps.length
 l4:R.he.length=R.ps.length
 lp:R.ps.length<=5
 dj:∀x,w.op x->∀(j:Nat)(c:Addr×HO),(jY C r w R)[j]? =some c->c.1≠x
 inc:∀x,(w.op x\/∃(j:Nat)(c:Addr×HO),(jY C r w R)[j]? =some c/\c.1=x)->o x
 al:∀x,o x->H x≠none
def jA (C:Addr)(A:Cs)(H:Hp)(r:Addr)(R:RS)(o:Own):Prop:=∃w,cF C A H r R o w
section
variable {R:RS}{w:Rw}
theorem cF.move (h:cF C A H r R o w)(g:∀x v,H x=some v->(o x\/isT v)->H' x=some v):cF C A H' r R o w:=
 ⟨h.cs.keep fun j c z=>g _ _ (h.cs.at_ j c z) (.inl (h.inc _ (.inr ⟨j,c,z,rfl⟩))),h.po.move fun x v e z=>g x v e (z.imp_left fun y=>h.inc x (.inl y)),h.ev.imp fun x xs e=>g x _ e (.inr ⟨_,rfl⟩),h.l1,h.l2,h.l3,h.l4,h.lp,h.dj,h.inc,fun x hx=>by
  cases e:H x with
  |none=>exact absurd e (h.al x hx)
  |some v=>rw[g x v e (.inl hx)];simp⟩
theorem cF.same (h:cF C A H r R o w)(g:Same H H'):cF C A H' r R o w:=h.move fun x v e _=>g x v e
theorem cF.er (h:cF C A H r R o w):H r=some (.ins C w.dx (rF w.PL w.OW w.BO w.SA w.HE w.EV)):=h.cs.at_ 0 _ rfl
theorem cF.ePL (h:cF C A H r R o w):H w.PL=some (.lst (w.ps.map V.ref)):=h.cs.at_ 1 _ rfl
theorem cF.eOW (h:cF C A H r R o w):H w.OW=some (.dK R.ow):=h.cs.at_ 2 _ rfl
theorem cF.eBO (h:cF C A H r R o w):H w.BO=some (.lst (R.bo.map V.int)):=h.cs.at_ 3 _ rfl
theorem cF.eSA (h:cF C A H r R o w):H w.SA=some (.lst (w.sas.map V.ref)):=h.cs.at_ 4 _ rfl
theorem cF.eHE (h:cF C A H r R o w):H w.HE=some (.lst (w.hes.map V.ref)):=h.cs.at_ 5 _ rfl
theorem cF.eEV (h:cF C A H r R o w):H w.EV=some (.lst w.evs):=h.cs.at_ 6 _ rfl
theorem cF.pl (h:cF C A H r R o w):w.ps.length=R.ps.length:=h.po.len
theorem cF.at (h:cF C A H r R o w)(hi:R.ps[i]? =some S):∃p oi,w.ps[i]? =some p/\cA A H p S oi:=by
 have hl:i<w.ps.length:=by rw[h.pl];exact(Yf.mp hi).1
 have hp:w.ps[i]? =some w.ps[i]:=Yb hl
 obtain⟨S',oi,e,hP,_⟩:=h.po.get hp
 rw[hi]at e
 cases e
 exact⟨_,oi,hp,hP⟩
end
theorem a0K {v:HO}(e:L[k]? =some (a,v))(h:(L.set k (a,v'))[j]? =some c):∃c',L[j]? =some c'/\c'.1=c.1:=by
 have hk:k<L.length:=(Yf.mp e).1
 rw[XB]at h
 by_cases q:k=j
 ·rw[if_pos q,if_pos hk]at h
  cases h
  exact⟨(a,v),q▸e,rfl⟩
 ·rw[if_neg q]at h
  exact⟨c,h,rfl⟩
theorem cF.put {R R':RS}{w w':Rw}{v:HO}(h:cF C A H r R o w)(e:(jY C r w R)[k]? =some (a,v))(nT:¬ isT v)(eL:jY C r w' R'=(jY C r w R).set k (a,v'))(ep:R'.ps=R.ps)(e1:w'.ps=w.ps)(e2:w'.op=w.op)(e3:w'.sas.length=w.sas.length)(e4:R'.sa.length=R.sa.length)(e5:w'.hes.length=w.hes.length)(e6:R'.he.length=R.he.length)(ev:gP H w'.evs R'.ev):cF C A (upd H a v') r R' o w'/\Mv o H o (upd H a v'):=by
 have ea:=h.cs.at_ k _ e
 have oa:o a:=h.inc a (.inr ⟨k,_,e,rfl⟩)
 have kT:∀x u,H x=some u->isT u->upd H a v' x=some u:=fun x u eu t=>by
  rw[aH]
  ·exact eu
  ·rintro rfl
   rw[ea]at eu
   cases eu
   exact nT t
 refine⟨⟨eL▸h.cs.put e v',?_,ev.imp fun x xs ex=>kT x _ ex ⟨_,rfl⟩,by rw[e3,ep];exact h.l1,by rw[e4,ep];exact h.l2,by rw[e5,ep];exact h.l3,by rw[e6,ep];exact h.l4,by rw[ep];exact h.lp,?_,?_,?_⟩,b6X ea oa nT⟩
 ·rw[e1,e2,ep]
  refine h.po.move fun x u eu z=>?_
  rcases z with z | z
  ·rw[aH fun q=>h.dj x z k _ e q.symm];exact eu
  ·exact kT x u eu z
 ·rw[e2,eL]
  intro x hx j c hc q
  obtain⟨c',h1,h2⟩:=a0K e hc
  exact h.dj x hx j c' h1 (h2.trans q)
 ·rw [e2,eL]
  rintro x (hx | ⟨j,c,hc,q⟩)
  ·exact h.inc x (.inl hx)
  ·obtain⟨c',h1,h2⟩:=a0K e hc
   exact h.inc x (.inr ⟨j,c',h1,h2.trans q⟩)
 ·intro x hx
  by_cases q:x=a
  ·rw[q,aB];simp
  ·rw[aH q];exact h.al x hx
theorem cF.step {R:RS}{w:Rw}(h:cF C A H r R o w)(hp:w.ps[i]? =some p):∃S oi,R.ps[i]? =some S/\cA A H p S oi/\(∀x,oi x->o x)/\∀H' oi' S',Mv oi H oi' H'->cA A H' p S' oi'->∃o' op',cF C A H' r { R with ps:=R.ps.set i S' } o' { w with op:=op' }/\Mv o H o' H':=by
 obtain⟨S,oi,eS,hP,le,back⟩:=h.po.get hp
 refine⟨S,oi,eS,hP,fun x hx=>h.inc x (.inl (le x hx)),fun H' oi' S' m hP'=>?_⟩
 obtain⟨op',po',m'⟩:=back H' oi' S' m hP'
 have nop:∀(j:Nat)(c:Addr×HO),(jY C r w R)[j]? =some c->¬ w.op c.1:=fun j c hc z=>h.dj _ z j c hc rfl
 have len:(R.ps.set i S').length=R.ps.length:=Xp
 have ko:cJ o H H':=fun x v e z=>m'.1 x v e (z.imp_left fun y q=>y (h.inc x (.inl q)))
 refine⟨Or2 (fun x=>o x/\¬ w.op x) op',op',⟨h.cs.keep fun j c hc=>m'.1 _ _ (h.cs.at_ j c hc) (.inl (nop j c hc)),po',h.ev.imp fun x xs e=>m'.1 x _ e (.inr ⟨_,rfl⟩),h.l1.trans len.symm,h.l2.trans len.symm,h.l3.trans len.symm,h.l4.trans len.symm,by show (R.ps.set i S').length<=5;rw[len];exact h.lp,?_,?_,?_⟩,ko,?_⟩
 ·intro x hx j c hc q
  rcases m'.2 x hx with z | z
  ·exact h.dj x z j c hc q
  ·have:=h.cs.at_ j c hc
   rw[q,z]at this
   cases this
 ·rintro x (hx | ⟨j,c,hc,q⟩)
  ·exact .inr hx
  ·exact .inl ⟨h.inc x (.inr ⟨j,c,hc,q⟩),q▸nop j c hc⟩
 ·rintro x (hx | hx)
  ·cases e:H x with
   |none=>exact absurd e (h.al x hx.1)
   |some v=>rw[m'.1 x v e (.inl hx.2)];simp
  ·exact po'.al x hx
 ·rintro x (hx | hx)
  ·exact .inl hx.1
  ·exact(m'.2 x hx).imp (fun z=>h.inc x (.inl z)) id
theorem b0I {b:Addr}{xs:List V}{m:List ((Int ⊕ Str)×V)}{v:HO}(h:SqL K H a xs)(e:H b=some (.dK m)):SqL K (upd H b v) a xs:=by
 rcases h with (h | ⟨o,h⟩) | h
 ·exact .inl (.inl ((aH fun q=>by rw[q,e]at h;cases h).trans h))
 ·exact .inl (.inr ⟨o,(aH fun q=>by rw[q,e]at h;cases h).trans h⟩)
 ·exact .inr h
theorem c0E {m:List ((Int ⊕ Str)×V)}:¬ isT (.dK m):=fun ⟨_,z⟩=>by cases z
theorem a8G {x:List Int}(ha:as[i]? =some a)(hx:xs[i]? =some x):(lsC as xs)[i]? =some (a,HO.lst (x.map V.int)):=by
 unfold lsC
 rw[List.getElem?_zipWith,ha,hx]
theorem pK (h:as.length=xs.length):(lsC as xs).length=xs.length:=by
 unfold lsC
 rw[List.length_zipWith,h,Nat.min_self]
theorem cF.sa_at {R:RS}{w:Rw}{xs:List Int}(h:cF C A H r R o w)(hi:R.sa[i]? =some xs):∃a,w.sas[i]? =some a/\(jY C r w R)[i+7]? =some (a,.lst (xs.map V.int)):=by
 have hl:i<R.sa.length:=(Yf.mp hi).1
 have e1:=h.l1
 have e2:=h.l2
 have ha:w.sas[i]? =some (w.sas[i]'(by omega)):=Yb (by omega)
 refine⟨_,ha,?_⟩
 show (lsC w.sas R.sa++lsC w.hes R.he)[i]? =_
 rw[YF (by rw[pK (by omega)];exact hl)]
 exact a8G ha hi
theorem cF.he_at {R:RS}{w:Rw}{xs:List Int}(h:cF C A H r R o w)(hi:R.he[i]? =some xs):∃a,w.hes[i]? =some a/\(jY C r w R)[R.ps.length+i+7]? =some (a,.lst (xs.map V.int)):=by
 have hl:i<R.he.length:=(Yf.mp hi).1
 have e1:=h.l1
 have e2:=h.l2
 have e3:=h.l3
 have e4:=h.l4
 have ha:w.hes[i]? =some (w.hes[i]'(by omega)):=Yb (by omega)
 refine⟨_,ha,?_⟩
 show (lsC w.sas R.sa++lsC w.hes R.he)[R.ps.length+i]? =_
 have ll:=pK (as:=w.sas) (xs:=R.sa) (by omega)
 rw[Yv (by omega),show R.ps.length+i-(lsC w.sas R.sa).length=i by omega]
 exact a8G ha hi
theorem a1F (ha:as[i]? =some a):lsC as (xs.set i y)=(lsC as xs).set i (a,HO.lst (y.map V.int)):=by
 unfold lsC
 apply List.ext_getElem?
 intro j
 rw[List.getElem?_zipWith,XB,XB,List.getElem?_zipWith]
 by_cases q:i=j
 ·subst q
  have hl:i<as.length:=(Yf.mp ha).1
  rw[if_pos rfl,if_pos rfl,ha,List.length_zipWith]
  by_cases z:i<xs.length
  ·rw[if_pos z,if_pos (by omega)]
  ·rw[if_neg z,if_neg (by omega)]
 ·rw[if_neg q,if_neg q]
theorem cF.say {R:RS}{w:Rw}{xs:List Int}(h:cF C A H r R o w)(hi:R.sa[i]? =some xs)(ha:w.sas[i]? =some a):cF C A (upd H a (.lst (xs.map V.int++[.int b]))) r { R with sa:=R.sa.set i (xs++[b]) } o w/\Mv o H o (upd H a (.lst (xs.map V.int++[.int b]))):=by
 obtain⟨a',ha',e⟩:=h.sa_at hi
 rw[ha]at ha'
 cases ha'
 have hl:i<R.sa.length:=(Yf.mp hi).1
 have e1:=h.l1
 have e2:=h.l2
 have em:xs.map V.int++[V.int b]=(xs++[b]).map V.int:=by rw[Ym];rfl
 have eL:lsC w.sas (R.sa.set i (xs++[b]))++lsC w.hes R.he=(lsC w.sas R.sa++lsC w.hes R.he).set i (a,.lst ((xs++[b]).map V.int)):=by
  rw[List.set_append_left _ _ (by rw[pK (by omega)];exact hl),a1F ha]
 rw[em]
 refine h.put (k:=i+7) (w':=w) e b2A ?_ rfl rfl rfl rfl Xp rfl rfl h.ev
 show (r,_)::(w.PL,_)::(w.OW,_)::(w.BO,_)::(w.SA,_)::(w.HE,_)::(w.EV,_)::(lsC w.sas (R.sa.set i (xs++[b]))++lsC w.hes R.he)=_
 rw[eL]
 rfl
theorem cF.hrd {R:RS}{w:Rw}{xs:List Int}(h:cF C A H r R o w)(hi:R.he[i]? =some xs)(ha:w.hes[i]? =some a):cF C A (upd H a (.lst (xs.map V.int++[.int b]))) r { R with he:=R.he.set i (xs++[b]) } o w/\Mv o H o (upd H a (.lst (xs.map V.int++[.int b]))):=by
 obtain⟨a',ha',e⟩:=h.he_at hi
 rw[ha]at ha'
 cases ha'
 have hl:i<R.he.length:=(Yf.mp hi).1
 have e1:=h.l1
 have e2:=h.l2
 have em:xs.map V.int++[V.int b]=(xs++[b]).map V.int:=by rw[Ym];rfl
 have ll:=pK (as:=w.sas) (xs:=R.sa) (by omega)
 have eL:lsC w.sas R.sa++lsC w.hes (R.he.set i (xs++[b]))=(lsC w.sas R.sa++lsC w.hes R.he).set (R.ps.length+i) (a,.lst ((xs++[b]).map V.int)):=by
  rw[List.set_append_right _ _ (by omega),show R.ps.length+i-(lsC w.sas R.sa).length=i by omega,a1F ha]
 rw[em]
 refine h.put (k:=R.ps.length+i+7) (w':=w) e b2A ?_ rfl rfl rfl rfl rfl rfl Xp h.ev
 show (r,_)::(w.PL,_)::(w.OW,_)::(w.BO,_)::(w.SA,_)::(w.HE,_)::(w.EV,_)::(lsC w.sas R.sa++lsC w.hes (R.he.set i (xs++[b])))=_
 rw[eL]
 rfl
theorem cF.bear {R:RS}{w:Rw}(h:cF C A H r R o w):cF C A (upd H w.BO (.lst (R.bo.map V.int++[.int b]))) r { R with bo:=R.bo++[b] } o w/\Mv o H o (upd H w.BO (.lst (R.bo.map V.int++[.int b]))):=by
 have em:R.bo.map V.int++[V.int b]=(R.bo++[b]).map V.int:=by rw[Ym];rfl
 rw[em]
 exact h.put (k:=3) (w':=w) rfl b2A rfl rfl rfl rfl rfl rfl rfl rfl h.ev
theorem cF.happen {R:RS}{w:Rw}{e:Nat×Nat×Str}(h:cF C A H r R o w)(et:H t=some (.tup [.int ((e.1:Nat):Int),.int ((e.2.1:Nat):Int),.str e.2.2])):cF C A (upd H w.EV (.lst (w.evs++[.ref t]))) r { R with ev:=R.ev++[e] } o { w with evs:=w.evs++[.ref t] }/\Mv o H o (upd H w.EV (.lst (w.evs++[.ref t]))):=
 h.put (k:=6) (w':={ w with evs:=w.evs++[.ref t] }) rfl b2A rfl rfl rfl rfl rfl rfl rfl rfl (h.ev.snoc et)
def a5V (C:Addr)(A:Cs)(NP:Addr):Sp:=fun vs H Q E=>∃r R o w k,vs= [.ref r,.int k]/\cF C A H r R o w/\(∀(i:Nat) p,k=((i:Nat):Int)->w.ps[i]? =some p->Q (.ref p) H)/\(¬ (0<=k/\k<((R.ps.length:Nat):Int))->∀H',Same H H'->False)
def yF (C:Addr)(A:Cs):Sp:=fun vs H Q _=>∃r R o w,vs= [.ref r]/\cF C A H r R o w/\∀l,H l=none->Q (.ref l) (upd H l (.lst w.evs))
def a5Y (K:W.Frag)(C:Addr)(A:Cs)(NP NF NN:Addr):Sp:=fun vs H Q E=>∃r R o w k n a ds,vs= [.ref r,.int k,.int n,.ref a]/\cF C A H r R o w/\SqL K H a (ds.map V.int)/\ds.length<=500/\R.ow.length<=900/\(∀S∈R.ps,S.wt.length<900)/\
 (¬ (0<=k/\k<((R.ps.length:Nat):Int))->∀H',Same H H'->False)/\((0<=k/\k<((R.ps.length:Nat):Int))->¬ oK n ds->∀H',Same H H'->False)/\
 (∀ (i:Nat) S,k=((i:Nat):Int)->R.ps[i]? =some S->oK n ds->∃j:Int,(gQ R.ow (.inl n)).getD (.int ((i:Nat):Int))= .int j/\(j≠((i:Nat):Int)->∀H',Same H H'->False)/\
  (j=((i:Nat):Int)->∀H' o',jA C A H' r { R with ps:=R.ps.set i { S with wt:=S.wt++[(n.toNat,ds)] },ow:=putK R.ow (.inl n) (.int ((i:Nat):Int)) } o'->Mv o H o' H'->Q .non H'))
def evt (t n:Nat)(w:Str):List (Nat×Nat×Str):=if w="" then [] else [(t,n,w)]
def rK (R R':RS)(n:Nat)(S:PS)(b:Int)(x y:List Int):RS:=
 { R' with ps:=R'.ps.set n (aY S b).2,sa:=R'.sa.set n (x++[bC S]),he:=R'.he.set n (y++[b]),ev:=R'.ev++evt R.bo.length n (aY S b).1 }
def bG (R:RS)(hs:List Int):Nat->RS
 |0=>R
 | n+1=>match R.ps[n]?,hs[n]?,R.sa[n]?,R.he[n]? with
  |some S,some b,some x,some y=>rK R (bG R hs n) n S b x y
  |_,_,_,_=>bG R hs n
def iC (R:RS)(hs:List Int)(b:Int):RS:={ bG R hs R.ps.length with bo:=R.bo++[b] }
theorem jV {R:RS}{hs:List Int}{x:List Int}(e1:R.ps[n]? =some S)(e2:hs[n]? =some b)(e3:R.sa[n]? =some x)(e4:R.he[n]? =some y):bG R hs (n+1)=rK R (bG R hs n) n S b x y:=by
 show (match R.ps[n]?,hs[n]?,R.sa[n]?,R.he[n]? with
  |some S,some b,some x,some y=>rK R (bG R hs n) n S b x y
  |_,_,_,_=>bG R hs n)=_
 rw[e1,e2,e3,e4]
theorem gK (R:RS)(hs:List Int):∀n:Nat,(bG R hs n).bo=R.bo/\(bG R hs n).ow=R.ow/\(bG R hs n).ps.length=R.ps.length/\(bG R hs n).sa.length=R.sa.length/\(bG R hs n).he.length=R.he.length/\(∀j,n<=j->(bG R hs n).ps[j]? =R.ps[j]?/\(bG R hs n).sa[j]? =R.sa[j]?/\(bG R hs n).he[j]? =R.he[j]?)/\(bG R hs n).ev.length<=R.ev.length+n
 |0=>⟨rfl,rfl,rfl,rfl,rfl,fun _ _=>⟨rfl,rfl,rfl⟩,Yd _⟩
 | n + 1 => by
  obtain⟨h1,h2,h3,h4,h5,h6,h7⟩:=gK R hs n
  have go :(bG R hs (n+1)=bG R hs n)\/∃S b x y,bG R hs (n+1)=rK R (bG R hs n) n S b x y:=by
   cases e1:R.ps[n]? with
   |none=>left;show (match R.ps[n]?,hs[n]?,R.sa[n]?,R.he[n]? with | some S,some b,some x,some y=>rK R (bG R hs n) n S b x y | _,_,_,_=>bG R hs n)=_;rw[e1]
   | some S=>
    cases e2:hs[n]? with
    |none=>left;show (match R.ps[n]?,hs[n]?,R.sa[n]?,R.he[n]? with | some S,some b,some x,some y=>rK R (bG R hs n) n S b x y | _,_,_,_=>bG R hs n)=_;rw[e1,e2]
    | some b=>
     cases e3:R.sa[n]? with
     |none=>left;show (match R.ps[n]?,hs[n]?,R.sa[n]?,R.he[n]? with | some S,some b,some x,some y=>rK R (bG R hs n) n S b x y | _,_,_,_=>bG R hs n)=_;rw[e1,e2,e3]
     | some x=>
      cases e4:R.he[n]? with
      |none=>left;show (match R.ps[n]?,hs[n]?,R.sa[n]?,R.he[n]? with | some S,some b,some x,some y=>rK R (bG R hs n) n S b x y | _,_,_,_=>bG R hs n)=_;rw[e1,e2,e3,e4]
      |some y=>exact .inr ⟨S,b,x,y,jV e1 e2 e3 e4⟩
  rcases go with e | ⟨S,b,x,y,e⟩
  ·rw[e];exact⟨h1,h2,h3,h4,h5,fun j hj=>h6 j (by omega),by omega⟩
  ·rw [e]
   refine⟨h1,h2,?_,?_,?_,fun j hj=>⟨?_,?_,?_⟩,?_⟩
   ·show ((bG R hs n).ps.set n _).length=_;rw[Xp];exact h3
   ·show ((bG R hs n).sa.set n _).length=_;rw[Xp];exact h4
   ·show ((bG R hs n).he.set n _).length=_;rw[Xp];exact h5
   ·show ((bG R hs n).ps.set n _)[j]? =_;rw[XO (by omega)];exact(h6 j (by omega)).1
   ·show ((bG R hs n).sa.set n _)[j]? =_;rw[XO (by omega)];exact(h6 j (by omega)).2.1
   ·show ((bG R hs n).he.set n _)[j]? =_;rw[XO (by omega)];exact(h6 j (by omega)).2.2
   ·show ((bG R hs n).ev++evt _ _ _).length<=_
    rw[Yc]
    have:(evt R.bo.length n (aY S b).1).length<=1:=by unfold evt;split <;> simp
    omega
def rE (ns:List Int)(b:Int):Prop:=b∈ns/\∀z∈ns,b<=z
structure SzR (R:RS):Prop where
 bo:R.bo.length<900
 sa:∀x∈R.sa,x.length<900
 he:∀x∈R.he,x.length<900
 ev:R.ev.length<900
 up:∀S∈R.ps,S.up.length<900
def a5W (K:W.Frag)(C:Addr)(A:Cs)(spc:Addr->List V->Hp->VK->Prop):Sp:=fun vs H Q _=>∃r R o w f,∃hs:Int->Nat->Int,vs= [.ref r,.ref f]/\cF C A H r R o w/\R.ps≠ []/\SzR R/\(∀b,rE (R.ps.map bC) b->(∀i,i<R.ps.length->∀H1,Same H H1->FnE K H1 f/\∀Q1:VK,(∀H2,Same H1 H2->Q1 (.int (hs b i)) H2)->spc f [.int ((i:Nat):Int),.int ((R.bo.length:Nat):Int),.int b] H1 Q1)/\(∀i,hs b i=0\/hs b i=1)/\
 ∀H' o',jA C A H' r (iC R ((List.range R.ps.length).map (hs b)) b) o'->Mv o H o' H'->Q (.int b) H')
theorem mX {L2:List (Addr×HO)}{c0:Addr×HO}(z:(L1++c0::L2)[j]? =some c):(j=L1.length/\c=c0)\/(j<L1.length/\(L1++L2)[j]? =some c)\/(L1.length<j/\(L1++L2)[j-1]? =some c):=by
 by_cases k:j<L1.length
 ·rw[YF k]at z
  exact .inr (.inl ⟨k,by rw[YF k];exact z⟩)
 ·rw[Yv (by omega)]at z
  cases e:j-L1.length with
  |zero=>rw[e]at z;exact .inl ⟨by omega,(Yo z).symm⟩
  |succ m=>rw[e]at z;exact .inr (.inr ⟨by omega,by rw[Yv (by omega),show j-1-L1.length=m by omega];exact z⟩)
theorem dH.ins {L2:List (Addr×HO)}{h:HO}(hc:dH H (L1++L2))(n:H a=none):dH (upd H a h) (L1++(a,h)::L2):=by
 have ne:∀(j:Nat)(c:Addr×HO),(L1++L2)[j]? =some c->c.1≠a:=fun j c z q=>by have:=hc.at_ j c z;rw[q,n]at this;cases this
 refine⟨fun j c z=>?_,fun j k c d z y q=>?_⟩
 ·rcases mX z with ⟨_,rfl⟩ | ⟨_,z⟩ | ⟨_,z⟩
  ·exact aB
  ·rw[aH (ne _ c z)];exact hc.at_ _ c z
  ·rw[aH (ne _ c z)];exact hc.at_ _ c z
 ·rcases mX z with ⟨n1,rfl⟩ | ⟨n1,z⟩ | ⟨n1,z⟩ <;> rcases mX y with ⟨n2,rfl⟩ | ⟨n2,y⟩ | ⟨n2,y⟩
  ·omega
  ·exact absurd q.symm (ne _ d y)
  ·exact absurd q.symm (ne _ d y)
  ·exact absurd q (ne _ c z)
  ·exact hc.ap _ _ c d z y q
  ·have:=hc.ap _ _ c d z y q;omega
  ·exact absurd q (ne _ c z)
  ·have:=hc.ap _ _ c d z y q;omega
  ·have:=hc.ap _ _ c d z y q;omega
structure Mk0 (A:Cs)(H0:Hp)(a:Addr)(H:Hp)(L:List (Addr×HO))(ps:List Addr)(Ss:List PS)(op:Own):Prop where
 cs:dH H L
 po:iK A H ps Ss op
 dj:∀x,op x->∀(j:Nat)(c:Addr×HO),L[j]? =some c->c.1≠x
 nw:∀(j:Nat)(c:Addr×HO),L[j]? =some c->c.1=a\/H0 c.1=none
 npo:∀x,op x->H0 x=none
 kp:∀x u,x≠a->H0 x=some u->H x=some u
 ha:H a≠none
theorem uD {c0:Addr×HO}(z:[c0][j]? =some c):j=0/\c=c0:=by
 cases j with
 |zero=>exact⟨rfl,(Yo z).symm⟩
 |succ j=>cases z
theorem Mk0.base {v:HO}(e:H a=some v):Mk0 A H a H [(a,v)] [] [] (fun _=>False):=by
 refine⟨⟨fun j c z=>?_,fun i j c d z y q=>?_⟩,fun x hx=>hx.elim,fun x hx=>hx.elim,fun j c z=>?_,fun x hx=>hx.elim,fun x u _ q=>q,by rw[e];simp⟩
 ·obtain⟨_,rfl⟩:=uD z
  exact e
 ·rw[(uD z).1,(uD y).1]
 ·obtain⟨_,rfl⟩:=uD z
  exact .inl rfl
section
variable {q:Addr}{L2:List (Addr×HO)}{ps:List Addr}{Ss:List PS}{op:Own}{v:HO}
theorem Mk0.non0 (h:Mk0 A H0 a H L ps Ss op)(n:H q=none):H0 q=none:=by
 cases e:H0 q with
 |none=>rfl
 | some u=>
  by_cases z:q=a
  ·exact absurd (z▸n) h.ha
  ·rw[h.kp q u z e]at n;cases n
theorem Mk0.ins (h:Mk0 A H0 a H (L1++L2) ps Ss op)(n:H q=none):Mk0 A H0 a (upd H q v) (L1++(q,v)::L2) ps Ss op:=by
 have nq:=h.non0 n
 refine⟨h.cs.ins n,h.po.same (aJ n v),fun x hx j c z y=>?_,fun j c z=>?_,h.npo,fun x u hx e=>?_,?_⟩
 ·rcases mX z with ⟨_,rfl⟩ | ⟨_,z⟩ | ⟨_,z⟩
  ·exact h.po.al x hx (y▸n)
  ·exact h.dj x hx _ c z y
  ·exact h.dj x hx _ c z y
 ·rcases mX z with ⟨_,rfl⟩ | ⟨_,z⟩ | ⟨_,z⟩
  ·exact .inr nq
  ·exact h.nw _ c z
  ·exact h.nw _ c z
 ·exact aJ n v _ _ (h.kp x u hx e)
 ·have:=h.ha
  cases e:H a with
  |none=>exact absurd e this
  |some u=>rw[aJ n v _ _ e];simp
theorem Mk0.put (h:Mk0 A H0 a H ((a,v)::L) ps Ss op)(nT:¬ isT v):Mk0 A H0 a (upd H a v') ((a,v')::L) ps Ss op:=by
 have e:H a=some v:=h.cs.at_ 0 _ rfl
 have old:∀(j:Nat)(c:Addr×HO),((a,v')::L)[j]? =some c->∃c',((a,v)::L)[j]? =some c'/\c'.1=c.1:=fun j c z=>by
  cases j with
  |zero=>cases z;exact⟨_,rfl,rfl⟩
  |succ j=>exact⟨c,z,rfl⟩
 refine⟨h.cs.put (i:=0) rfl v',h.po.move fun x u eu z=>?_,fun x hx j c z y=>?_,fun j c z=>?_,h.npo,fun x u hx eu=>?_,by rw[aB];simp⟩
 ·rw [aH fun y=>?_]
  ·exact eu
  ·rcases z with z | z
   ·exact h.dj x z 0 _ rfl y.symm
   ·rw[y,e]at eu;cases eu;exact nT z
 ·obtain⟨c',z1,z2⟩:=old j c z
  exact h.dj x hx j c' z1 (z2.trans y)
 ·obtain⟨c',z1,z2⟩:=old j c z
  rw[<-z2]
  exact h.nw j c' z1
 ·rw[aH hx];exact h.kp x u hx eu
theorem Mk0.post {w:HO}(h:Mk0 A H0 a H L ps Ss op)(hp:H p=none)(hdp:H dp=none)(hP:cA A H' p S o)(hin:∀x,o x->x=p\/upd (upd H dp (.own p)) p w x=none)(hk:∀x u,x≠p->upd (upd H dp (.own p)) p w x=some u->H' x=some u):Mk0 A H0 a H' L (ps++[p]) (Ss++[S]) (Or2 op o):=by
 obtain⟨lw,g⟩:=b1M (Same.refl H) hp hdp hP hin hk
 have no:∀x,o x->H x=none:=fun x hx=>lw.fr x hx
 refine⟨h.cs.same g,h.po.snoc hP g no,fun x hx j c z y=>?_,h.nw,fun x hx=>?_,fun x u hx e=>g _ _ (h.kp x u hx e),?_⟩
 ·rcases hx with hx | hx
  ·exact h.dj x hx j c z y
  ·have:=h.cs.at_ j c z
   rw[y,no x hx]at this;cases this
 ·rcases hx with hx | hx
  ·exact h.npo x hx
  ·exact h.non0 (no x hx)
 ·have:=h.ha
  cases e:H a with
  |none=>exact absurd e this
  |some u=>rw[g _ _ e];simp
end
theorem wN {q:Addr}(n:Nat)(h:as.length=n):lsC (as++[q]) (List.replicate (n+1) [])=lsC as (List.replicate n [])++[(q,.lst [])]:=by
 unfold lsC
 rw[List.replicate_succ',List.zipWith_append (by rw[Yu];exact h)]
 rfl
def R0 (ms:List (Int×Int))(v:Int):RS:={ ps:=ms.map fun m=>S0 m.1.toNat m.2.toNat v.toNat,ow:=[],bo:=[],sa:=List.replicate ms.length [],he:=List.replicate ms.length [],ev:=[] }
theorem Mk0.fin {PL OW BO SA HE EV:Addr}{ps sas hes:List Addr}{op:Own}{ms:List (Int×Int)}{v:Int}(h:Mk0 A H0 a H (jY C a ⟨dx,PL,OW,BO,SA,HE,EV,ps,sas,hes, [],op⟩ (R0 ms v)) ps (R0 ms v).ps op)(l1:sas.length=ms.length)(l2:hes.length=ms.length)(l5:ms.length<=5):∃o,jA C A H a (R0 ms v) o/\∀x,o x->x=a\/H0 x=none:=by
 have lp:(R0 ms v).ps.length=ms.length:=Ya ..
 refine⟨fun x=>op x\/∃(j:Nat)(c:Addr×HO),(jY C a ⟨dx,PL,OW,BO,SA,HE,EV,ps,sas,hes, [],op⟩ (R0 ms v))[j]? =some c/\c.1=x,⟨_,h.cs,h.po,.nil,by rw[lp];exact l1,by rw[lp];exact Yu ..,by rw[lp];exact l2,by rw[lp];exact Yu ..,by rw[lp];exact l5,h.dj,fun x hx=>hx,fun x hx=>?_⟩,fun x hx=>?_⟩
 ·rcases hx with hx | ⟨j,c,z,rfl⟩
  ·exact h.po.al x hx
  ·rw[h.cs.at_ j c z];simp
 ·rcases hx with hx | ⟨j,c,z,rfl⟩
  ·exact .inr (h.npo x hx)
  ·exact h.nw j c z
def xT (H:Hp)(cl:Addr)(ms:List (Int×Int)):Prop:=∃ts:List Addr,H cl=some (.lst (ts.map V.ref))/\ts.length=ms.length/\∀(i:Nat)(t:Addr)(m:Int×Int),ts[i]? =some t->ms[i]? =some m->H t=some (.tup [.int m.1,.int m.2])
theorem xT.keep {cl:Addr}{ms:List (Int×Int)}(h:xT H cl ms)(g:∀x u,(x=cl\/isT u)->H x=some u->H' x=some u):xT H' cl ms:=by
 obtain⟨ts,h1,h2,h3⟩:=h
 exact⟨ts,g _ _ (.inl rfl) h1,h2,fun i t m z y=>g _ _ (.inr ⟨_,rfl⟩) (h3 i t m z y)⟩
def a5X (C:Addr)(A:Cs)(NP:Addr):Sp:=fun vs H Q E=>∃a dx cl v ms,vs= [.ref a,.ref cl,.int v]/\H a=some (.ins C dx [])/\xT H cl ms/\ms.length<=500/\
 (((1<=ms.length/\ms.length<=5)/\∀m∈ms,a4N m.1 m.2 v)->∀H' o,jA C A H' a (R0 ms v) o->(∀x,o x->x=a\/H x=none)->(∀x u,x≠a->H x=some u->H' x=some u)->Q .non H')/\
 (¬ ((1<=ms.length/\ms.length<=5)/\∀m∈ms,a4N m.1 m.2 v)->∀H':Hp,(∀x u,x≠a->H x=some u->H' x=some u)->False)
def BmK (K:W.Frag)(bm:Addr):Prop:=W.nsIn K mainGlobals "__builtins__"=some (some (.ref bm))/\bm≠builtinsNs/\bm≠mainGlobals/\∃sl,K.lookup bm=some ⟨.type "module",some builtinsNs,.plain,sl⟩
theorem BmK.bm {h:Heap}{bm:Addr}(X:K.In h)(G:h.Ns mainGlobals mg)(z:BmK K bm):Bm K mg bm:=by
 obtain⟨a,b,c,sl,d⟩:=z
 exact⟨W.mg_of X G a,b,c,_,d,rfl,rfl,rfl⟩
theorem a6O (wf:Wf S):bC S=0\/bC S=1:=by
 have hw:=wf.now
 have sy:bC S=bC S:=rfl
 conv at sy=>rhs;unfold bC
 rw[sy]
 cases en:S.now with
 | speaks n ds k=>
  rw[en]at hw
  dsimp only
  rw[Yh,Yb hw.2.2.1]
  exact(lW hw.1).wbits _ (YR _)
 |tlR n ds v c=>dsimp only;unfold eQ;split <;> first | exact .inl rfl | exact .inr rfl
 |tlS v c=>dsimp only;unfold eQ;split <;> first | exact .inl rfl | exact .inr rfl
 |free k=>dsimp only;(repeat' split) <;> first | exact .inl rfl | exact .inr rfl
 |flag l m=>exact .inl rfl
 |reads h=>exact .inr rfl
 |settles m=>exact .inr rfl
 |rests l=>exact .inr rfl
 |off=>exact .inr rfl
abbrev b9U:Stmt:=(gR Zdo).getD 2 (.Pass ⟨0,0,0,0⟩)
abbrev lamT:Expr:=match b9U with
 |.Return (some (.Call _ (l::_) _ _)) _=>l
 |_=> .Name "" ⟨0,0,0,0⟩
abbrev ipT:Arguments:=match lamT with
 |.Lambda a _ _ _=>a
 |_=>⟨[], [],none, [], [],none, []⟩
abbrev ibT:Expr:=match lamT with
 |.Lambda _ b _ _=>b
 |e=>e
abbrev b7J:Scope:=match lamT with
 |.Lambda _ _ s _=>s
 |_=>bY b9U
abbrev a7B:Pos:=match lamT with
 |.Lambda _ _ _ p=>p
 |_=>⟨0,0,0,0⟩
abbrev iqT:Str:=("Rail.turn":Str)++".<locals>."++"<lambda>"
theorem clT {L c:Addr}{f:Addr}(h:(PyProof.Rows.envOfC "Rail.turn" (bY Zdo) L f cd).cells.lookup (Str.ofString "wrong")=some c):closureFor b7J (PyProof.Rows.envOfC "Rail.turn" (bY Zdo) L f cd)=pure [(Str.ofString "wrong",c)]:=by
 have e:(PyProof.Rows.envOfC "Rail.turn" (bY Zdo) L f cd).cells.lookup (Str.ofString "wrong")=some (L+1):=rfl
 rw[e]at h
 cases h
 rfl
theorem scT:vD ["post","turn","bit","wrong"] ["post","turn","bit"] ["wrong"] b7J:=⟨rfl,rfl,rfl,by decide +kernel,rfl,by decide +kernel,by decide +kernel,by decide +kernel⟩
def xR (H:Hp)(f:Addr)(ws:List Int):Prop:=∃c c' wl,H f=some (nQ f iqT ipT ibT b7J [("wrong",c)] c')/\H c'=some (jK c' iqT)/\H c=some (lF c (.ref wl))/\H wl=some (.lst (ws.map V.int))
def wrB (ws:List Int)(i b:Int):Int:=if i∈ws then 1-b else b
def b9N:Addr->List V->Hp->VK->Prop:=fun f vs H Q=>∃(ws:List Int)(i t b:Int),vs= [.int i,.int t,.int b]/\xR H f ws/\∀H',Same H H'->Q (.int (wrB ws i b)) H'
theorem xR.same {f:Addr}(h:xR H f ws)(g:Same H H'):xR H' f ws:=by
 obtain⟨c,c',wl,h1,h2,h3,h4⟩:=h
 exact⟨c,c',wl,g _ _ h1,g _ _ h2,g _ _ h3,g _ _ h4⟩
theorem a6P {P:Program}{w:World}{base:Heap}:a2F P w K mg base 2 b9N:=by
 rintro f A outer s H us vs Q hr e0 r ⟨ws,i,t,b,rfl,⟨c,c',wl,h1,h2,h3,h4⟩,q⟩
 refine b2C (k:=1) (N:=["post","turn","bit","wrong"]) (ws:=[.ref wl]) scT hr e0 h1 h2 ⟨rfl,by simp,.cons h3 .nil⟩ rfl r (fun pm ctv=> .of_eq ?_) fun hr'=>⟨_,(bT (cH (aW b3B (dv 0) (dv 3) rfl) (aU gZ aG (dv 2)) (dv 2))),?_⟩
 ·rcases r with _ | ⟨r1,r⟩
  rcases r with _ | ⟨r2,r⟩
  rcases r with _ | ⟨r3,r⟩
  cases r
  rfl
 have dc:wl≠c:=fun z=>by rw[z,h3]at h4;cases h4
 have hd:lO H [c] wl=some (.lst (ws.map V.int)):=by rw[dD (by simpa using dc)];exact h4
 refine⟨fun v H'=>v= .int (wrB ws i b)/\H'=lO H [c],?_,?_⟩
 ·refine⟨ws,(show SqA K (lO H [c]) wl (ws.map V.int) from .inl (SqL.of hd)),?_⟩
  unfold wrB
  by_cases hm:i∈ws
  ·rw[Ye hm,if_pos hm]
   exact⟨rfl,rfl⟩
  ·rw[Yi hm,if_neg hm]
   exact⟨rfl,rfl⟩
 ·rintro v H' ⟨rfl,rfl⟩
  refine q _ fun z o e=>?_
  show xO H (lO H [c]) [c] z=some o
  by_cases hz:z∈ [c]
  ·rw[a2A hz];exact e
  ·rw[gO hz,dD hz];exact e
def MvP (P:Addr)(o:Own)(H:Hp)(o':Own)(H':Hp):Prop:=Mv (Or2 o fun x=>x=P) H (Or2 o' fun x=>x=P) H'
def jX (P:Addr)(o:Own)(H:Hp):Prop:=¬ o P/\∃ps,H P=some (.tbl ps)/\TriplesOk ps.toList/\(codeAmong a7B ps.toList=none\/∃c',codeAmong a7B ps.toList=some (.ref c')/\H c'=some (jK c' iqT)/\¬ o c')
theorem jX.tabP (h:jX P o H):a4M P a7B iqT H:=by
 obtain⟨_,ps,h1,h2,h3⟩:=h
 exact⟨ps,h1,h2,h3.imp id fun ⟨c',a,b,_⟩=>⟨c',a,b⟩⟩
theorem jX.same (h:jX P o H)(g:Same H H'):jX P o H':=by
 obtain⟨n,ps,h1,h2,h3⟩:=h
 exact⟨n,ps,g _ _ h1,h2,h3.imp id fun ⟨c',a,b,c⟩=>⟨c',a,g _ _ b,c⟩⟩
theorem jX.mv (h:jX P o H)(m:Mv o H o' H'):jX P o' H':=by
 obtain⟨n,ps,h1,h2,h3⟩:=h
 refine⟨fun z=>(m.2 _ z).elim n fun y=>(by rw[h1]at y;cases y),ps,m.1 _ _ h1 (.inl n),h2,h3.imp id fun ⟨c',a,b,c⟩=>⟨c',a,m.1 _ _ b (.inl c),fun z=>(m.2 _ z).elim c fun y=>by rw[b]at y;cases y⟩⟩
theorem jX.mv2 {ox:Own}(h:jX P (Or2 o ox) H)(m:Mv o H o' H'):jX P (Or2 o' ox) H':=by
 obtain⟨n,ps,h1,h2,h3⟩:=h
 refine⟨fun z=>?_,ps,m.1 _ _ h1 (.inl fun z=>n (.inl z)),h2,h3.imp id fun ⟨c',a,b,c⟩=>⟨c',a,m.1 _ _ b (.inl fun z=>c (.inl z)),fun z=>?_⟩⟩
 ·rcases z with z | z
  ·rcases m.2 _ z with y | y
   ·exact n (.inl y)
   ·rw[h1]at y;cases y
  ·exact n (.inr z)
 ·rcases z with z | z
  ·rcases m.2 _ z with y | y
   ·exact c (.inl y)
   ·rw[b]at y;cases y
  ·exact c (.inr z)
theorem jX.own {o2:Own}(h:jX P o H)(g:∀x,o2 x->o x):jX P o2 H:=by
 obtain⟨n,ps,h1,h2,h3⟩:=h
 exact⟨fun z=>n (g _ z),ps,h1,h2,h3.imp id fun ⟨c',a,b,c⟩=>⟨c',a,b,fun z=>c (g _ z)⟩⟩
theorem b3X {qs:Array Value}:¬ isT (.tbl qs):=fun ⟨_,z⟩=>by cases z
def wrL (ws:List Int)(n:Nat)(b:Int):List Int:=(List.range n).map fun i=>wrB ws ((i:Nat):Int) b
def a5U (C:Addr)(A:Cs)(NP P:Addr):Sp:=fun vs H Q E=>∃r R o w wl ws ox,vs= [.ref r,.ref wl]/\H wl=some (.lst (ws.map V.int))/\ws.length<=500/\cF C A H r R o w/\R.ps≠ []/\SzR R/\jX P (Or2 o ox) H/\(∀x,ox x->H x≠none)/\
 ((∀x∈ws,0<=x/\x<((R.ps.length:Nat):Int))->∀b H' o',rE (R.ps.map bC) b->jA C A H' r (iC R (wrL ws R.ps.length b) b) o'->jX P (Or2 o' ox) H'->MvP P o H o' H'->Q (.int b) H')/\
 (¬ (∀x∈ws,0<=x/\x<((R.ps.length:Nat):Int))->∀H',Same H H'->False)
theorem b9B {i:Int}(h:b=0\/b=1):wrB ws i b=0\/wrB ws i b=1:=by
 unfold wrB
 by_cases z:i∈ws
 ·rw[if_pos z];omega
 ·rw[if_neg z];exact h
theorem cF.says {R:RS}{w:Rw}(h:cF C A H r R o w)(hb:b∈R.ps.map bC):b=0\/b=1:=by
 obtain⟨S,hS,rfl⟩:=YA.mp hb
 obtain⟨i,hi,e⟩:=Y5 hS
 obtain⟨p,oi,_,hP⟩:=h.at (i:=i) (S:=S) (by rw[Yb hi,e])
 exact a6O hP.wf
def tZ:Sp:=fun vs H Q _=>∃a b c,vs= [.int a,.int b,.int c]/\Q (.int c) H
def b9M (a:Addr):Addr->List V->Hp->VK->Prop:=fun f vs H Q=>f=a/\∃x y z:Int,vs= [.int x,.int y,.int z]/\Q (.int z) H
theorem a3C {P:Program}{w:World}{base:Heap}{ps:List Str}(G:fQ P w K mg base CX0 k a d ps tZ)(B:Binds K d ps []):a2F P w K mg base k (b9M a):=by
 rintro f A outer s H us vs Q hr e0 r ⟨rfl,x,y,z,rfl,q⟩
 have hsp:tZ [.int x,.int y,.int z] H Q E0:=⟨x,y,z,rfl,q⟩
 have KX:K.In s.heap:=e0.mod.kin.keeps fun b o e=>(e0.bs b o e).1
 have hb:=B s us KX (by rw[YS,<-r.length];exact G.len _ _ _ _ hsp)
 rw[YS]at hb
 exact G.run A outer s H ⟨us, []⟩ us _ Q E0 hr e0 hb r hsp
def xN (R:RS):Int:=if (0:Int)∈R.ps.map bC then 0 else 1
theorem a3R {ns:List Int}(h:∀z∈ns,z=0\/z=1)(l:rE ns b):b=if (0:Int)∈ns then 0 else 1:=by
 by_cases c:(0:Int)∈ns
 ·rw[if_pos c]
  have:=l.2 0 c
  rcases h b l.1 with z | z <;> omega
 ·rw[if_neg c]
  rcases h b l.1 with z | z
  ·exact absurd (z▸l.1) c
  ·exact z
def b9L (R:RS):RS:=iC R ((List.range R.ps.length).map fun _=>xN R) (xN R)
def gA (R:RS):Nat->RS
 |0=>R
 |n+1=>b9L (gA R n)
theorem vX (R:RS):∀n:Nat,(gA R n).ps.length=R.ps.length
 |0=>rfl
 |n+1=>((gK (gA R n) _ _).2.2.1).trans (vX R n)
def b0N (C:Addr)(A:Cs):Sp:=fun vs H Q _=>∃(r:Addr)(R:RS)(o:Own)(w:Rw)(n:Nat),vs= [.ref r,.int ((n:Nat):Int),.non]/\cF C A H r R o w/\R.ps≠ []/\n<=500/\(∀k,k<=n->SzR (gA R k))/\
 ∀l H1 o',jA C A H1 r (gA R n) o'->Mv o H o' H1->H1 l=none->Q (.ref l) (upd H1 l (.lst (((List.range n).map fun k=>xN (gA R k)).map V.int)))
theorem cF.says54 {R:RS}{w:Rw}(h:cF C A H r R o w)(hb:b∈R.ps.map bC):b=0\/b=1:=by
 obtain⟨S,hS,rfl⟩:=YA.mp hb
 obtain⟨i,hi,e⟩:=Y5 hS
 obtain⟨p,oi,_,hP⟩:=h.at (i:=i) (S:=S) (by rw[Yb hi,e])
 exact a6O hP.wf
def b3Q (a:Addr):Addr->List V->Hp->VK->Prop:=fun f vs H Q=>b9N f vs H Q\/b9M a f vs H Q
theorem b1A {P:Program}{w:World}{base:Heap}{ps:List Str}(G:fQ P w K mg base CX0 2 a d ps tZ)(B:Binds K d ps []):a2F P w K mg base 2 (b3Q a):=by
 rintro f A outer s H us vs Q hr e0 r (h | h)
 ·exact a6P f A outer s H us vs Q hr e0 r h
 ·exact a3C G B f A outer s H us vs Q hr e0 r h
def a6M (C:Addr)(A:Cs)(NP:Addr)(g:PS->Hp->VK->Prop):Sp:=fun vs H Q E=>∃r R o w k,vs= [.ref r,.int k]/\cF C A H r R o w/\(∀(i:Nat) S,k=((i:Nat):Int)->R.ps[i]? =some S->g S H Q)/\(¬ (0<=k/\k<((R.ps.length:Nat):Int))->∀H',Same H H'->False)
def b7M:PS->Hp->VK->Prop:=fun S H Q=>S.wt.length<=900/\∀l xs H',H l=none->Same H H'->H' l=some (.lst xs)->dW H H' xs S.wt->Q (.ref l) H'
def c3F:PS->Hp->VK->Prop:=fun S H Q=>S.up.length<=900/\∀l xs H',H l=none->Same H H'->H' l=some (.lst xs)->dW H H' xs S.up->Q (.ref l) H'
open Vd
def bI (b:Bool):Int:=if b=true then 1 else 0
def a4L (m v:Int)(ps:List (Int×Int)):Prop:=2<=m/\m<=5/\(v=1\/v=3\/v=5)/\∀p∈ps,0<=p.1/\p.1<m/\0<=p.2/\p.2<9+v
def wrP (ps:List (Int×Int))(i p:Nat):Bool:=decide ((((i:Nat):Int),((p:Nat):Int))∈ps)
def wdS:Nat->Str
 |0=>"fault"
 |1=>"refused"
 |_=>"taken"
abbrev jdF (t:Addr)(w:Str)(n:Int):List (Str×V):=[("tail",.ref t),("verdict",.str w),("noughts",.int n)]
structure lV (C1 C2 CJ:Addr)(H:Hp)(j t:Addr)(v i p:Nat)(s:Nat×Nat)(w:Str)(n:Int):Prop where
 jd:∃dx,H j=some (.ins CJ dx (jdF t w n))
 tl:∃o k,iJ C1 C2 H t v (decide (i=0)) o k/\(s.1=0->o=p/\k=s.2)
 w0:s.1=0->w=(if p<9+v then ("more":Str) else fK v p s.2)
 w1:s.1≠0->w="fault"/\n=7-(((p:Nat):Int)+1-((s.1:Nat):Int))
theorem lV.same {j:Addr}{p:Nat}{w:Str}{n:Int}(h:lV C1 C2 CJ H j t v i p s w n)(g:Same H H'):lV C1 C2 CJ H' j t v i p s w n:=
 ⟨let ⟨dx,e⟩:=h.jd;⟨dx,g _ _ e⟩,let ⟨o,k,a,b⟩:=h.tl;⟨o,k,a.same g,b⟩,h.w0,h.w1⟩
theorem lV.ne {j:Addr}{p:Nat}{w:Str}{n:Int}(h:lV C1 C2 CJ H j t v i p s w n){t':Addr}{v' o:Nat}{b:Bool}(g:iJ C1 C2 H t' v' b o k):j≠t':=fun z=>by
 obtain⟨dx,e⟩:=h.jd
 obtain⟨C,dy,_,e'⟩:=g
 rw[z,e']at e
 injection e with e
 injection e with _ _ e
 cases e
def b8Q (H H':Hp)(j t:Addr):Prop:=∀x o,x≠j->x≠t->H x=some o->H' x=some o
def a2Z (K:W.Frag)(C:Addr):Sp:=fun vs H Q E=>∃(m v:Int)(l:Addr)(qs:List Addr)(ps:List (Int×Int)),vs= [.int m,.int v,.ref l]/\SqL K H l (qs.map V.ref)/\gW K H qs ps/\(a4L m v ps->Q .non H)/\(¬ a4L m v ps->False)
def a6E (CJ:Addr):Sp:=fun vs H Q _=>∃(j t dx:Addr),vs= [.ref j,.ref t]/\H j=some (.ins CJ dx [])/\∀H',H'=upd H j (.ins CJ dx (jdF t "more" 0))->Q .non H'
def a6D (C1 C2 CJ:Addr):Sp:=fun vs H Q _=>∃j t v i p s w n,vs= [.ref j]/\lV C1 C2 CJ H j t v i p s w n/\p<9+v/\s.1<=p/\Q (.int (bI (sdB s.1 i p))) H
def a6F (C1 C2 CJ:Addr):Sp:=fun vs H Q _=>∃j t v i p s w n,∃b:Bool,vs= [.ref j,.int (bI b)]/\lV C1 C2 CJ H j t v i p s w n/\1<=v/\p<9+v/\s.1<=p/\∀H' w' n',lV C1 C2 CJ H' j t v i (p+1) (nx1 i p b s) w' n'->b8Q H H' j t->Q .non H'
def yE (K:W.Frag)(C:Addr):Sp:=fun vs H Q E=>∃(m v:Int)(l:Addr)(qs:List Addr)(ps:List (Int×Int)),vs= [.int m,.int v,.ref l]/\SqL K H l (qs.map V.ref)/\gW K H qs ps/\
 (∀mm vv:Nat,m=((mm:Nat):Int)->v=((vv:Nat):Int)->a4L m v ps->∀p H',H p=none->Same H H'->H' p=some (.lst ((vd mm vv (wrP ps)).map fun x=>V.str (wdS x)))->Q (.ref p) H')/\(¬ a4L m v ps->∀H',Same H H'->False)
structure Jds (C1 C2 CJ:Addr)(H:Hp)(js ts:List Addr)(v:Nat)(P:Nat->Nat)(F:Nat->Nat×Nat):Prop where
 at_:∀i j t,js[i]? =some j->ts[i]? =some t->∃w n,lV C1 C2 CJ H j t v i (P i) (F i) w n
theorem wG {l:List Addr}(h:l.Nodup){b:Addr}(ha:l[i]? =some a)(hb:l[k]? =some b)(hne:i≠k):a≠b:=fun z=>by
 subst z
 obtain⟨h1,e1⟩:=Yf.mp ha
 obtain⟨h2,e2⟩:=Yf.mp hb
 have w:=List.pairwise_iff_getElem.mp h
 rcases Nat.lt_trichotomy i k with z | z | z
 ·exact absurd (e1.trans e2.symm) (w i k h1 h2 z)
 ·exact hne z
 ·exact absurd (e2.trans e1.symm) (w k i h2 h1 z)
theorem Jds.same {P:Nat->Nat}(h:Jds C1 C2 CJ H js ts v P F)(g:Same H H'):Jds C1 C2 CJ H' js ts v P F:=⟨fun i j t a b=>let ⟨w,n,z⟩:=h.at_ i j t a b;⟨w,n,z.same g⟩⟩
theorem Jds.ext {P P':Nat->Nat}{F':Nat->Nat×Nat}(h:Jds C1 C2 CJ H js ts v P F)(e:∀i,i<js.length->P i=P' i/\F i=F' i):Jds C1 C2 CJ H js ts v P' F':=⟨fun i j t a b=>by
 obtain⟨w,n,z⟩:=h.at_ i j t a b
 obtain⟨e1,e2⟩:=e i (Yf.mp a).1
 rw[<-e1,<-e2]
 exact⟨w,n,z⟩⟩
theorem Jds.hear {C1 C2 CJ:Addr}{H H':Hp}{js ts:List Addr}{v:Nat}{P P':Nat->Nat}{F F':Nat->Nat×Nat}(h:Jds C1 C2 CJ H js ts v P F)(nj:js.Nodup)(nt:ts.Nodup){i:Nat}{j t:Addr}(hj:js[i]? =some j)(ht:ts[i]? =some t)(b:b8Q H H' j t)
  {w:Str} {n:Int} (hn:lV C1 C2 CJ H' j t v i (P' i) (F' i) w n) (e:∀k,k≠i->P' k=P k/\F' k=F k):Jds C1 C2 CJ H' js ts v P' F':=⟨fun k j' t' a c=>by
 by_cases hk:k=i
 ·subst hk
  rw[a]at hj;cases hj
  rw[c]at ht;cases ht
  exact⟨w,n,hn⟩
 ·obtain⟨w',n',z⟩:=h.at_ k j' t' a c
  obtain⟨w0,n0,y⟩:=h.at_ i j t hj ht
  obtain⟨e1,e2⟩:=e k hk
  rw[e1,e2]
  obtain⟨o1,k1,tz,f1⟩:=z.tl
  obtain⟨o2,k2,ty,f2⟩:=y.tl
  refine⟨w',n',⟨?_,⟨o1,k1,?_,f1⟩,z.w0,z.w1⟩⟩
  ·obtain⟨dx,ex⟩:=z.jd
   exact⟨dx,b _ _ (wG nj a hj hk) (z.ne ty) ex⟩
  ·obtain⟨C,dy,hC,ey⟩:=tz
   exact⟨C,dy,hC,b _ _ (fun q=>(y.ne ⟨C,dy,hC,ey⟩) q.symm) (wG nt c ht hk) ey⟩⟩
theorem b4K (b:Bool):bI b=0\/bI b=1:=by cases b <;> simp[bI]
theorem a7W {f:Nat->Bool}{x:Int}(h1:x∈(List.range m).map fun i=>bI (f i))(h2:∀z∈(List.range m).map fun i=>bI (f i),x<=z):x=bI ((List.range m).all f):=by
 obtain⟨i,hi,rfl⟩:=YA.mp h1
 cases e:(List.range m).all f
 ·obtain⟨k,hk,hf⟩:=List.all_eq_false.mp e
  have g:=h2 _ (YA.mpr ⟨k,hk,rfl⟩)
  have hk0:f k=false:=by simpa using hf
  have g':bI (f i)<=bI (f k):=g
  rw[hk0]at g'
  rcases b4K (f i) with z | z
  ·rw[z];rfl
  ·rw[z]at g'
   exact absurd g' (by decide)
 ·have:=YQ.mp e i hi
  rw[this]
theorem lV.new {j:Addr}(h:H j=some (.ins CJ dx (jdF t "more" 0)))(g:iJ C1 C2 H t v (decide (i=0)) 0 0):lV C1 C2 CJ H j t v i 0 (0,0) "more" 0:=
 ⟨⟨dx,h⟩,⟨0,0,g,fun _=>⟨rfl,rfl⟩⟩,fun _=>(if_pos (by omega)).symm,fun z=>absurd rfl z⟩
theorem lV.word {j:Addr}{w:Str}{n:Int}(h:lV C1 C2 CJ H j t v i (9+v) s w n):w=wdS (wd v s):=by
 by_cases c:s.1=0
 ·rw[h.w0 c,if_neg (Y3 _)]
  unfold fK wd
  rw[if_neg (Y3 _),if_neg (not_not_intro c)]
  by_cases z:v / 2<s.2
  ·rw[if_pos z,if_pos z];rfl
  ·rw[if_neg z,if_neg z];rfl
 ·rw[(h.w1 c).1]
  unfold wd
  rw[if_pos c]
  rfl
theorem Jds.snoc (h:Jds C1 C2 CJ H js ts v (fun _=>0) (fun _=>(0,0)))(hl:js.length=ts.length)(g:Same H H'){j:Addr}(e:H' j=some (.ins CJ dx (jdF t "more" 0)))(et:iJ C1 C2 H' t v (decide (js.length=0)) 0 0):
  Jds C1 C2 CJ H' (js++[j]) (ts++[t]) v (fun _=>0) (fun _=>(0,0)):=⟨fun i j' t' a b=>by
 by_cases c:i<js.length
 ·rw[YF c]at a
  rw[YF (by omega)]at b
  obtain⟨w,n,z⟩:=h.at_ i j' t' a b
  exact⟨w,n,z.same g⟩
 ·have hi:i=js.length:=by
   have:=(Yf.mp a).1
   rw[Yc,Yt]at this
   omega
  subst hi
  rw[Yv (Yd _),Xz]at a
  rw[Yv (by omega),<-hl,Xz]at b
  cases (Yo a)
  cases (Yo b)
  exact⟨_,_,lV.new e et⟩⟩
theorem qK {l:List Addr}(h:l.Nodup)(hx:x∉l):(l++[x]).Nodup:=by
 refine List.nodup_append.mpr ⟨h,Y0.mpr ⟨Xd,List.nodup_nil⟩,fun a ha b hb=>?_⟩
 rw[Yn.mp hb]
 exact fun z=>hx (z▸ha)
theorem oX {l:List Addr}{H4:Hp}(h:∀y∈l,H y=none/\H' y≠none)(g:Same H' H4)(hx:H4 x=none):x∉l:=fun z=>by
 obtain⟨_,h2⟩:=h x z
 exact h2 (g.none hx)
theorem qU {l:List Addr}{H4:Hp}(h:∀y∈l,H y=none/\H' y≠none)(g:Same H' H4)(h1:H x=none)(h2:H4 x≠none):∀y∈l++[x],H y=none/\H4 y≠none:=fun y hy=>by
 rcases YI.mp hy with z | z
 ·refine⟨(h y z).1,fun e=>(h y z).2 (g.none e)⟩
 ·rw[Yn.mp z];exact⟨h1,h2⟩
theorem pD {α:Type}{o:Option α}{x:α}(h:o=some x):o≠none:=fun z=>by rw[h]at z;cases z
theorem b2K (l w:Bool):(if w=true then 1-bI l else bI l)=bI (Vd.hd l w):=by cases l <;> cases w <;> rfl
theorem b0C (v o n:Nat):fK v o n≠("fault":Str):=by
 unfold fK
 split
 ·decide
 ·split <;> decide
abbrev FB (P:Program)(w:World)(K:W.Frag)(mg:Str->Option Value)(base:Heap)(CX:CXT)(k:Nat)(nm:Str)(a:Addr)(d:FuncData)(ps:List Str)(sp:Sp):Prop:=fQ P w K mg base CX k a d ps sp/\Binds K d ps []/\W.keepIn K (.ref a)=true/\mg nm=some (.ref a)
abbrev MB (P:Program)(w:World)(K:W.Frag)(mg:Str->Option Value)(base:Heap)(CX:CXT)(k:Nat)(a:Addr)(d:FuncData)(ps:List Str)(sp:Sp):Prop:=fQ P w K mg base CX k a d ps sp/\Binds K d ps []
abbrev FL (K:W.Frag)(f:Addr)(n q:Str)(st:Stmt)(oc:Value)(od:Option Addr)(kV dc pm:Value)(an:Option Addr)(cd ct:Value)(sl:Array (Option Value)):Prop:=K.lookup f=some ⟨oc,od,.func (W.fnOf n q (lN st) (gR st) (bY st) .none kV dc pm an cd ct),sl⟩
structure GFm (K:W.Frag)(mg:Str->Option Value)(nm:Str)(st:Stmt)(f:Addr)(d:FuncData):Prop where
 F:Fun K nm nm st f d
 m:mg nm=some (.ref f)
def GF (K:W.Frag)(mg:Str->Option Value)(nm:Str)(st:Stmt)(f:Addr):Prop:=∃d,GFm K mg nm st f d
def MF (K:W.Frag)(C:Addr)(x q:Str)(st:Stmt)(f:Addr):Prop:=W.findIn K (.ref C) x=some (some (.ref f))/\∃d,Fun K x q st f d
theorem gf_mk {h:Heap}{nm:Str}{st:Stmt}{f:Addr}(X:K.In h)(G:h.Ns mainGlobals mg)(a:W.nsIn K mainGlobals nm=some (some (.ref f)))(l:FL K f nm nm st oc od kV dc pm an cd ct sl)(c:W.codeIn K cd nm=true)(k:W.keepIn K (.ref f)=true):GF K mg nm st f:=⟨_,zJ l c k,W.mg_of X G a⟩
theorem mf_mk {x q:Str}{st:Stmt}{f:Addr}(a:W.findIn K (.ref C) x=some (some (.ref f)))(l:FL K f x q st oc od kV dc pm an cd ct sl)(c:W.codeIn K cd q=true)(k:W.keepIn K (.ref f)=true):MF K C x q st f:=⟨a,_,zJ l c k⟩
def MFc (K:W.Frag)(C:Addr)(x q:Str)(st:Stmt)(f c0:Addr):Prop:=W.findIn K (.ref C) x=some (some (.ref f))/\∃d,Fun K x q st f d/\d.code= .ref c0
theorem mfc_mk {c0:Addr}{x q:Str}{st:Stmt}{f:Addr}(a:W.findIn K (.ref C) x=some (some (.ref f)))(l:FL K f x q st oc od kV dc pm an (.ref c0) ct sl)(c:W.codeIn K (.ref c0) q=true)(k:W.keepIn K (.ref f)=true):MFc K C x q st f c0:=⟨a,_,zJ l c k,rfl⟩
abbrev HB (x q:Str)(st:Stmt)(ps:List Str):Prop:=∀(kV doc pm:Value)(an:Option Addr)(cdv ct:Value)(us:List Value),us.length=ps.length->bindArgs (W.fnOf x q (lN st) (gR st) (bY st) .none kV doc pm an cdv ct) ⟨us, []⟩=pure (ps.zip us)
theorem bi0 (h:bindArgs d ⟨[], []⟩=pure []):∀us:List Value,us.length=([]:List Str).length->bindArgs d ⟨us, []⟩=pure (([]:List Str).zip us) | [],_=>h
theorem bi1 {a:Str}(h:∀u,bindArgs d ⟨[u], []⟩=pure [(a,u)]):∀us:List Value,us.length= [a].length->bindArgs d ⟨us, []⟩=pure ([a].zip us):=by
 intro us hl
 rcases us with _ | ⟨u,_ | ⟨w_,l_⟩⟩
 ·simp at hl
 ·exact h u
 ·simp at hl
theorem bi2 {a b:Str}(h:∀u v,bindArgs d ⟨[u,v], []⟩=pure [(a,u),(b,v)]):∀us:List Value,us.length= [a,b].length->bindArgs d ⟨us, []⟩=pure ([a,b].zip us):=by
 intro us hl
 rcases us with _ | ⟨u,_ | ⟨v,_ | ⟨w_,l_⟩⟩⟩
 ·simp at hl
 ·simp at hl
 ·exact h u v
 ·simp at hl
theorem bi3 {a b c:Str}(h:∀u v x,bindArgs d ⟨[u,v,x], []⟩=pure [(a,u),(b,v),(c,x)]):∀us:List Value,us.length= [a,b,c].length->bindArgs d ⟨us, []⟩=pure ([a,b,c].zip us):=by
 intro us hl
 rcases us with _ | ⟨u,_ | ⟨v,_ | ⟨x,_ | ⟨w_,l_⟩⟩⟩⟩
 ·simp at hl
 ·simp at hl
 ·simp at hl
 ·exact h u v x
 ·simp at hl
theorem bi4 {a b c e:Str}(h:∀u v x y,bindArgs d ⟨[u,v,x,y], []⟩=pure [(a,u),(b,v),(c,x),(e,y)]):∀us:List Value,us.length= [a,b,c,e].length->bindArgs d ⟨us, []⟩=pure ([a,b,c,e].zip us):=by
 intro us hl
 rcases us with _ | ⟨u,_ | ⟨v,_ | ⟨x,_ | ⟨y,_ | ⟨w_,l_⟩⟩⟩⟩⟩
 ·simp at hl
 ·simp at hl
 ·simp at hl
 ·simp at hl
 ·exact h u v x y
 ·simp at hl
theorem sco {N ps:List Str}{sc:Scope}(h1:sc.kind= .function/\sc.isCoroutine=false/\sc.isGenerator=false)(h2:N.Nodup/\N.take ps.length=ps/\(∀x∈ps,sc.names.lookup x=some .local\/sc.names.lookup x=some .cell)/\∀y∈sc.names,y.2≠ .free):gY N ps sc:=⟨h1.1,h1.2.1,h1.2.2,h2.1,h2.2.1,h2.2.2.1,h2.2.2.2⟩
section
variable {P:Program}{w:World}{base:Heap}{CX:CXT}{x q:Str}{st:Stmt}{f:Addr}{fd:FuncData}{ps:List Str}{sp:Sp}
theorem mbM (N:List Str)(F:Fun K x q st f fd)(g:gY N ps (bY st)->fQ P w K mg base CX k f fd ps sp)(S:gY N ps (bY st):=by exact sco ⟨rfl,rfl,rfl⟩ (by decide +kernel))
  (hb:HB x q st ps:=by first | exact fun _ _ _ _ _ _=>bi1 fun _=>rfl | exact fun _ _ _ _ _ _=>bi2 fun _ _=>rfl | exact fun _ _ _ _ _ _=>bi3 fun _ _ _=>rfl | exact fun _ _ _ _ _ _=>bi4 fun _ _ _ _=>rfl | exact fun _ _ _ _ _ _=>bi5 fun _ _ _ _ _=>rfl | exact fun _ _ _ _ _ _=>bi6 fun _ _ _ _ _ _=>rfl | exact fun _ _ _ _ _ _=>bi7 fun _ _ _ _ _ _ _=>rfl | exact fun _ _ _ _ _ _=>bi0 rfl):MB P w K mg base CX k f fd ps sp:=⟨g S,F.binds hb⟩
theorem fbM (N:List Str)(F:GFm K mg x st f fd)(g:gY N ps (bY st)->fQ P w K mg base CX k f fd ps sp)(S:gY N ps (bY st):=by exact sco ⟨rfl,rfl,rfl⟩ (by decide +kernel))
  (hb:HB x x st ps:=by first | exact fun _ _ _ _ _ _=>bi1 fun _=>rfl | exact fun _ _ _ _ _ _=>bi2 fun _ _=>rfl | exact fun _ _ _ _ _ _=>bi3 fun _ _ _=>rfl | exact fun _ _ _ _ _ _=>bi4 fun _ _ _ _=>rfl | exact fun _ _ _ _ _ _=>bi5 fun _ _ _ _ _=>rfl | exact fun _ _ _ _ _ _=>bi6 fun _ _ _ _ _ _=>rfl | exact fun _ _ _ _ _ _=>bi7 fun _ _ _ _ _ _ _=>rfl | exact fun _ _ _ _ _ _=>bi0 rfl):FB P w K mg base CX k x f fd ps sp:=⟨g S,F.F.binds hb,F.F.kp,F.m⟩
end
section
variable (P:Program)(w:World)(mg:Str->Option Value)(base:Heap){CA:Cs}
variable {ZbD Zd7 ZcO Zdb ZbZ Ziy Zg9 Zg7 Ziz ZiB ZhN ZiA Zj8 ZfF Zgh ZiC Zha ZfH Zgi Zd3 Zdu Zd2 ZdI ZdH Zfg ZdT Zge ZcE ZbC ZdS Zdt Zda Zes Zc7 ZdE Ze3 Zet ZdW ZdV Zer Ze4 Ze6 Zd4 Zez ZdX Zdp ZdJ ZeC Zds Zd0 Zc8 ZbY ZbX Zg8 ZdF Ze9 Zj7 Zex ZfM Zgk ZhO Zgj ZhM ZfG Ze5 Zfb Ze7 Zd5 ZeA ZdY Zdq ZdK ZeD ZfK ZfL Zdr ZdL ZeE Ze8 ZeB Zd6 ZdZ Zfc Zfa ZdG Zfe Zfd Zc9 Zff ZfO Zd1 ZfN Zey Zgg Zev Zew Zeu ZhP Zg4 Zg5 ZfE Zgf Zg6 Zmt ZmK ZmF ZlL ZmI Zdx ZbV ZdR ZkL Zaj Zn:Addr}
variable {ZiV Zh4 ZfI Zgp ZeH Zk5 ZjK ZjI Zk6 Zk8 Zkn Zk7 ZlN Zh6 ZiU Zk9 ZjL Zh8 ZiW Zh0 ZgB ZhZ Zhi Zhh ZjD ZjE ZiR ZgC Zfl ZjC ZgA Zgo ZiE Zgl Zhd Zhe ZiF ZhT ZhS ZiD Zhm Zjt Zh1 ZiL ZhU Zgw Zhj ZiO Zgz ZhX Zgm ZeG ZeF ZjJ Zhf Zjw ZlM ZiJ Zkj ZiY Zko ZiX Zkm Zh7 Zhn Zjy Zju Zh2 ZiM ZhV Zgx Zhk ZiP Zkh Zki Zgy Zhl ZiQ Zjv ZiN Zh3 ZhW Zjz Zjx Zhg ZjB ZjA Zgn Zhb Zkl ZhY Zkk ZiK ZiT ZiH ZiI ZiG Zkp ZjF ZjG Zh5 ZiS ZjH ZmG:FuncData}
variable {Zk3 ZlB ZlE Zmd Zmz ZmM Zma Zmr Zk4 Zmb ZmE Zms ZmD Zmp Zmc Zmo ZmA Zir Zme ZlD Zmq ZlC ZhC ZhR Zjm:Tok}
variable (Zcl:mg "MOST_ALIKE"=some (.int 5 Zmb))
variable (ZaL:mg "NoBits"=some (.ref ZmF))
variable (ZdO:mg "HIGHEST_BYTE"=some (.int 255 Zk3))
variable (ZL:mg "NoKey"=some (.ref ZmI))
variable (ZlF:mg "KEY"=some (.int 64647 ZmM))
variable (ZbE:mg "CHECK_BITS"=some (.int 15 Zma))
variable (ZdP:mg "HIGHEST_NAME"=some (.int 255 Zk4))
variable (Zej:mg "Streak"=some (.ref CA.streak))
variable (ZeM:mg "MOST_BYTES"=some (.int 7 Zmc))
variable (Zv:mg "NoFrame"=some (.ref Zdx))
variable (Zfi:mg "NAME_BITS"=some (.int 8 Zmr))
variable (Zfj:mg "SIZE_BITS"=some (.int 3 Zms))
variable (Za2:mg "BYTE_BITS"=some (.int 8 Zmp))
variable (Zdy:mg "SIZE_AT"=some (.int 9 ZmE))
variable (ZbF:mg "DATA_AT"=some (.int 12 ZmD))
variable (ZcL:mg "ANSWER_AT"=some (.int 1 Zmo))
variable (ZaZ:mg "VOTES_AT"=some (.int 9 ZmA))
variable (Zc0:mg "Tail"=some (.ref ZdR))
variable (ZeN:mg "QUIET_FROM"=some (.int 12 Zmd))
variable (ZfP:mg "OFF_FROM"=some (.int 18 Zmz))
variable (ZbW:mg "GREAT_FAULT"=some (.int 8 ZlB))
variable (Zeb:mg "SMALL_FAULT"=some (.int 1 ZlE))
variable (ZhQ:mg "Reader"=some (.ref CA.reader))
variable (ZlG:mg "Off"=some (.ref CA.off))
variable (Zdc:mg "Flagging"=some (.ref CA.flag))
variable (Zcs:mg "FLAG_BITS_stances"=some (.int 6 Zir))
variable (Zcd:mg "Settles"=some (.ref CA.settles))
variable (ZbU:mg "VOTES"=some (.ref ZkL))
variable (ZZ:mg "NoPost"=some (.ref ZbV))
variable (Zjn:mg "Count"=some (.ref CA.count))
variable (ZdU:mg "Free"=some (.ref CA.free))
variable (Zea:mg "QUIET_TURNS"=some (.int 8 ZlD))
variable (ZcZ:mg "Rests"=some (.ref CA.rests))
variable (ZbG:mg "REST_TURNS"=some (.int 3 Zme))
variable (Zei:mg "Speaks"=some (.ref CA.speaks))
variable (Zdn:mg "Reads"=some (.ref CA.reads))
variable (Zeh:mg "InTail"=some (.ref CA.intail))
variable (Zdd:mg "ReadTail"=some (.ref CA.rtail))
variable (Zfh:mg "DUEL_BITS"=some (.int 9 Zmq))
variable (ZcM:mg "SpeakTail"=some (.ref CA.stail))
variable (ZaI:mg "Rail"=some (.ref Zn))
variable (ZcK:mg "MOST_POSTS_rails"=some (.int 5 Zjm))
variable (Zkq:mg "Post"=some (.ref CA.post))
variable (Zgq:mg "NoName"=some (.ref ZlL))
variable (Zd9:mg "LEAST_POSTS"=some (.int 2 ZlC))
variable (ZbT:mg "MOST_POSTS_verdicts"=some (.int 5 ZhC))
variable (Zcj:mg "Judge"=some (.ref Zaj))
variable (Zb9:mg "FLAG_BITS_verdicts"=some (.int 6 ZhR))
variable (ZR:mg "range"=none)
variable (ZlH:mg "all"=none)
variable (ZaM:mg "list"=none)
variable (ZS:mg "len"=none)
variable (ZlJ:mg "max"=none)
variable (Zfk:mg "min"=none)
variable (ZcN:mg "enumerate"=none)
variable (ZlK:mg "sum"=none)
variable (ZeO:mg "isinstance"=none)
variable (ZlI:mg "int"=none)
variable (ZdN:zR K ZkL [1,3,5])
variable (ZeI:∃oc od fd sl,K.lookup ZbD=some ⟨oc,od,.func fd,sl⟩)
variable (Ze:TCl K CA.rtail)
variable (Zd:TCl K CA.stail)
variable (Zh:Cls K CA.streak)
variable (Zbq:Mk K CA.streak Zd7)
variable (Zg:Cls K CA.reader)
variable (Zas:b4N K ZdR "__init__" Zfg)
variable (Zf:Cls K CA.count)
variable (ZdM:Mk K CA.reader Zd3)
variable (ZM:Cls K CA.free)
variable (Zi:Cls K CA.speaks)
variable (ZF:Cls K CA.reads)
variable (Zr:Cls K CA.intail)
variable (Zt:Cls K CA.flag)
variable (ZU:Cls K CA.settles)
variable (ZY:Cls K CA.rests)
variable (Za:Cls K CA.post)
variable (Za4:Mk K CA.flag Zdp)
variable (ZaA:Mk K CA.settles ZdJ)
variable (Zd8:Mk K CA.count Zes)
variable (Za1:Mk K CA.free Ze6)
variable (ZaE:Mk K CA.rests ZeC)
variable (Zbp:Mk K CA.speaks Zd4)
variable (ZaR:Mk K CA.reads Zez)
variable (Zbo:Mk K CA.intail ZdX)
variable (Za5:Mk K CA.rtail Zdt)
variable (Za0:Mk K CA.stail Zda)
variable (Zck:Cls K CA.off)
variable (Zb:Cls K Zn)
variable (ZeJ:Mk K CA.post Zfb)
variable (Zm:Cls K Zaj)
variable (Zde:Mk K Zaj Zev)
variable (ZeK:Mk K Zn Zfe)
variable (ZT:Meth K CA.streak "lengthen" ZcO)
variable (ZD:Meth K CA.streak "is_full" Zdb)
variable (ZaX:Meth K CA.streak "is_too_long" ZbZ)
variable (Zbl:Meth K CA.reader "judged" Zdu)
variable (Za8:Meth K CA.rtail "is_fault" ZcE)
variable (Za3:Meth K CA.stail "is_fault" ZcE)
variable (ZaY:Meth K CA.rtail "judged_vote" ZbC)
variable (ZaJ:Meth K CA.stail "judged_vote" ZbC)
variable (Zap:Meth K CA.count "is_off" ZdE)
variable (ZW:Meth K CA.count "move" Zet)
variable (ZO:Meth K CA.reader "hear" Zd2)
variable (Zbf:Meth K CA.count "is_quiet" Zc7)
variable (ZbP:Meth K CA.post "is_off" Zd0)
variable (ZeL:MkB K CA.off)
variable (Zat:Meth K CA.count "fault" ZdW)
variable (ZbM:Meth K CA.count "blame" ZdV)
variable (Zbg:Meth K CA.post "has_frame" Zc8)
variable (Zbk:Meth K CA.post "is_quiet" Zds)
variable (Zah:Meth K CA.rtail "says" ZdT)
variable (Z8:Meth K CA.stail "says" ZdT)
variable (ZaG:Meth K CA.free "says" Ze7)
variable (ZaW:Meth K CA.post "foremost_wire" ZbY)
variable (Zbs:Meth K CA.reader "frame" ZdH)
variable (Zbt:Meth K CA.reader "plain" ZdI)
variable (Zb0:Meth K CA.count "good" Zer)
variable (ZaV:Meth K CA.post "drop_foremost" ZbX)
variable (Zbr:Meth K CA.post "hand_up" ZdF)
variable (Zag:Meth K CA.rtail "hear" ZdS)
variable (Z7:Meth K CA.stail "hear" ZdS)
variable (ZbR:Meth K CA.speaks "says" Zd5)
variable (Zb5:Meth K CA.reads "says" ZeA)
variable (ZbN:Meth K CA.intail "says" ZdY)
variable (Zbi:Meth K CA.flag "says" Zdq)
variable (Zbu:Meth K CA.settles "says" ZdK)
variable (Zb7:Meth K CA.rests "says" ZeD)
variable (ZcF:Meth K CA.off "says" ZfK)
variable (Zcm:Meth K CA.free "step" Ze8)
variable (ZbS:Meth K CA.speaks "step" Zd6)
variable (Zb6:Meth K CA.reads "step" ZeB)
variable (ZbO:Meth K CA.intail "step" ZdZ)
variable (Zbj:Meth K CA.flag "step" Zdr)
variable (Zbv:Meth K CA.settles "step" ZdL)
variable (Zb8:Meth K CA.rests "step" ZeE)
variable (ZcG:Meth K CA.off "step" ZfL)
variable (Zs:Meth K Zn "post_at" ZdG)
variable (Zcn:Meth K CA.post "hand" Ze9)
variable (Zcp:Meth K CA.post "says" Zfc)
variable (Zco:Meth K CA.post "hear" Zfa)
variable (Zac:Meth K Zn "make_turn" Zc9)
variable (ZcH:Meth K CA.post "got" ZfM)
variable (Zb3:Meth K CA.post "waits" Zex)
variable (Zb2:Meth K Zaj "says" Zew)
variable (Zb1:Meth K Zaj "hear" Zeu)
variable (ZbQ:Meth K Zn "events" Zd1)
variable (Zcq:Meth K Zn "hand" Zfd)
variable (ZcJ:Meth K Zn "run" ZfO)
variable (Zcr:Meth K Zn "turn" Zff)
variable (ZcI:Meth K Zn "got" ZfN)
variable (Zb4:Meth K Zn "waits" Zey)
variable (ZfQ:Bm K mg 4)
variable (Zar:bH K CA.streak "last")
variable (Zu:bH K CA.streak "alike")
variable (Zz:bH K CA.reader "streak")
variable (Zp:bH K CA.reader "kept")
variable (ZH:bH K CA.reader "answer")
variable (Zo:bH K CA.count "total")
variable (Z4:bH K CA.free "since")
variable (ZI:bH K CA.speaks "wire")
variable (ZQ:bH K CA.speaks "reader")
variable (ZC:bH K CA.speaks "many")
variable (Z2:bH K CA.reads "reader")
variable (ZaK:bH K CA.reads "many")
variable (ZB:bH K CA.intail "tail")
variable (ZaC:bH K CA.intail "found")
variable (Zaf:bH K CA.flag "left")
variable (ZN:bH K CA.flag "may_blame")
variable (Z3:bH K CA.settles "may_blame")
variable (ZaB:bH K CA.rests "left")
variable (Zk:bH K CA.post "tally")
variable (Zj:bH K CA.post "waiting")
variable (ZaH:bH K CA.post "choice")
variable (ZJ:bH K CA.post "handed_up")
variable (Z6:bH K CA.post "votes")
variable (Zad:bH K CA.post "now")
variable (ZG:bH K Zn "posts")
variable (Zaq:bH K Zn "owners")
variable (Zam:bH K Zn "borne")
variable (ZaD:bH K Zn "sayings")
variable (Zau:bH K Zn "hearings")
variable (ZP:bH K Zn "happened")
variable (Z5:bH K Zaj "tail")
variable (Zq:bH K Zaj "verdict")
variable (Zy:bH K Zaj "noughts")
variable (ZfR:W.codeHdIn K 1016 1012=true)
variable (hc_Rail_turn:Zhb.code= .ref 1016)
set_option maxHeartbeats 4000000
variable (Zbe:FB P w K mg base (CX0) 2 "heard_well" ZbD ZiV ["post","turn","bit"] (tZ))
theorem Zlx (F0:GFm K mg "heard_well" Zji ZbD ZiV):type_of% Zbe:=by
 refine fbM ["post","turn","bit"] F0 fun Sc0=>F0.F.ok Sc0 (fun vs H Q E h=>?_) fun cdv A outer s H vs Q E hr h=>?_
 ·obtain⟨a,b,c,rfl,_⟩:=h
  rfl
 obtain⟨a,b,c,rfl,q⟩:=h
 have nd:=Sc0.nd
 refine⟨_,(aF (aM (dv 2))),?_⟩
 exact q
variable (ZaQ:MB P w K mg base (CX0) 1 Zd7 Zh4 ["self"] (a5S CA.streak))
include Zh Zar Zu in
theorem ZkY (F0:Fun K "__init__" "Streak.__init__" Zil Zd7 Zh4):type_of% ZaQ:=by
 refine mbM ["self"] F0 fun Sc0=>F0.ok Sc0 (fun vs H Q E h=>?_) fun cdv A outer s H vs Q E hr h=>?_
 ·obtain⟨a,dx,rfl,_⟩:=h
  rfl
 obtain⟨a,dx,rfl,ha,q⟩:=h
 have nd:=Sc0.nd
 refine⟨_,(aC (bM Zh Zar (dv 0) nW) (aF (bM Zh Zu (dv 0) aG))),?_⟩
 refine⟨dx, [],ha,by decide,?_⟩
 refine⟨dx,_,aB,by decide,?_⟩
 exact q _ (by rw[jL];rfl)
variable (ZV:MB P w K mg base (CX0) 1 ZcO ZfI ["self","bit"] (b0L CA.streak))
include Zh Zar Zu in
theorem ZiZ (F0:Fun K "lengthen" "Streak.lengthen" ZfJ ZcO ZfI):type_of% ZV:=by
 refine mbM ["self","bit"] F0 fun Sc0=>F0.ok Sc0 (fun vs H Q E h=>?_) fun cdv A outer s H vs Q E hr h=>?_
 ·obtain⟨a,s,b,rfl,_⟩:=h
  rfl
 obtain⟨a,s,b,rfl,⟨dx,ha⟩,q⟩:=h
 have nd:=Sc0.nd
 refine⟨_,(aC (bM Zh Zu (dv 0) (bT (cH (aW cV (dv 1) (aN Zh Zar (dv 0)) (aR _)) (aU cG (aN Zh Zu (dv 0)) aG) aG))) (aF (bM Zh Zar (dv 0) (dv 1)))),?_⟩
 refine⟨fun x H'=>x= .int (((skp s b).2:Nat):Int)/\H'=H,?_,?_⟩
 ·obtain⟨l,n⟩:=s
  cases l with
  |none=>exact⟨dx,_,.non,ha,rfl,rfl,rfl⟩
  | some c=>
   refine⟨dx,_,.int c,ha,rfl,?_⟩
   conv=>whnf
   refine bL (fun z=>?_) (fun z=>?_)
   ·have e:b=c:=dec_true z
    subst e
    refine⟨dx,_,.int n,ha,rfl,?_,rfl⟩
    have e2:(skp (some b,n) b).2=n+1:=if_pos rfl
    rw[e2];rfl
   ·have e:¬ b=c:=dec_false z
    refine⟨?_,rfl⟩
    have e2:(skp (some c,n) b).2=1:=if_neg fun y=>e (Yo y).symm
    rw[e2];rfl
 rintro x H' ⟨rfl,rfl⟩
 refine⟨dx,_,ha,(show 2<1000 by decide),?_⟩
 refine⟨dx,_,aB,(show 2<1000 by decide),?_⟩
 refine q _ ⟨dx,?_⟩ fun x hx=>by rw[aH hx,aH hx]
 rw[aB]
 rfl
variable (ZK:MB P w K mg base (CX0) 1 Zdb Zgp ["self"] (a5T CA.streak))
include Zcl Zh Zu in
theorem Zjs (F0:Fun K "is_full" "Streak.is_full" Zgv Zdb Zgp):type_of% ZK:=by
 refine mbM ["self"] F0 fun Sc0=>F0.ok Sc0 (fun vs H Q E h=>?_) fun cdv A outer s H vs Q E hr h=>?_
 ·obtain⟨a,s,rfl,_⟩:=h
  rfl
 obtain⟨a,s,rfl,⟨dx,ha⟩,q⟩:=h
 have nd:=Sc0.nd
 refine⟨_,(aF (aM (cL cV (aN Zh Zu (dv 0)) (bA (v:= .int 5) rfl Zcl ⟨_,rfl⟩) (aR _)))),?_⟩
 refine⟨dx,_,.int s.2,ha,rfl,?_⟩
 conv=>whnf
 rw[a4E]
 exact q
variable (ZaU:MB P w K mg base (CX0) 1 ZbZ ZeH ["self"] (a5R CA.streak))
include Zcl Zh Zu in
theorem Zhq (F0:Fun K "is_too_long" "Streak.is_too_long" ZeR ZbZ ZeH):type_of% ZaU:=by
 refine mbM ["self"] F0 fun Sc0=>F0.ok Sc0 (fun vs H Q E h=>?_) fun cdv A outer s H vs Q E hr h=>?_
 ·obtain⟨a,s,rfl,_⟩:=h
  rfl
 obtain⟨a,s,rfl,⟨dx,ha⟩,q⟩:=h
 have nd:=Sc0.nd
 refine⟨_,(aF (aM (cL tV (aN Zh Zu (dv 0)) (bA (v:= .int 5) rfl Zcl ⟨_,rfl⟩) (aR _)))),?_⟩
 refine⟨dx,_,.int s.2,ha,rfl,?_⟩
 show Q (.bl (decide ((5:Int)<((s.2:Nat):Int)))) H
 rw[b2N]
 exact q
variable (Z0:FB P w K mg base (CX0) 1 "bits_of" Ziy Zk5 ["number","many"] (a6L))
include ZaL ZR in
theorem Zmu (F0:GFm K mg "bits_of" Zla Ziy Zk5):type_of% Z0:=by
 refine fbM ["number","many"] F0 fun Sc0=>F0.F.ok Sc0 (fun vs H Q E h=>?_) fun cdv A outer s H vs Q E hr h=>?_
 ·obtain⟨n,m,rfl,_⟩:=h
  rfl
 obtain⟨n,m,rfl,hn,hm,q⟩:=h
 have nd:=Sc0.nd
 refine⟨_,(aC (bJ (PW.pt (sH (aW xV (dv 0) aG (aR _)) (nU (aW rH (aU a0B (dv 0) (dv 1)) aG (aR _))))) (aF dM) aV) (aF (aM (dN rfl (ix:=[0,1]) (dO rfl ZR (aA (dv 1) aD)) (fun C fp s0 H0 at0=>cZ) (fun C fp s0 H0 at0=>(aU a0E (aU a0B (dv 1) (aU gZ (aU gZ (dv 2) aG) (dv 0))) aG)) rfl rfl (by rfl) (show ([".0","place","number","many"]:List Str).Nodup by decide +kernel))))),?_⟩
 refine⟨by omega,?_⟩
 conv=>whnf
 refine a1K (a4D hn) ?_
 have em:((m:Nat):Int).toNat=m:=YB m
 refine⟨⟨by omega,by omega⟩,gB (fun i ys H'=>ys=((bN n m).take i).map V.int/\H'=H) ?_ ⟨rfl,rfl⟩ ?_ ?_⟩
 ·rintro i ys H' hi ⟨rfl,_⟩
  refine bR ?_
  rw[Ya,Yr,cC]
  omega
 ·rintro i ys H' hi ⟨rfl,rfl⟩
  rw[em]at hi
  refine⟨(by show (0:Int)<=(m:Int)-1-(0+(i:Int));omega),?_,rfl⟩
  have e:(m:Int)-1-(0+(i:Int))=((m-1-i:Nat):Int):=by omega
  show _++[V.int (Builtin.bitAnd ((n:Int) / 2 ^ ((m:Int)-1-(0+(i:Int))).toNat) 1)]=_
  rw[e,b4J,a2M hi,Ym]
  rfl
 ·rintro ys H' ⟨rfl,rfl⟩ p hp
  rw[em,Yk (by rw[cC];exact Yd _)]
  exact q p hp
variable (Zw:FB P w K mg base (CX0) 1 "number_of" Zg9 ZjK ["bits"] (yI K))
theorem Zl6 (F0:GFm K mg "number_of" Zj3 Zg9 ZjK):type_of% Zw:=by
 refine fbM ["bits","number","bit"] F0 fun Sc0=>F0.F.ok Sc0 (fun vs H Q E h=>?_) fun cdv A outer s H vs Q E hr h=>?_
 ·obtain⟨a,bs,rfl,_⟩:=h
  rfl
 obtain⟨a,bs,rfl,hS,hb,hl,q⟩:=h
 have nd:=Sc0.nd
 refine⟨_,(aC (aX (i:=1) nd rfl (Or.inl rfl) aG) (aC (eV YV rfl (cM (dv 0)) (cQ (i:=2) nd rfl (Or.inl rfl)) (aF (aX (i:=1) nd rfl (Or.inl rfl) (aU cG (aU jB (dv 1) aG) (dv 2))))) (aF (aM (dv 1))))),?_⟩
 refine⟨⟨_,hS⟩,gM (xs:=bs.map V.int) (fun i σ H'=>(∃x,σ= [some (.ref a),some (.int (jP (bs.take i))),x])/\H'=H) ⟨⟨_,rfl⟩,rfl⟩ (fun i σ H' _ z=>by rw[z.2];exact hS) ?_ ?_⟩
 ·rintro i x σ H' hx ⟨⟨y,rfl⟩,rfl⟩
  obtain⟨hi,rfl⟩:=nC hx
  have hb':bO (bs.take i):=fun b h=>hb b (XA h)
  have b1:=uF hb'
  have b2:(2:Int) ^ (bs.take i).length<=2 ^ 450:=xY (by rw[Yr];omega)
  refine⟨⟨rD (n:=450) (a3I b1.1 (by omega)),iU (by decide) (by decide)⟩,⟨some (.int bs[i]),?_⟩,rfl⟩
  rw[Yg hi,nZ]
  rfl
 ·rintro σ H' ⟨⟨y,rfl⟩,rfl⟩
  rw[Ya,Yk (Yd _),b1Z hb]
  exact q
variable (Zay:FB P w K mg base (CX0) 1 "are_bytes" Zg7 ZjI ["numbers"] (b0T K))
include ZdO ZlH in
theorem Zl4 (F0:GFm K mg "are_bytes" Zj1 Zg7 ZjI):type_of% Zay:=by
 refine fbM ["numbers"] F0 fun Sc0=>F0.F.ok Sc0 (fun vs H Q E h=>?_) fun cdv A outer s H vs Q E hr h=>?_
 ·obtain⟨a,ns,rfl,_⟩:=h
  rfl
 obtain⟨a,ns,rfl,hS,hl,q⟩:=h
 have nd:=Sc0.nd
 refine⟨_,(aF (aM (bK (b9A rfl) rfl ZlH b8G (aA (dN rfl (ix:=[]) (b6Z (dv 0)) (fun C fp s0 H0 at0=>cZ) (fun C fp s0 H0 at0=>(wM pW pW aG (dv 0) (bA (v:= .int 255) rfl ZdO ⟨_,rfl⟩))) rfl rfl (by rfl) (show ([".0","number"]:List Str).Nodup by decide +kernel)) aD)))),?_⟩
 refine a9H hS (fun i ys=>ys=((ns.take i).map byt).map V.bl) ?_ rfl ?_ ?_
 ·rintro i ys hi rfl
  refine bR ?_
  rw[Ya,Ya,Yr]
  omega
 ·rintro i x ys hx rfl
  obtain⟨hi,rfl⟩:=nC hx
  conv=>whnf
  refine bL (fun c=>⟨?_,rfl⟩) (fun c=>⟨?_,rfl⟩)
  ·have c1:(0:Int)<=ns[i]:=dec_true c
   rw[Yg hi,Ym,Ym]
   show _++[V.bl (decide (ns[i]<=255))]=_++[V.bl (byt ns[i])]
   unfold byt
   rw[Ye c1,Bool.true_and]
  ·have c1:¬ (0:Int)<=ns[i]:=dec_false c
   rw[Yg hi,Ym,Ym]
   show _++[V.bl false]=_++[V.bl (byt ns[i])]
   unfold byt
   rw[Yi c1,Jc]
 rintro ys rfl p hp
 rw[Ya,Yk (Yd _)]
 refine⟨ns.map byt,SqL.of aB,?_⟩
 have e:(ns.map byt).all id=ns.all byt:=by rw[List.all_map];rfl
 rw[e]
 exact q _ (aJ hp _)
variable (Zc1:FB P w K mg base (CX0) 1 "divided" Ziz Zk6 ["number","key"] (a2X))
include ZL in
theorem Zmv (F0:GFm K mg "divided" Zlb Ziz Zk6):type_of% Zc1:=by
 refine fbM ["number","key","whole","rest","power"] F0 fun Sc0=>F0.F.ok Sc0 (fun vs H Q E h=>?_) fun cdv A outer s H vs Q E hr h=>?_
 ·obtain⟨a,rfl,_⟩:=h
  rfl
 obtain⟨a,rfl,ha,q⟩:=h
 have nd:=Sc0.nd
 refine⟨_,(aC (bJ (aW cV (dv 1) aG (aR _)) (aF dM) aV) (aC (aX (i:=2) nd rfl (Or.inl rfl) aG) (aC (aX (i:=3) nd rfl (Or.inl rfl) (dv 0)) (aC (wA YV (aW a4S (a1D (dv 3)) (a1D (dv 1)) (aR _)) (aC (aX (i:=4) nd rfl (Or.inl rfl) (aU gZ (a1D (dv 3)) (a1D (dv 1)))) (aC (aX (i:=2) nd rfl (Or.inl rfl) (aU a0T (dv 2) (aU a0U aG (dv 4)))) (aF (aX (i:=3) nd rfl (Or.inl rfl) (aU a0T (dv 3) (aU a0U (dv 1) (dv 4)))))))) (aF (aM (bU (aA (dv 2) (aA (dv 3) aD))))))))),?_⟩
 refine⟨fun mm σ H'=>∃(w r:Nat)(p:Option V),mm=bl r/\σ= [some (.int a),some (.int 64647),some (.int w),some (.int r),p]/\H'=H/\r<2 ^ 450/\R r=R a,⟨_,0,a,_,rfl,rfl,rfl,ha,rfl⟩,?_⟩
 rintro mm σ H' ⟨w,r,p,rfl,rfl,rfl,hr,e⟩
 conv=>whnf
 refine bL (fun c=>?_) (fun c=>?_)
 ·have c1:16<=bl r:=by
   have:((Builtin.Int.intBits (64647:Int):Nat):Int)<=((Builtin.Int.intBits (r:Int):Nat):Int):=dec_true c
   have k:=zP
   show 16<=Builtin.Int.intBits (r:Int)
   have k':Builtin.Int.intBits (64647:Int)=16:=k
   omega
  obtain⟨t1,t2,t3⟩:=a8K hr c1
  have r3:=a9M hr
  refine⟨fun σ' H2=>∃(w:Nat)(p:Option V),σ'= [some (.int a),some (.int 64647),some (.int w),some (.int ((r ^^^ 64647 <<< (bl r-16):Nat):Int)),p]/\H2=H',?_,?_⟩
  ·rintro σ' H2 ⟨w',p',rfl,rfl⟩
   exact⟨bl (r ^^^ 64647 <<< (bl r-16)),t3,w',_,p',rfl,rfl,rfl,t1,t2.trans e⟩
  have ep:((Builtin.Int.intBits (r:Int):Nat):Int)-((Builtin.Int.intBits (64647:Int):Nat):Int)=((bl r-16:Nat):Int):=by
   have k':Builtin.Int.intBits (64647:Int)=16:=zP
   rw[k']
   show ((bl r:Nat):Int)-_=_
   omega
  refine⟨1,(bl r-16),rfl,YT V.int ep,⟨a8F (n:=1) (by decide),by omega⟩,w,_,rfl,rfl,trivial,?_⟩
  refine⟨64647,(bl r-16),rfl,YT V.int ep,⟨a8F (n:=16) (by decide),by omega⟩,r,_,rfl,rfl,trivial,?_⟩
  exact⟨_,_,rfl,rfl⟩
 ·have c1:bl r<16:=by
   have:¬ ((Builtin.Int.intBits (64647:Int):Nat):Int)<=((Builtin.Int.intBits (r:Int):Nat):Int):=dec_false c
   have k':Builtin.Int.intBits (64647:Int)=16:=zP
   show Builtin.Int.intBits (r:Int)<16
   omega
  have hs:r<32768:=Yj (b4D r) (Yy (n:=2) (j:=15) (by decide) (by omega))
  rw[pU hs]at e
  rw[e]
  exact⟨aL rfl,fun p hp=>q w p hp⟩
variable (Zae:FB P w K mg base (CX0) 2 "rest_of" ZiB Zk8 ["bits"] (b5N K))
include ZL ZlF Zw Zc1 in
theorem Zmx (F0:GFm K mg "rest_of" Zld ZiB Zk8):type_of% Zae:=by
 refine fbM ["bits"] F0 fun Sc0=>F0.F.ok Sc0 (fun vs H Q E h=>?_) fun cdv A outer s H vs Q E hr h=>?_
 ·obtain⟨a,bs,rfl,_⟩:=h
  rfl
 obtain⟨a,bs,rfl,hS,hb,hl,q⟩:=h
 have nd:=Sc0.nd
 refine⟨_,(aF (aM (bQ eE (aQ Zc1.1 (hr.mono (by decide)) rfl Zc1.2.2.2 Zc1.2.2.1 Zc1.2.1 .nil aK (aA (aQ Zw.1 (hr.mono (by decide)) rfl Zw.2.2.2 Zw.2.2.1 Zw.2.1 .nil aK (aA (dv 0) aD)) (aA (bA (v:= .int 64647) rfl ZlF ⟨_,rfl⟩) aD))) aG (fun _ _=>rfl)))),?_⟩
 refine⟨a,bs,rfl,hS,hb,hl,?_⟩
 refine⟨nm bs,rfl,Yj (lX hb) (Yy (by decide) hl),fun w p hp=>?_⟩
 exact⟨_,_,SqT.of aB,rfl,q _ (aJ hp _)⟩
variable (ZcC:FB P w K mg base (CX0) 3 "check_of" ZhN Zkn ["bits"] (b0S K))
include ZaL ZL ZbE ZaM Z0 Zae in
theorem Zml (F0:GFm K mg "check_of" ZkI ZhN Zkn):type_of% ZcC:=by
 refine fbM ["bits"] F0 fun Sc0=>F0.F.ok Sc0 (fun vs H Q E h=>?_) fun cdv A outer s H vs Q E hr h=>?_
 ·obtain⟨a,bs,rfl,_⟩:=h
  rfl
 obtain⟨a,bs,rfl,hS,hb,hl,q⟩:=h
 have nd:=Sc0.nd
 refine⟨_,(aF (aM (aQ Z0.1 (hr.mono (by decide)) rfl Z0.2.2.2 Z0.2.2.1 Z0.2.1 .nil aK (aA (aQ Zae.1 (hr.mono (by decide)) rfl Zae.2.2.2 Zae.2.2.1 Zae.2.1 .nil aK (aA (aU rR (fU iB rfl ZaM iR (aA (dv 0) aD)) (aU a0C (cW (aA aG aD)) (bA (v:= .int 15) rfl ZbE ⟨_,rfl⟩))) aD)) (aA (bA (v:= .int 15) rfl ZbE ⟨_,rfl⟩) aD))))),?_⟩
 refine⟨_,.inl hS,fun l hl1=>?_⟩
 have g1:=aJ hl1 (.lst (bs.map V.int))
 have e1:=aB (H:=H) (a:=l) (o:= .lst (bs.map V.int))
 generalize upd H l (.lst (bs.map V.int))=H1 at g1 e1
 refine⟨aL rfl,fun o ho=>?_⟩
 have g2:=aJ ho (.lst [.int 0])
 have e2:=aB (H:=H1) (a:=o) (o:= .lst [.int 0])
 generalize upd H1 o (.lst [.int 0])=H2 at g2 e2
 refine⟨_,e2,⟨by decide,by decide⟩,(by show 1*15<=sizeLine;exact small (by decide)),fun z hz=>?_⟩
 have g3:=aJ hz (.lst (List.replicate (15:Int).toNat [V.int 0]).flatten)
 have e3:upd H2 z (.lst (List.replicate (15:Int).toNat [V.int 0]).flatten) z=some (.lst ((zs 15).map V.int)):=by rw[aB];rfl
 generalize upd H2 z (.lst (List.replicate (15:Int).toNat [V.int 0]).flatten)=H3 at g3 e3
 refine⟨_,_,g3 _ _ (g2 _ _ e1),e3,(by rw[Ya];exact small (by show bs.length+15<=1000;omega)),fun c hc=>?_⟩
 have g4:=aJ hc (.lst (bs.map V.int++(zs 15).map V.int))
 have e4:upd H3 c (.lst (bs.map V.int++(zs 15).map V.int)) c=some (.lst ((bs++zs 15).map V.int)):=by rw[aB,Ym]
 generalize upd H3 c (.lst (bs.map V.int++(zs 15).map V.int))=H4 at g4 e4
 refine⟨c,bs++zs 15,rfl,SqL.of e4,fZ hb (tU 15),(by rw[Yc];show bs.length+15<=450;omega),fun H5 g5=>?_⟩
 refine⟨ckn bs,15,rfl,a9J bs,by decide,fun p hp=>?_⟩
 have gs:=g1.trans (g2.trans (g3.trans (g4.trans g5)))
 exact q p _ (gs.none hp) (gs.trans (aJ hp _)) aB
variable (Zc2:FB P w K mg base (CX0) 1 "is_name" ZiA Zk7 ["number"] (b9S))
include ZdP in
theorem Zmw (F0:GFm K mg "is_name" Zlc ZiA Zk7):type_of% Zc2:=by
 refine fbM ["number"] F0 fun Sc0=>F0.F.ok Sc0 (fun vs H Q E h=>?_) fun cdv A outer s H vs Q E hr h=>?_
 ·obtain⟨n,rfl,_⟩:=h
  rfl
 obtain⟨n,rfl,q⟩:=h
 have nd:=Sc0.nd
 refine⟨_,(aF (aM (wM pW pW aG (dv 0) (bA (v:= .int 255) rfl ZdP ⟨_,rfl⟩)))),?_⟩
 conv=>whnf
 refine bL (fun c=>?_) (fun c=>?_)
 ·have c1:(0:Int)<=n:=dec_true c
  show Q (.bl (decide (n<=255))) H
  have e:decide (n<=255)=byt n:=by unfold byt;rw[Ye c1,Bool.true_and]
  rw[e];exact q
 ·have c1:¬ (0:Int)<=n:=dec_false c
  show Q (.bl false) H
  have e:false=byt n:=by unfold byt;rw[Yi c1,Jc]
  rw[e];exact q
variable (Zdw:FB P w K mg base (CX0) 3 "put_in" Zj8 ZlN ["bits"] (b0O K))
include Zej Zh Zbq ZT ZD ZaQ ZV ZK in
theorem ZmC (F0:GFm K mg "put_in" Zl9 Zj8 ZlN):type_of% Zdw:=by
 refine fbM ["bits","wire","streak","bit"] F0 fun Sc0=>F0.F.ok Sc0 (fun vs H Q E h=>?_) fun cdv A outer s H vs Q E hr h=>?_
 ·obtain⟨a,bs,rfl,_⟩:=h
  rfl
 obtain⟨a,bs,rfl,hS,hl,q⟩:=h
 have nd:=Sc0.nd
 refine⟨_,(aC (aX (i:=1) nd rfl (Or.inl rfl) (cW aD)) (aC (aX (i:=2) nd rfl (Or.inl rfl) (mK Zbq ZaQ.1 (hr.mono (by decide)) rfl Zej ZaQ.2 .nil aK)) (aC (eV YV rfl (cM (dv 0)) (cQ (i:=3) nd rfl (Or.inl rfl)) (aC (bB (cU (dv 1) (aA (dv 3) aD))) (aC (bB (cB Zh ZT ZV.1 (hr.mono (by decide)) ZV.2 .nil aK (dv 2) (aA (dv 3) aD))) (aF (bJ (cP (bW Zh ZD ZK.1 (hr.mono (by decide)) ZK.2 .nil aK (dv 2))) (aC (bB (cU (dv 1) (aA (aU gZ aG (dv 3)) aD))) (aF (bB (cB Zh ZT ZV.1 (hr.mono (by decide)) ZV.2 .nil aK (dv 2) (aA (aU gZ aG (dv 3)) aD))))) aV))))) (aF (aM (dv 1)))))),?_⟩
 refine⟨aL rfl,fun p hp=>?_⟩
 have g0:=aJ hp (.lst [])
 have e0:=aB (H:=H) (a:=p) (o:= .lst [])
 generalize upd H p (.lst [])=H1 at g0 e0
 refine fun st dx hst hdx hne=>⟨st,dx,rfl,aB,fun H2 eH=>⟨rfl,?_⟩⟩
 have g1:Same H1 H2:=by rw[eH];exact bF hst hdx
 have s2:jH CA.streak H2 st (sk []):=⟨dx,by rw[eH];exact aB⟩
 clear eH
 have nst:=g0.none hst
 refine⟨⟨_,(g0.trans g1).seq hS⟩,gM (xs:=bs.map V.int) (fun i σ H'=>(∃x,σ= [some (.ref a),some (.ref p),some (.ref st),x])/\H' p=some (.lst ((put (bs.take i)).map V.int))/\jH CA.streak H' st (sk (put (bs.take i)))/\Same H H')
  ⟨⟨_,rfl⟩,g1 _ _ e0,s2,g0.trans g1⟩ (fun i σ H' _ z=>z.2.2.2.seq hS) ?_ ?_⟩
 ·rintro i x σ H' hx ⟨⟨y,rfl⟩,h1,h2,h3⟩
  obtain⟨hi,rfl⟩:=nC hx
  have pl:=mH (bs.take i)
  rw[Yr]at pl
  have h4:=mG (bs.take i)
  generalize vY hi=ept
  generalize bs[i]=b at ept
  generalize put (bs.take i)=w at h1 h2 pl h4 ept
  refine⟨⟨_,SqL.of h1⟩,_,h1,bR (by rw[Ya];omega),?_⟩
  have h1':upd H' p (.lst (w.map V.int++[.int b])) p=some (.lst ((w++[b]).map V.int)):=by rw[aB,Ym];rfl
  have h2':jH CA.streak (upd H' p (.lst (w.map V.int++[.int b]))) st (sk w):=h2.set h1
  have h3':Same H (upd H' p (.lst (w.map V.int++[.int b]))):=h3.put hp
  generalize upd H' p (.lst (w.map V.int++[.int b]))=H3 at h1' h2' h3'
  obtain⟨d3,k3⟩:=id h2'
  refine⟨⟨d3,_,k3,rfl⟩,st,sk w,b,rfl,h2',fun H4 s4 k4=>?_⟩
  rw[<-lH]at s4
  have h1'':=(k4 p (h2'.ne h1')).trans h1'
  have h3'':Same H H4:=fun c o e=>(k4 c (aP e nst)).trans (h3' c o e)
  obtain⟨d4,k5⟩:=id s4
  refine⟨⟨d4,_,k5,rfl⟩,st,sk (w++[b]),rfl,s4,?_⟩
  conv=>whnf
  refine bL (fun c=>?_) (fun c=>?_)
  ·have c1:run (w++[b])=5:=dec_true c
   have ep:put (bs.take (i+1))=w++[b]++[1-b]:=by rw[ept];unfold pst;rw[if_pos c1]
   refine⟨⟨_,SqL.of h1''⟩,_,h1'',bR (by rw[Ya,Yc,Yt];omega),?_⟩
   have q1:upd H4 p (.lst ((w++[b]).map V.int++[.int (1-b)])) p=some (.lst ((w++[b]++[1-b]).map V.int)):=by rw[aB,Ym (l₁:=w++[b])];rfl
   have q2:=s4.set (ys:=(w++[b]).map V.int++[.int (1-b)]) h1''
   have q3:Same H (upd H4 p (.lst ((w++[b]).map V.int++[.int (1-b)]))):=h3''.put hp
   generalize upd H4 p (.lst ((w++[b]).map V.int++[.int (1-b)]))=H5 at q1 q2 q3
   obtain⟨d6,k6⟩:=id q2
   refine⟨⟨d6,_,k6,rfl⟩,st,sk (w++[b]),1-b,rfl,q2,fun H6 s6 k7=>?_⟩
   rw[<-lH]at s6
   refine⟨⟨_,rfl⟩,?_,?_,fun c o e=>(k7 c (aP e nst)).trans (q3 c o e)⟩
   ·rw[ep];exact(k7 p (q2.ne q1)).trans q1
   ·rw[ep];exact s6
  ·have c1:¬ run (w++[b])=5:=dec_false c
   have ep:put (bs.take (i+1))=w++[b]:=by rw[ept];unfold pst;rw[if_neg c1]
   exact⟨⟨_,rfl⟩,by rw[ep];exact h1'',by rw[ep];exact s4,h3''⟩
 rintro σ H' ⟨⟨y,rfl⟩,h1,h2,h3⟩
 rw[Ya,Yk (Yd _)]at h1
 exact q p H' hp h3 h1
variable (Zx:FB P w K mg base (CX0) 2 "check_frame" ZfF Zh6 ["name","data"] (b5T K Zdx))
include ZeM Zv ZS Zay Zc2 in
theorem Zk0 (F0:GFm K mg "check_frame" Zin ZfF Zh6):type_of% Zx:=by
 refine fbM ["name","data"] F0 fun Sc0=>F0.F.ok Sc0 (fun vs H Q E h=>?_) fun cdv A outer s H vs Q E hr h=>?_
 ·obtain⟨n,a,ds,rfl,_⟩:=h
  rfl
 obtain⟨n,a,ds,rfl,hS,hl,q1,q2⟩:=h
 have nd:=Sc0.nd
 refine⟨_,(aC (bJ (fL (cP (aQ Zc2.1 (hr.mono (by decide)) rfl Zc2.2.2.2 Zc2.2.2.1 Zc2.2.1 .nil aK (aA (dv 0) aD)))) (aF dM) aV) (aC (bJ (aW tV (bK fC rfl ZS cY (aA (dv 1) aD)) (bA (v:= .int 7) rfl ZeM ⟨_,rfl⟩) (aR _)) (aF dM) aV) (aF (bJ (fL (cP (aQ Zay.1 (hr.mono (by decide)) rfl Zay.2.2.2 Zay.2.2.1 Zay.2.1 .nil aK (aA (dv 1) aD)))) (aF dM) aV)))),?_⟩
 refine⟨n,rfl,?_⟩
 conv=>whnf
 refine bL (fun c=>?_) (fun c=>?_)
 ·have c1:¬ byt n=true:=fun z=>by
   have:(!byt n)=true:=c
   rw[z]at this;cases this
  exact(q2 (a7S (.inl c1)) _ (Same.refl _))
 have c1:byt n=true:=by
  cases e:byt n with
  |true=>rfl
  |false=>exact absurd (show (!byt n)=true by rw[e];rfl) c
 refine⟨_,.inl hS,?_⟩
 rw[Ya]
 conv=>whnf
 refine bL (fun z=>?_) (fun z=>?_)
 ·have z1:(7:Int)<((ds.length:Nat):Int):=dec_true z
  exact(q2 (a7S (.inr (.inl (by omega)))) _ (Same.refl _))
 have z1:¬ (7:Int)<((ds.length:Nat):Int):=dec_false z
 refine⟨a,ds,rfl,.inl hS,hl,fun H1 g1=>?_⟩
 conv=>whnf
 refine bL (fun y=>?_) (fun y=>?_)
 ·have y1:¬ ds.all byt=true:=fun z=>by
   have:(!ds.all byt)=true:=y
   rw[z]at this;cases this
  exact(q2 (fun h=>y1 h.2.2) _ g1)
 ·have y1:ds.all byt=true:=by
   cases e:ds.all byt with
   |true=>rfl
   |false=>exact absurd (show (!ds.all byt)=true by rw[e];rfl) y
  exact q1 ⟨c1,by omega,y1⟩ _ g1
variable (Zbz:FB P w K mg base (CX0) 5 "frame_bits" Zgh ZiU ["name","data"] (b0Q K Zdx))
include ZaL ZL Zv Zfi Zfj Za2 ZS Z0 ZcC Zx in
theorem Zlw (F0:GFm K mg "frame_bits" Zjh Zgh ZiU):type_of% Zbz:=by
 refine fbM ["name","data","bits","byte"] F0 fun Sc0=>F0.F.ok Sc0 (fun vs H Q E h=>?_) fun cdv A outer s H vs Q E hr h=>?_
 ·obtain⟨n,a,ds,rfl,_⟩:=h
  rfl
 obtain⟨n,a,ds,rfl,hS,hl,q1,q2⟩:=h
 have nd:=Sc0.nd
 refine⟨_,(aC (bB (aQ Zx.1 (hr.mono (by decide)) rfl Zx.2.2.2 Zx.2.2.1 Zx.2.1 .nil aK (aA (dv 0) (aA (dv 1) aD)))) (aC (aX (i:=2) nd rfl (Or.inl rfl) (aU rR (aU rR (cW (aA aG aD)) (aQ Z0.1 (hr.mono (by decide)) rfl Z0.2.2.2 Z0.2.2.1 Z0.2.1 .nil aK (aA (dv 0) (aA (bA (v:= .int 8) rfl Zfi ⟨_,rfl⟩) aD)))) (aQ Z0.1 (hr.mono (by decide)) rfl Z0.2.2.2 Z0.2.2.1 Z0.2.1 .nil aK (aA (bK fC rfl ZS cY (aA (dv 1) aD)) (aA (bA (v:= .int 3) rfl Zfj ⟨_,rfl⟩) aD))))) (aC (eV YV rfl (cM (dv 1)) (cQ (i:=3) nd rfl (Or.inl rfl)) (aF (bB (a3L (dv 2) (aA (aQ Z0.1 (hr.mono (by decide)) rfl Z0.2.2.2 Z0.2.2.1 Z0.2.1 .nil aK (aA (dv 3) (aA (bA (v:= .int 8) rfl Za2 ⟨_,rfl⟩) aD))) aD))))) (aF (aM (aU rR (dv 2) (aQ ZcC.1 (hr.mono (by decide)) rfl ZcC.2.2.2 ZcC.2.2.1 ZcC.2.1 .nil aK (aA (dv 2) aD)))))))),?_⟩
 refine⟨n,a,ds,rfl,hS,hl,fun hf H1 g1=>?_,q2⟩
 obtain⟨m,rfl,hm⟩:=uV hf.1
 refine⟨aL rfl,fun p2 hp2=>?_⟩
 have g2:=aJ hp2 (.lst [.int 0])
 have e2:=aB (H:=H1) (a:=p2) (o:= .lst [.int 0])
 generalize upd H1 p2 (.lst [.int 0])=H2 at g2 e2
 refine⟨m,8,rfl,by show m<2 ^ 8;omega,by decide,fun p3 hp3=>?_⟩
 have g3:=aJ hp3 (.lst ((bN m 8).map V.int))
 have e3:=aB (H:=H2) (a:=p3) (o:= .lst ((bN m 8).map V.int))
 generalize upd H2 p3 (.lst ((bN m 8).map V.int))=H3 at g3 e3
 refine⟨_,_,g3 _ _ e2,e3,(by rw[Ya,cC];exact aL rfl),fun p4 hp4=>?_⟩
 have g4:=aJ hp4 (.lst ([.int 0]++(bN m 8).map V.int))
 have e4:=aB (H:=H3) (a:=p4) (o:= .lst ([.int 0]++(bN m 8).map V.int))
 generalize upd H3 p4 (.lst ([.int 0]++(bN m 8).map V.int))=H4 at g4 e4
 have gs4:=g1.trans (g2.trans (g3.trans g4))
 refine⟨_,.inl (gs4.seq hS),?_⟩
 rw[Ya]
 have h7:=hf.2.1
 refine⟨ds.length,3,rfl,by show ds.length<2 ^ 3;omega,by decide,fun p5 hp5=>?_⟩
 have g5:=aJ hp5 (.lst ((bN ds.length 3).map V.int))
 have e5:=aB (H:=H4) (a:=p5) (o:= .lst ((bN ds.length 3).map V.int))
 generalize upd H4 p5 (.lst ((bN ds.length 3).map V.int))=H5 at g5 e5
 refine⟨_,_,g5 _ _ e4,e5,(by rw[Yc,Ya,Ya,cC,cC];exact aL rfl),fun p6 hp6=>?_⟩
 have g6:=aJ hp6 (.lst ([.int 0]++(bN m 8).map V.int++(bN ds.length 3).map V.int))
 have e6:upd H5 p6 (.lst ([.int 0]++(bN m 8).map V.int++(bN ds.length 3).map V.int)) p6=some (.lst ((hdD (m:Int) ds.length []).map V.int)):=by
  rw[aB];unfold hdD b8;simp
 generalize upd H5 p6 (.lst ([.int 0]++(bN m 8).map V.int++(bN ds.length 3).map V.int))=H6 at g6 e6
 have gs6:=gs4.trans (g5.trans g6)
 have np6:H p6=none:=(gs4.trans g5).none hp6
 refine⟨⟨_,gs6.seq hS⟩,gM (xs:=ds.map V.int) (fun i σ H'=>(∃x,σ= [some (.int m),some (.ref a),some (.ref p6),x])/\Same H H'/\H' p6=some (.lst ((hdD (m:Int) ds.length (ds.take i)).map V.int))) ⟨⟨_,rfl⟩,gs6,e6⟩ (fun i σ H' _ z=>z.2.1.seq hS) ?_ ?_⟩
 ·rintro i x σ H' hx ⟨⟨y,rfl⟩,g,e⟩
  obtain⟨hi,rfl⟩:=nC hx
  obtain⟨d,ed,hd256⟩:=uV (xP hf.2.2 hi)
  have hlen:=pN (m:Int) ds.length (ds.take i)
  rw[Yr]at hlen
  refine⟨⟨_,e⟩,d,8,by rw[ed];rfl,by show d<2 ^ 8;omega,by decide,fun p7 hp7=>?_⟩
  have g7:=aJ hp7 (.lst ((bN d 8).map V.int))
  refine⟨_,_,g7 _ _ e,aB,(by rw[Ya,Ya,cC,hlen];exact small (by omega)),⟨_,rfl⟩,(g.trans g7).put np6,?_⟩
  have eb:b8 ds[i]=bN d 8:=by rw[ed];rfl
  rw[aB,Yg hi,wU,eb,Ym]
 rintro σ H7 ⟨⟨y,rfl⟩,g7,e7⟩
 rw[Ya,Yk (Yd _)]at e7
 have hlen:=zF (m:Int) ds
 refine⟨p6,hd (m:Int) ds,rfl,SqL.of e7,mZ _ _,by omega,fun p8 H8 hp8 g8 e8=>?_⟩
 refine⟨_,_,g8 _ _ e7,e8,(by rw[Ya,Ya,zN];show (hd (m:Int) ds).length+15<=sizeLine;exact small (by omega)),fun p9 hp9=>?_⟩
 have g9:=aJ hp9 (.lst ((hd (m:Int) ds).map V.int++(ck (hd (m:Int) ds)).map V.int))
 refine q1 hf p9 _ ((g7.trans g8).none hp9) (g7.trans (g8.trans g9)) ?_
 rw[aB]
 unfold fb
 rw[Ym]
 rfl
variable (Zc3:FB P w K mg base (CX0) 6 "wire_of" ZiC Zk9 ["name","data"] (a5K K Zdx))
include ZaL ZL Zv Zdw Zbz in
theorem Zmy (F0:GFm K mg "wire_of" Zle ZiC Zk9):type_of% Zc3:=by
 refine fbM ["name","data"] F0 fun Sc0=>F0.F.ok Sc0 (fun vs H Q E h=>?_) fun cdv A outer s H vs Q E hr h=>?_
 ·obtain⟨n,a,ds,rfl,_⟩:=h
  rfl
 obtain⟨n,a,ds,rfl,hS,hl,q1,q2⟩:=h
 have nd:=Sc0.nd
 refine⟨_,(aF (aM (aQ Zdw.1 (hr.mono (by decide)) rfl Zdw.2.2.2 Zdw.2.2.1 Zdw.2.1 .nil aK (aA (aQ Zbz.1 (hr.mono (by decide)) rfl Zbz.2.2.2 Zbz.2.2.1 Zbz.2.1 .nil aK (aA (dv 0) (aA (dv 1) aD))) aD)))),?_⟩
 refine⟨n,a,ds,rfl,hS,hl,fun hf p H1 hp g1 e1=>?_,q2⟩
 have:=oH n ds
 have:=hf.2.1
 exact⟨p,fb n ds,rfl,SqL.of e1,by omega,fun p2 H2 hp2 g2 e2=>q1 hf p2 H2 (g1.none hp2) (g1.trans g2) e2⟩
variable (Zaz:FB P w K mg base (CX0) 2 "told_size" Zha ZjL ["bits"] (b5M K))
include Zdy ZbF Zw in
theorem Zl7 (F0:GFm K mg "told_size" Zj4 Zha ZjL):type_of% Zaz:=by
 refine fbM ["bits"] F0 fun Sc0=>F0.F.ok Sc0 (fun vs H Q E h=>?_) fun cdv A outer s H vs Q E hr h=>?_
 ·obtain⟨a,bs,rfl,_⟩:=h
  rfl
 obtain⟨a,bs,rfl,hS,hb,h12,hl,q⟩:=h
 have nd:=Sc0.nd
 refine⟨_,(aF (aM (aQ Zw.1 (hr.mono (by decide)) rfl Zw.2.2.2 Zw.2.2.1 Zw.2.1 .nil aK (aA (mJ a0A (dv 0) (jT (bA (v:= .int 9) rfl Zdy ⟨_,rfl⟩)) (jT (bA (v:= .int 12) rfl ZbF ⟨_,rfl⟩))) aD)))),?_⟩
 refine⟨_,hS,fun p hp=>?_⟩
 have ec:lQ (bs.map V.int) (some (9:Int)) (some (12:Int))=((bs.drop 9).take 3).map V.int:=zL rfl rfl (by omega)
 rw[ec]
 refine⟨p,_,rfl,SqL.of aB,lA hb 9 3,?_,q _ (aJ hp _)⟩
 rw[Yr];omega
variable (Zab:FB P w K mg base (CX0) 3 "is_complete" ZfH Zh8 ["bits"] (b9R K))
include ZbE Za2 ZbF ZS Zaz in
theorem Zk2 (F0:GFm K mg "is_complete" Zip ZfH Zh8):type_of% Zab:=by
 refine fbM ["bits"] F0 fun Sc0=>F0.F.ok Sc0 (fun vs H Q E h=>?_) fun cdv A outer s H vs Q E hr h=>?_
 ·obtain⟨a,bs,rfl,_⟩:=h
  rfl
 obtain⟨a,bs,rfl,hS,hb,hl,q1,q2⟩:=h
 have nd:=Sc0.nd
 refine⟨_,(aF (aM (a8A (cL a4S (bK fC rfl ZS cY (aA (dv 0) aD)) (bA (v:= .int 12) rfl ZbF ⟨_,rfl⟩) (aR _)) (yR (cL cV (bK fC rfl ZS cY (aA (dv 0) aD)) (aU cG (aU cG (bA (v:= .int 12) rfl ZbF ⟨_,rfl⟩) (aU jB (bA (v:= .int 8) rfl Za2 ⟨_,rfl⟩) (aQ Zaz.1 (hr.mono (by decide)) rfl Zaz.2.2.2 Zaz.2.2.1 Zaz.2.1 .nil aK (aA (dv 0) aD)))) (bA (v:= .int 15) rfl ZbE ⟨_,rfl⟩)) (aR _)))))),?_⟩
 refine⟨_,.inl hS,?_⟩
 rw[Ya]
 conv=>whnf
 refine bL (fun c=>?_) (fun c=>?_)
 ·have c1:(12:Int)<=((bs.length:Nat):Int):=dec_true c
  refine⟨_,.inl hS,?_⟩
  rw[Ya]
  refine⟨a,bs,rfl,hS,hb,by omega,hl,fun H1 g1=>?_⟩
  have:=a5H hb
  refine⟨⟨by decide,iU (by omega) (by omega)⟩,?_⟩
  by_cases z:lD bs
  ·have e:decide (((bs.length:Nat):Int)=12+8*((szB bs:Nat):Int)+15)=true:=Ye (by have:=z.2;omega)
   show Q (.bl (decide (((bs.length:Nat):Int)=12+8*((szB bs:Nat):Int)+15))) H1
   rw[e];exact q1 z _ g1
  ·have e:decide (((bs.length:Nat):Int)=12+8*((szB bs:Nat):Int)+15)=false:=Yi (fun y=>z ⟨by omega,by omega⟩)
   show Q (.bl (decide (((bs.length:Nat):Int)=12+8*((szB bs:Nat):Int)+15))) H1
   rw[e];exact q2 z _ g1
 ·have c1:¬ (12:Int)<=((bs.length:Nat):Int):=dec_false c
  exact q2 (fun z=>by have:=z.1;omega) _ (Same.refl _)
variable (ZbA:FB P w K mg base (CX0) 4 "read_frame" Zgi ZiW ["bits"] (b5O K Zdx))
include ZL Zv Za2 Zdy ZbF ZR Zw Zae Zaz Zab in
theorem Zly (F0:GFm K mg "read_frame" Zjj Zgi ZiW):type_of% ZbA:=by
 refine fbM ["bits","starts"] F0 fun Sc0=>F0.F.ok Sc0 (fun vs H Q E h=>?_) fun cdv A outer s H vs Q E hr h=>?_
 ·obtain⟨a,bs,rfl,_⟩:=h
  rfl
 obtain⟨a,bs,rfl,hS,hb,hl,q1,q2⟩:=h
 have nd:=Sc0.nd
 refine⟨_,(aC (bJ (fL (cP (aQ Zab.1 (hr.mono (by decide)) rfl Zab.2.2.2 Zab.2.2.1 Zab.2.1 .nil aK (aA (dv 0) aD)))) (aF dM) aV) (aC (bJ (aW rH (bQ fD (dv 0) aG (fun _ _=>rfl)) aG (aR _)) (aF dM) aV) (aC (bJ (aW rH (aQ Zae.1 (hr.mono (by decide)) rfl Zae.2.2.2 Zae.2.2.1 Zae.2.1 .nil aK (aA (dv 0) aD)) aG (aR _)) (aF dM) aV) (aC (jN (j:=1) nd rfl rfl rfl (ix:=[]) (dO rfl ZR (aA (aQ Zaz.1 (hr.mono (by decide)) rfl Zaz.2.2.2 Zaz.2.2.1 Zaz.2.1 .nil aK (aA (dv 0) aD)) aD)) (fun C fp s0 H0 at0=>cZ) (fun C fp s0 H0 at0=>(aU cG (bA (v:= .int 12) rfl ZbF ⟨_,rfl⟩) (aU jB (bA (v:= .int 8) rfl Za2 ⟨_,rfl⟩) (dv 0)))) rfl rfl (by rfl) (show ([".0","number"]:List Str).Nodup by decide +kernel)) (aF (aM (bU (aA (aQ Zw.1 (hr.mono (by decide)) rfl Zw.2.2.2 Zw.2.2.1 Zw.2.1 .nil aK (aA (mJ a0A (dv 0) (jT aG) (jT (bA (v:= .int 9) rfl Zdy ⟨_,rfl⟩))) aD)) (aA (dN rfl (ix:=[0]) (cM (dv 1)) (fun C fp s0 H0 at0=>cZ) (fun C fp s0 H0 at0=>(aQ Zw.1 (hr.mono (by decide)) rfl Zw.2.2.2 Zw.2.2.1 Zw.2.1 .nil aK (aA (mJ (b4O (K:=K)) (dv 1) (jT (dv 0)) (jT (aU cG (dv 0) (bA (v:= .int 8) rfl Za2 ⟨_,rfl⟩)))) aD))) rfl rfl (by rfl) (show ([".0","start","bits"]:List Str).Nodup by decide +kernel)) aD))))))))),?_⟩
 refine⟨a,bs,rfl,hS,hb,hl,fun hc H1 g1=>?_,fun hc H1 g1=>(q2 (fun z=>hc z.1) _ g1)⟩
 have h12:=hc.1
 have e0:atI (bs.map V.int) (0:Int)=some (.int (bs.getD 0 0)):=by rw[<-c3D (by omega)];exact uX (i:=0) (by omega)
 refine⟨_,_,g1.seq hS,e0,?_⟩
 conv=>whnf
 refine bL (fun c=>?_) (fun c=>?_)
 ·refine(q2 (fun z=>?_) _ g1)
  have:(!decide (bs.getD 0 0=0))=true:=c
  rw[Ye z.2.1]at this;cases this
 have c1:bs.getD 0 0=0:=YD fun y=>c (by
  show (!decide (bs.getD 0 0=0))=true
  rw[Yi y];rfl)
 refine⟨a,bs,rfl,g1.seq hS,hb,hl,fun H2 g2=>?_⟩
 conv=>whnf
 refine bL (fun z=>?_) (fun z=>?_)
 ·refine(q2 (fun y=>?_) _ (g1.trans g2))
  have:(!decide (((rst bs:Nat):Int)=0))=true:=z
  rw[Ye (by have:=y.2.2;omega)]at this;cases this
 have z1:rst bs=0:=YD fun y=>z (by
  show (!decide (((rst bs:Nat):Int)=0))=true
  rw[Yi (by omega)];rfl)
 have ok:zV bs:=⟨hc,c1,z1⟩
 have gs2:=g1.trans g2
 have s8:=a5H hb
 refine⟨a,bs,rfl,gs2.seq hS,hb,h12,hl,fun H3 g3=>?_⟩
 have gs3:=gs2.trans g3
 have em:((szB bs:Nat):Int).toNat=szB bs:=YB _
 refine⟨⟨by omega,by omega⟩,gB (fun i ys H'=>ys=((List.range i).map fun k=>V.int (12+8*((k:Nat):Int)))/\H'=H3) ?_ ⟨rfl,rfl⟩ ?_ ?_⟩
 ·rintro i ys H' hi ⟨rfl,_⟩
  refine bR ?_
  rw[Ya,YN];omega
 ·rintro i ys H' hi ⟨rfl,rfl⟩
  rw[em]at hi
  refine⟨⟨by decide,iU (by omega) (by omega)⟩,?_,rfl⟩
  rw[Xr,Ym]
  show _++[V.int (12+8*(0+(i:Int)))]=_++[V.int (12+8*((i:Nat):Int))]
  rw[XM]
 rintro ys H4 ⟨rfl,rfl⟩ ps hps
 rw[em]
 generalize eU:upd H4 ps _=H5
 have g4:=nS hps eU
 have e4:=nE eU
 clear eU
 have gs5:=gs3.trans g4
 refine⟨_,gs5.seq hS,fun p6 hp6=>?_⟩
 have ec:lQ (bs.map V.int) (some (1:Int)) (some (9:Int))=((bs.drop 1).take 8).map V.int:=zL rfl rfl (by omega)
 rw[ec]
 generalize eU:upd H5 p6 _=H6
 have g6:=nS hp6 eU
 have e6:=nE eU
 clear eU
 refine⟨p6,_,rfl,SqL.of e6,lA hb 1 8,(by rw[Yr];omega),?_⟩
 have gs6:=gs5.trans g6
 have e46:=g6 _ _ e4
 refine⟨⟨_,SqL.of e46⟩,cR (xs:=(List.range (szB bs)).map fun k=>V.int (12+8*((k:Nat):Int))) (fun i ys H'=>ys=((daB bs).take i).map V.int/\Same H6 H') ?_ ⟨rfl,Same.refl _⟩ (fun i ys H' _ z=>SqL.of (z.2 _ _ e46)) ?_ ?_⟩
 ·rintro i ys H' hi ⟨rfl,_⟩
  refine bR ?_
  rw[Ya,Yr]
  rw[Ya,YN]at hi
  omega
 ·rintro i x ys H' hx ⟨rfl,g⟩
  have hi:i<szB bs:=by
   have:=(Yf.mp hx).1
   rwa [Ya,YN]at this
  have ex:x=V.int (12+8*((i:Nat):Int)):=by
   rw[Yl,Xh hi]at hx
   exact(Yo hx).symm
  subst ex
  have hc2:=hc.2
  refine⟨_,(gs6.trans g).seq hS,fun p7 hp7=>?_⟩
  have ec2:lQ (bs.map V.int) (some ((12:Int)+8*((i:Nat):Int))) (some ((12:Int)+8*((i:Nat):Int)+8))=((bs.drop (12+8*i)).take 8).map V.int:=zL (by omega) (by omega) (by omega)
  rw[ec2]
  refine⟨p7,_,rfl,SqL.of aB,lA hb _ 8,(by rw[Yr];omega),?_,g.trans (aJ hp7 _)⟩
  rw[a9D hi,Ym]
  rfl
 rintro ys H7 ⟨rfl,g7⟩ p8 hp8
 have e8:upd H7 p8 (.lst (((daB bs).take ((List.range (szB bs)).map fun k=>V.int (12+8*((k:Nat):Int))).length).map V.int)) p8=some (.lst ((daB bs).map V.int)):=by
  rw[aB,Ya,YN,Yk (by rw[a1V];exact Yd _)]
 have g8:=aJ hp8 (.lst (((daB bs).take ((List.range (szB bs)).map fun k=>V.int (12+8*((k:Nat):Int))).length).map V.int))
 generalize upd H7 p8 _=H8 at e8 g8
 refine⟨aL rfl,fun t ht=>?_⟩
 have g9:=aJ ht (.tup [.int ((nm ((bs.drop 1).take 8):Nat):Int),.ref p8])
 exact q1 ok t p8 _ ((gs6.trans g7).none hp8) (gs6.trans (g7.trans (g8.trans g9))) (g9 _ _ e8) aB
variable (Zcy:MB P w K mg base (CX0) 3 Zd3 Zh0 ["self"] (a5Z CA.reader CA.streak))
include Zej Zbq Zg Zz Zp ZH ZaQ in
theorem ZkU (F0:Fun K "__init__" "Reader.__init__" Zih Zd3 Zh0):type_of% Zcy:=by
 refine mbM ["self"] F0 fun Sc0=>F0.ok Sc0 (fun vs H Q E h=>?_) fun cdv A outer s H vs Q E hr h=>?_
 ·obtain⟨a,dx,rfl,_⟩:=h
  rfl
 obtain⟨a,dx,rfl,ha,q⟩:=h
 have nd:=Sc0.nd
 refine⟨_,(aC (bM Zg Zz (dv 0) (mK Zbq ZaQ.1 (hr.mono (by decide)) rfl Zej ZaQ.2 .nil aK)) (aC (bM Zg Zp (dv 0) (cW aD)) (aF (bM Zg ZH (dv 0) bD)))),?_⟩
 refine fun st ds hst hds hne=>⟨st,ds,rfl,aB,fun H2 eH=>⟨rfl,?_⟩⟩
 have g1:Same H H2:=by rw[eH];exact bF hst hds
 have s2:jH CA.streak H2 st (sk []):=⟨ds,by rw[eH];exact aB⟩
 clear eH
 refine⟨dx, [],g1 _ _ ha,by decide,?_⟩
 have nas:a≠st:=fun z=>by rw[z,hst]at ha;cases ha
 refine⟨aL rfl,fun ks hks=>?_⟩
 have nak:a≠ks:=fun z=>by rw[z]at hks;rw[aB]at hks;cases hks
 have hks2:H2 ks=none:=by rw[aH (Ne.symm nak)]at hks;exact hks
 have nsk:st≠ks:=fun z=>by
  obtain⟨d,e⟩:=s2
  rw[z,hks2]at e;cases e
 refine⟨dx, [("streak",.ref st)],(by rw[aH nak,aB];rfl),(show 1<1000 by decide),?_⟩
 refine⟨dx,_,aB,(show 2<1000 by decide),?_⟩
 refine q _ st ks ⟨⟨dx,aB⟩,?_,?_⟩ hst (g1.none hks2) ?_
 ·refine s2.at_ ?_
  rw[aH (Ne.symm nas),aH (Ne.symm nas),aH nsk,aH (Ne.symm nas)]
 ·rw[aH (Ne.symm nak),aH (Ne.symm nak),aB]
  rfl
 ·intro x o hx e
  have hxk:x≠ks:=fun z=>by rw[z,g1.none hks2]at e;cases e
  rw[aH hx,aH hx,aH hxk,aH hx]
  exact g1 _ _ e
variable (ZbK:MB P w K mg base (CX0) 4 Zdu ZgB ["self"] (yG CA.reader CA.streak))
include ZL Zh Zg ZD ZaX Zz Zp ZK ZaU Zae Zab in
theorem Zke (F0:Fun K "judged" "Reader.judged" ZgI Zdu ZgB):type_of% ZbK:=by
 refine mbM ["self"] F0 fun Sc0=>F0.ok Sc0 (fun vs H Q E h=>?_) fun cdv A outer s H vs Q E hr h=>?_
 ·obtain⟨r,st,ks,w,t,rfl,_⟩:=h
  rfl
 obtain⟨r,st,ks,w,t,rfl,hR,hb,hl,q⟩:=h
 have nd:=Sc0.nd
 refine⟨_,(aC (bJ (cP (bW Zh ZaX ZaU.1 (hr.mono (by decide)) ZaU.2 .nil aK (aN Zg Zz (dv 0)))) (aF (aM bD)) aV) (aC (bJ (PW.pt (sH (cP (bW Zh ZD ZK.1 (hr.mono (by decide)) ZK.2 .nil aK (aN Zg Zz (dv 0)))) (nU (fL (cP (aQ Zab.1 (hr.mono (by decide)) rfl Zab.2.2.2 Zab.2.2.1 Zab.2.1 .nil aK (aA (aN Zg Zp (dv 0)) aD))))))) (aF (aM bD)) aV) (aF (aM (bT (cH (aW cV (aQ Zae.1 (hr.mono (by decide)) rfl Zae.2.2.2 Zae.2.2.1 Zae.2.1 .nil aK (aA (aN Zg Zp (dv 0)) aD)) aG (aR _)) bD bD)))))),?_⟩
 obtain⟨dx,er⟩:=hR.rd
 have hs:=hR.sk
 obtain⟨ds,es⟩:=id hs
 refine⟨dx,_,.ref st,er,rfl,⟨ds,_,es,rfl⟩,st,sk w,rfl,hs,?_⟩
 conv=>whnf
 refine bL (fun c=>?_) (fun c=>?_)
 ·have c1:5<run w:=dec_true c
  have:=q H (Same.refl _)
  rw[pQ c1]at this
  exact this
 have c1:¬ 5<run w:=dec_false c
 refine⟨dx,_,.ref st,er,rfl,⟨ds,_,es,rfl⟩,st,sk w,rfl,hs,?_⟩
 conv=>whnf
 refine bL (fun z=>?_) (fun z=>?_)
 ·have z1:run w=5:=dec_true z
  have:=q H (Same.refl _)
  rw[lC c1 (.inl z1)]at this
  exact this
 have z1:¬ run w=5:=dec_false z
 have kb:=uJ hb
 have kl:=uI w
 refine⟨dx,_,.ref ks,er,rfl,ks,kp w,rfl,SqL.of hR.kp,kb,by omega,fun hc H1 g1=>?_,fun hc H1 g1=>?_⟩
 ·have hc2:¬ (run w=5\/¬ lD (kp w)):=fun y=>y.elim z1 fun x=>x hc
  refine⟨fun x H'=>x= .str (ans w)/\Same H H',?_,?_⟩
  ·refine⟨dx,_,.ref ks,g1 _ _ er,rfl,ks,kp w,rfl,SqL.of (g1 _ _ hR.kp),kb,by omega,fun H2 g2=>?_⟩
   conv=>whnf
   refine bL (fun y=>?_) (fun y=>?_)
   ·have y1:((rst (kp w):Nat):Int)=0:=dec_true y
    rw[oJ c1 hc2 (by omega)]
    exact⟨rfl,g1.trans g2⟩
   ·have y1:¬ ((rst (kp w):Nat):Int)=0:=dec_false y
    rw[uZ c1 hc2 (by omega)]
    exact⟨rfl,g1.trans g2⟩
  ·rintro x H2 ⟨rfl,g2⟩
   exact q _ g2
 ·have:=q H1 g1
  rw[lC c1 (.inr hc)]at this
  exact this
variable (Z9:MB P w K mg base (CX0) 5 Zd2 ZhZ ["self","bit"] (a6A CA.reader CA.streak))
include ZL Zh Zg ZT ZD Zbl Zz Zp ZH ZV ZK ZbK in
theorem ZkT (F0:Fun K "hear" "Reader.hear" Zig Zd2 ZhZ):type_of% Z9:=by
 refine mbM ["self","bit","is_put_in"] F0 fun Sc0=>F0.ok Sc0 (fun vs H Q E h=>?_) fun cdv A outer s H vs Q E hr h=>?_
 ·obtain⟨r,st,ks,w,t,b,rfl,_⟩:=h
  rfl
 obtain⟨r,st,ks,w,t,b,rfl,hR,hb,hl,q⟩:=h
 have nd:=Sc0.nd
 refine⟨_,(aC (aX (i:=2) nd rfl (Or.inl rfl) (bW Zh ZD ZK.1 (hr.mono (by decide)) ZK.2 .nil aK (aN Zg Zz (dv 0)))) (aC (bB (cB Zh ZT ZV.1 (hr.mono (by decide)) ZV.2 .nil aK (aN Zg Zz (dv 0)) (aA (dv 1) aD))) (aC (kW (bJ (fL (cP (dv 2))) (aF (bB (cU (aN Zg Zp (dv 0)) (aA (dv 1) aD)))) aV)) (aC (bM Zg ZH (dv 0) (bW Zg Zbl ZbK.1 (hr.mono (by decide)) ZbK.2 .nil aK (dv 0))) (aF (aM (aN Zg ZH (dv 0)))))))),?_⟩
 obtain⟨dx,er⟩:=hR.rd
 have hs:=hR.sk
 obtain⟨ds,es⟩:=id hs
 refine⟨dx,_,.ref st,er,rfl,⟨ds,_,es,rfl⟩,st,sk w,rfl,hs,?_⟩
 refine⟨dx,_,.ref st,er,rfl,⟨ds,_,es,rfl⟩,st,sk w,b,rfl,hs,fun H2 s2 k2=>?_⟩
 rw[<-lH]at s2
 have er2:=(k2 r hR.ne1).trans er
 have ek2:=(k2 ks hR.ne3).trans hR.kp
 have kl:=uI w
 refine⟨fun σ' H'=>σ'= [some (.ref r),some (.int b),some (.bl (decide (run w=5)))]/\gU CA.reader CA.streak H' r st ks (w++[b]) t/\b2Y H H' r st ks,?_,?_⟩
 ·conv =>whnf
  refine bL (fun c=>?_) (fun c=>?_)
  ·have c1:¬ run w=5:=fun y=>by
    have:(!decide (run w=5))=true:=c
    rw[Ye y]at this;cases this
   refine⟨dx,_,.ref ks,er2,rfl,⟨_,SqL.of ek2⟩,_,ek2,bR (by rw[Ya];omega),rfl,⟨⟨dx,(by rw[aH hR.ne2];exact er2)⟩,s2.set ek2,?_⟩,?_⟩
   ·rw[aB,fW,if_neg c1,Ym];rfl
   ·intro x o h1 h2 h3 e
    rw[aH h3,k2 x h2]
    exact e
  ·have c1:run w=5:=YD fun y=>c (by
    show (!decide (run w=5))=true
    rw[Yi y];rfl)
   refine⟨rfl,⟨⟨dx,er2⟩,s2,?_⟩,?_⟩
   ·rw[fW,if_pos c1];exact ek2
   ·intro x o h1 h2 h3 e
    rw[k2 x h2]
    exact e
 rintro σ' H3 ⟨rfl,hR3,b3⟩
 have h450:(w++[b]).length<=450:=by rw[Yc,Yt];omega
 obtain⟨dy,er3⟩:=hR3.rd
 refine⟨⟨dy,_,er3,rfl⟩,r,st,ks,w++[b],t,rfl,hR3,hb,h450,fun H4 g4=>?_⟩
 have hR4:=hR3.same g4
 obtain⟨dz,er4⟩:=hR4.rd
 refine⟨dz,_,er4,(show 3<1000 by decide),?_⟩
 have hR5:gU CA.reader CA.streak (upd H4 r (.ins CA.reader dz (rdF st ks (ans (w++[b]))))) r st ks (w++[b]) (ans (w++[b])):=⟨⟨dz,aB⟩,hR4.sk.at_ (aH (Ne.symm hR4.ne1)),by rw[aH (Ne.symm hR4.ne2)];exact hR4.kp⟩
 have b5:b2Y H (upd H4 r (.ins CA.reader dz (rdF st ks (ans (w++[b]))))) r st ks:=fun x o h1 h2 h3 e=>by
  rw[aH h1]
  exact g4 _ _ (b3 x o h1 h2 h3 e)
 exact⟨dz,_,.str (ans (w++[b])),aB,rfl,q _ hR5 b5⟩
variable (Zcg:MB P w K mg base (CX0) 1 ZdI Zhi ["self"] (a2V CA.reader CA.streak))
include ZaM Zg Zp in
theorem Zkw (F0:Fun K "plain" "Reader.plain" Zhw ZdI Zhi):type_of% Zcg:=by
 refine mbM ["self"] F0 fun Sc0=>F0.ok Sc0 (fun vs H Q E h=>?_) fun cdv A outer s H vs Q E hr h=>?_
 ·obtain⟨r,st,ks,w,t,rfl,_⟩:=h
  rfl
 obtain⟨r,st,ks,w,t,rfl,hR,q⟩:=h
 have nd:=Sc0.nd
 refine⟨_,(aF (aM (fU iB rfl ZaM iR (aA (aN Zg Zp (dv 0)) aD)))),?_⟩
 obtain⟨dx,er⟩:=hR.rd
 exact⟨dx,_,.ref ks,er,rfl,_,.inl (SqL.of hR.kp),fun p hp=>q p _ hp (aJ hp _) aB⟩
variable (Zcf:MB P w K mg base (CX0) 5 ZdH Zhh ["self"] (a2W CA.reader CA.streak))
include ZL Zv Zg Zp ZH ZbA in
theorem Zkv (F0:Fun K "frame" "Reader.frame" Zhv ZdH Zhh):type_of% Zcf:=by
 refine mbM ["self"] F0 fun Sc0=>F0.ok Sc0 (fun vs H Q E h=>?_) fun cdv A outer s H vs Q E hr h=>?_
 ·obtain⟨r,st,ks,w,rfl,_⟩:=h
  rfl
 obtain⟨r,st,ks,w,rfl,hR,hb,hl,h0,q1,q2⟩:=h
 have nd:=Sc0.nd
 refine⟨_,(aF (aM (bT (cH (aW cV (aN Zg ZH (dv 0)) bD (aR _)) (aQ ZbA.1 (hr.mono (by decide)) rfl ZbA.2.2.2 ZbA.2.2.1 ZbA.2.1 .nil aK (aA (aN Zg Zp (dv 0)) aD)) nW)))),?_⟩
 obtain⟨dx,er⟩:=hR.rd
 have kb:=uJ hb
 have kl:=uI w
 refine⟨fun x H'=>Q x H',?_,fun x H' z=>z⟩
 refine⟨dx,_,.str (ans w),er,rfl,?_⟩
 conv=>whnf
 refine bL (fun c=>?_) (fun c=>?_)
 ·have c1:ans w="whole":=YK c
  have c2:=nM c1
  have ok:zV (kp w):=⟨c2.1,h0 c1,c2.2⟩
  refine⟨dx,_,.ref ks,er,rfl,ks,kp w,rfl,SqL.of hR.kp,kb,by omega,fun _ t p H' hp g e1 e2=>q1 c1 ok t p H' hp g e1 e2,fun no=>absurd ok no⟩
 ·exact q2 fun z=>c (Ye z)
variable (Zbb:MB P w K mg base (CX0) 1 Zfg ZjD ["self","votes","spoke"] (a5P K CA.rtail CA.stail))
include Ze Zd in
theorem ZlZ (F0:Fun K "__init__" "Tail.__init__" ZjW Zfg ZjD):type_of% Zbb:=by
 refine mbM ["self","votes","spoke"] F0 fun Sc0=>F0.ok Sc0 (fun vs H Q E h=>?_) fun cdv A outer s H vs Q E hr h=>?_
 ·obtain⟨t,C,dx,v,s,rfl,_⟩:=h
  rfl
 obtain⟨t,C,dx,v,s,rfl,hC,e,q⟩:=h
 have nd:=Sc0.nd
 refine⟨_,(aC (lJ (dv 0) (dv 1)) (aC (lJ (dv 0) (dv 2)) (aC (lJ (dv 0) aG) (aF (lJ (dv 0) aG))))),?_⟩
 have hc:=iM Ze Zd hC
 refine⟨C,dx,_,e,hc.cls,hc.n1,by decide,?_⟩
 refine⟨C,dx,_,aB,hc.cls,hc.n2,(show 1<1000 by decide),?_⟩
 refine⟨C,dx,_,aB,hc.cls,hc.n3,(show 2<1000 by decide),?_⟩
 refine⟨C,dx,_,aB,hc.cls,hc.n4,(show 3<1000 by decide),?_⟩
 have eu:∀(H:Hp)(a:Addr)(x y:HO),upd (upd H a x) a y=upd H a y:=fun H a x y=>by
  funext z
  by_cases h:z=a
  ·rw[h,aB,aB]
  ·rw[aH h,aH h,aH h]
 rw[eu,eu,eu]
 exact q
variable (Zbc:MB P w K mg base (CX0) 1 ZdT ZjE ["self"] (a5O CA.rtail CA.stail))
include ZcL Ze Zd in
theorem Zl0 (F0:Fun K "says" "Tail.says" ZjX ZdT ZjE):type_of% Zbc:=by
 refine mbM ["self"] F0 fun Sc0=>F0.ok Sc0 (fun vs H Q E h=>?_) fun cdv A outer s H vs Q E hr h=>?_
 ·obtain⟨t,v,s,o,n,rfl,_⟩:=h
  rfl
 obtain⟨t,v,s,o,n,rfl,⟨C,dx,hC,e⟩,q⟩:=h
 have nd:=Sc0.nd
 refine⟨_,(aF (aM (bT (cH (PW.pt (kO (aW cV (eZ (dv 0)) (bA (v:= .int 1) rfl ZcL ⟨_,rfl⟩) (aR _)) (jM (fL (cP (eZ (dv 0))))))) aG aG)))),?_⟩
 have hc:=iM Ze Zd hC
 refine⟨fun x H'=>x= .int (eQ s o)/\H'=H,?_,?_⟩
 ·refine⟨C,dx,_,_,e,hc.cls,hc.n3,rfl,?_⟩
  conv=>whnf
  refine bL (fun c=>?_) (fun c=>yZ ?_)
  ·have c1:((o:Nat):Int)=1:=dec_true c
   refine⟨C,dx,_,_,e,hc.cls,hc.n2,rfl,?_⟩
   cases s
   ·refine⟨?_,rfl⟩
    unfold eQ
    rw[if_pos ⟨by omega,rfl⟩]
   ·refine⟨?_,rfl⟩
    unfold eQ
    rw[if_neg fun z=>nomatch z.2]
  ·have c1:¬ ((o:Nat):Int)=1:=dec_false c
   refine⟨?_,rfl⟩
   unfold eQ
   rw[if_neg fun z=>c1 (by omega)]
 rintro x H' ⟨rfl,rfl⟩
 exact q
variable (Zix:MB P w K mg base (CX0) 1 Zge ZiR ["self"] (a2R CA.rtail CA.stail))
include Ze Zd in
theorem Zlt (F0:Fun K "place" "Tail.place" Zje Zge ZiR):type_of% Zix:=by
 refine mbM ["self"] F0 fun Sc0=>F0.ok Sc0 (fun vs H Q E h=>?_) fun cdv A outer s H vs Q E hr h=>?_
 ·obtain⟨t,v,s,o,n,rfl,_⟩:=h
  rfl
 obtain⟨t,v,s,o,n,rfl,⟨C,dx,hC,e⟩,q⟩:=h
 have nd:=Sc0.nd
 refine⟨_,(aF (aM (eZ (dv 0)))),?_⟩
 have hc:=iM Ze Zd hC
 exact⟨C,dx,_,_,e,hc.cls,hc.n3,rfl,q⟩
variable (ZbL:MB P w K mg base (CX0) 1 ZcE ZgC ["self","at","bit"] (a2T CA.rtail CA.stail))
include ZcL Ze Zd in
theorem Zkf (F0:Fun K "is_fault" "Tail.is_fault" ZgJ ZcE ZgC):type_of% ZbL:=by
 refine mbM ["self","at","bit"] F0 fun Sc0=>F0.ok Sc0 (fun vs H Q E h=>?_) fun cdv A outer s H vs Q E hr h=>?_
 ·obtain⟨t,v,s,o,n,a,b,rfl,_⟩:=h
  rfl
 obtain⟨t,v,s,o,n,a,b,rfl,⟨C,dx,hC,e⟩,q⟩:=h
 have nd:=Sc0.nd
 refine⟨_,(aC (bJ (aW cV (dv 1) (bA (v:= .int 1) rfl ZcL ⟨_,rfl⟩) (aR _)) (aF (aM (a8A (eZ (dv 0)) (yR (cL cV (dv 2) aG (aR _)))))) aV) (aF (aM (cL cV (dv 2) aG (aR _))))),?_⟩
 have hc:=iM Ze Zd hC
 conv=>whnf
 refine bL (fun c=>?_) (fun c=>?_)
 ·have c1:((a:Nat):Int)=1:=dec_true c
  have ef:fJ s a b=(s && decide (b=1)):=if_pos (by omega)
  rw[ef]at q
  refine⟨C,dx,_,_,e,hc.cls,hc.n2,rfl,?_⟩
  cases s
  ·exact q
  ·exact q
 ·have c1:¬ ((a:Nat):Int)=1:=dec_false c
  have ef:fJ s a b=decide (b=0):=if_neg (by omega)
  rw[ef]at q
  exact q
variable (Za6:MB P w K mg base (CX0) 1 ZbC Zfl ["self","bit"] (a2S CA.rtail CA.stail))
include ZaZ Ze Zd in
theorem Ziq (F0:Fun K "judged_vote" "Tail.judged_vote" Zfm ZbC Zfl):type_of% Za6:=by
 refine mbM ["self","bit"] F0 fun Sc0=>F0.ok Sc0 (fun vs H Q E h=>?_) fun cdv A outer s H vs Q E hr h=>?_
 ·obtain⟨t,v,s,o,n,b,rfl,_⟩:=h
  rfl
 obtain⟨t,v,s,o,n,b,rfl,⟨C,dx,hC,e⟩,q⟩:=h
 have nd:=Sc0.nd
 refine⟨_,(aC (kW (bJ (aW cV (dv 1) aG (aR _)) (aF (lJ (dv 0) (aU cG (eZ (dv 0)) aG))) aV)) (aC (bJ (aW xV (eZ (dv 0)) (aU cG (bA (v:= .int 9) rfl ZaZ ⟨_,rfl⟩) (eZ (dv 0))) (aR _)) (aF (aM bD)) aV) (aF (aM (bT (cH (aW tV (eZ (dv 0)) (aU a4T (eZ (dv 0)) aG) (aR _)) bD bD)))))),?_⟩
 have hc:=iM Ze Zd hC
 refine⟨fun σ' H'=>σ'= [some (.ref t),some (.int b)]/\H' t=some (.ins C dx (tlF v s o (if b=0 then n+1 else n)))/\a9V H H' t,?_,?_⟩
 ·conv=>whnf
  refine bL (fun c=>?_) (fun c=>?_)
  ·have c1:b=0:=dec_true c
   refine⟨C,dx,_,_,e,hc.cls,hc.n4,rfl,C,dx,_,e,hc.cls,hc.n4,(show 4<1000 by decide),rfl,?_,fun x u hx ex=>by rw[aH hx];exact ex⟩
   rw[aB,if_pos c1]
   rfl
  ·have c1:¬ b=0:=dec_false c
   refine⟨rfl,?_,fun x u hx ex=>ex⟩
   rw[if_neg c1]
   exact e
 rintro σ' H' ⟨rfl,e',b'⟩
 have q':=q H' ⟨C,dx,hC,e'⟩ b'
 generalize (if b=0 then n+1 else n)=m at e' q'
 refine⟨C,dx,_,_,e',hc.cls,hc.n3,rfl,C,dx,_,_,e',hc.cls,hc.n1,rfl,?_⟩
 conv=>whnf
 refine bL (fun c=>?_) (fun c=>?_)
 ·have c1:((o:Nat):Int)<9+((v:Nat):Int):=dec_true c
  have ev:fK v o m="more":=if_pos (by omega)
  rw[ev]at q'
  exact q'
 have c1:¬ ((o:Nat):Int)<9+((v:Nat):Int):=dec_false c
 have ev:fK v o m=(if v / 2<m then ("refused":Str) else ("taken":Str)):=if_neg (by omega)
 rw[ev]at q'
 refine⟨fun x H2=>x= .str (if v / 2<m then ("refused":Str) else ("taken":Str))/\H2=H',?_,?_⟩
 ·refine⟨C,dx,_,_,e',hc.cls,hc.n4,rfl,C,dx,_,_,e',hc.cls,hc.n1,rfl,?_⟩
  refine⟨⟨by decide,by decide⟩,?_⟩
  conv=>whnf
  refine bL (fun z=>?_) (fun z=>?_)
  ·have z1:((v:Nat):Int) / 2<((m:Nat):Int):=dec_true z
   rw[if_pos (by omega)]
   exact⟨rfl,rfl⟩
  ·have z1:¬ ((v:Nat):Int) / 2<((m:Nat):Int):=dec_false z
   rw[if_neg (by omega)]
   exact⟨rfl,rfl⟩
 rintro x H2 ⟨rfl,rfl⟩
 exact q'
variable (Zba:MB P w K mg base (CX0) 2 ZdS ZjC ["self","bit"] (a5Q CA.rtail CA.stail))
include ZaZ Ze Zd Za8 Za3 ZaY ZaJ ZbL Za6 in
theorem ZlY (F0:Fun K "hear" "Tail.hear" ZjV ZdS ZjC):type_of% Zba:=by
 refine mbM ["self","bit","at"] F0 fun Sc0=>F0.ok Sc0 (fun vs H Q E h=>?_) fun cdv A outer s H vs Q E hr h=>?_
 ·obtain⟨t,v,s,o,n,b,rfl,_⟩:=h
  rfl
 obtain⟨t,v,s,o,n,b,rfl,⟨C,dx,hC,e⟩,q⟩:=h
 have nd:=Sc0.nd
 refine⟨_,(aC (aX (i:=2) nd rfl (Or.inl rfl) (eZ (dv 0))) (aC (lJ (dv 0) (aU cG (dv 2) aG)) (aC (bJ (aW a4S (dv 2) (bA (v:= .int 9) rfl ZaZ ⟨_,rfl⟩) (aR _)) (aF (aM (mR Za6.1 (hr.mono (by decide)) Za6.2 .nil aK (dv 0) (aA (dv 1) aD)))) aV) (aF (aM (bT (cH (cP (mR ZbL.1 (hr.mono (by decide)) ZbL.2 .nil aK (dv 0) (aA (dv 2) (aA (dv 1) aD)))) bD bD))))))),?_⟩
 have hc:=iM Ze Zd hC
 have hmj:=oN ZaY ZaJ hC
 have hmf:=oN Za8 Za3 hC
 refine⟨C,dx,_,_,e,hc.cls,hc.n3,rfl,C,dx,_,e,hc.cls,hc.n3,(show 4<1000 by decide),?_⟩
 have e1:upd H t (.ins C dx (dZ "over" (.int (((o:Nat):Int)+1)) (tlF v s o n))) t=some (.ins C dx (tlF v s (o+1) n)):=aB
 have b1:a9V H (upd H t (.ins C dx (dZ "over" (.int (((o:Nat):Int)+1)) (tlF v s o n)))) t:=fun x u hx ex=>by rw[aH hx];exact ex
 generalize upd H t (.ins C dx (dZ "over" (.int (((o:Nat):Int)+1)) (tlF v s o n)))=H1 at e1 b1
 conv=>whnf
 refine bL (fun c=>?_) (fun c=>?_)
 ·have c1:(9:Int)<=((o:Nat):Int):=dec_true c
  have c2:9<=o:=by omega
  refine⟨⟨C,dx,_,e1,hc.cls,hmj,rfl⟩,t,v,s,o+1,n,b,rfl,⟨C,dx,hC,e1⟩,fun H2 h2 b2=>?_⟩
  have en:tlN o b n=(if b=0 then n+1 else n):=by
   unfold tlN
   by_cases z:b=0
   ·rw[if_pos ⟨c2,z⟩,if_pos z]
   ·rw[if_neg fun y=>z y.2,if_neg z]
  have ew:aZ v s o n b=fK v (o+1) (tlN o b n):=if_pos c2
  rw[<-en]at h2 ⊢
  have:=q H2 h2 fun x u hx ex=>b2 x u hx (b1 x u hx ex)
  rw[ew]at this
  exact this
 have c1:¬ (9:Int)<=((o:Nat):Int):=dec_false c
 have c2:¬ 9<=o:=by omega
 have en:tlN o b n=n:=if_neg fun z=>c2 z.1
 have ew:aZ v s o n b=(if fJ s o b=true then ("fault":Str) else ("more":Str)):=if_neg c2
 rw[ew,en]at q
 have q':=q H1 ⟨C,dx,hC,e1⟩ b1
 refine⟨fun x H2=>x= .str (if fJ s o b=true then ("fault":Str) else ("more":Str))/\H2=H1,?_,?_⟩
 ·refine⟨⟨C,dx,_,e1,hc.cls,hmf,rfl⟩,t,v,s,o+1,n,o,b,rfl,⟨C,dx,hC,e1⟩,?_⟩
  generalize fJ s o b=f
  cases f
  ·exact⟨rfl,rfl⟩
  ·exact⟨rfl,rfl⟩
 rintro x H2 ⟨rfl,rfl⟩
 exact q'
variable (Zax:MB P w K mg base (CX0) 2 Zdt ZgA ["self","votes"] (vO CA.rtail false))
include Zc0 Ze Zd Zas Zbb in
theorem Zkd (F0:Fun K "__init__" "ReadTail.__init__" ZgH Zdt ZgA):type_of% Zax:=by
 refine mbM ["self","votes"] F0 fun Sc0=>F0.ok Sc0 (fun vs H Q E h=>?_) fun cdv A outer s H vs Q E hr h=>?_
 ·obtain⟨t,dx,v,rfl,_⟩:=h
  rfl
 obtain⟨t,dx,v,rfl,e,q⟩:=h
 have nd:=Sc0.nd
 refine⟨_,(aF (bB (wL Zas Zbb.1 (hr.mono (by decide)) Zbb.2 .nil aK (bA (v:= .ref ZdR) rfl Zc0 rfl) (aA (dv 0) (aA (dv 1) (aA iD aD)))))),?_⟩
 exact⟨rfl,t,CA.rtail,dx,v,false,rfl,.inl rfl,e,q _ rfl⟩
variable (Zao:MB P w K mg base (CX0) 2 Zda Zgo ["self","votes"] (vO CA.stail true))
include Zc0 Ze Zd Zas Zbb in
theorem Zjr (F0:Fun K "__init__" "SpeakTail.__init__" Zgu Zda Zgo):type_of% Zao:=by
 refine mbM ["self","votes"] F0 fun Sc0=>F0.ok Sc0 (fun vs H Q E h=>?_) fun cdv A outer s H vs Q E hr h=>?_
 ·obtain⟨t,dx,v,rfl,_⟩:=h
  rfl
 obtain⟨t,dx,v,rfl,e,q⟩:=h
 have nd:=Sc0.nd
 refine⟨_,(aF (bB (wL Zas Zbb.1 (hr.mono (by decide)) Zbb.2 .nil aK (bA (v:= .ref ZdR) rfl Zc0 rfl) (aA (dv 0) (aA (dv 1) (aA iD aD)))))),?_⟩
 exact⟨rfl,t,CA.stail,dx,v,true,rfl,.inr rfl,e,q _ rfl⟩
variable (ZcQ:MB P w K mg base (CX0) 1 Zes ZiE ["self"] (a6I CA.count))
include Zf Zo in
theorem Zlg (F0:Fun K "__init__" "Count.__init__" Zi1 Zes ZiE):type_of% ZcQ:=by
 refine mbM ["self"] F0 fun Sc0=>F0.ok Sc0 (fun vs H Q E h=>?_) fun cdv A outer s H vs Q E hr h=>?_
 ·obtain⟨a,dx,rfl,_⟩:=h
  rfl
 obtain⟨a,dx,rfl,ha,q⟩:=h
 have nd:=Sc0.nd
 refine⟨_,(aF (bM Zf Zo (dv 0) aG)),?_⟩
 exact⟨dx, [],ha,by decide,q⟩
variable (Zbm:MB P w K mg base (CX0) 1 Zc7 Zgl ["self"] (b3R CA.count 12))
include ZeN Zf Zo in
theorem Zjo (F0:Fun K "is_quiet" "Count.is_quiet" Zgr Zc7 Zgl):type_of% Zbm:=by
 refine mbM ["self"] F0 fun Sc0=>F0.ok Sc0 (fun vs H Q E h=>?_) fun cdv A outer s H vs Q E hr h=>?_
 ·obtain⟨a,n,rfl,_⟩:=h
  rfl
 obtain⟨a,n,rfl,⟨dx,ha⟩,q⟩:=h
 have nd:=Sc0.nd
 refine⟨_,(aF (aM (cL a4S (aN Zf Zo (dv 0)) (bA (v:= .int 12) rfl ZeN ⟨_,rfl⟩) (aR _)))),?_⟩
 exact⟨dx,_,.int n,ha,rfl,q⟩
variable (ZaF:MB P w K mg base (CX0) 1 ZdE Zhd ["self"] (b3R CA.count 18))
include ZfP Zf Zo in
theorem Zkr (F0:Fun K "is_off" "Count.is_off" Zhr ZdE Zhd):type_of% ZaF:=by
 refine mbM ["self"] F0 fun Sc0=>F0.ok Sc0 (fun vs H Q E h=>?_) fun cdv A outer s H vs Q E hr h=>?_
 ·obtain⟨a,n,rfl,_⟩:=h
  rfl
 obtain⟨a,n,rfl,⟨dx,ha⟩,q⟩:=h
 have nd:=Sc0.nd
 refine⟨_,(aF (aM (cL a4S (aN Zf Zo (dv 0)) (bA (v:= .int 18) rfl ZfP ⟨_,rfl⟩) (aR _)))),?_⟩
 exact⟨dx,_,.int n,ha,rfl,q⟩
variable (Zhc:MB P w K mg base (CX0) 1 Ze3 Zhe ["self"] (b9Q CA.count))
include Zf Zo in
theorem Zks (F0:Fun K "number" "Count.number" Zhs Ze3 Zhe):type_of% Zhc:=by
 refine mbM ["self"] F0 fun Sc0=>F0.ok Sc0 (fun vs H Q E h=>?_) fun cdv A outer s H vs Q E hr h=>?_
 ·obtain⟨a,n,rfl,_⟩:=h
  rfl
 obtain⟨a,n,rfl,⟨dx,ha⟩,q⟩:=h
 have nd:=Sc0.nd
 refine⟨_,(aF (aM (aN Zf Zo (dv 0)))),?_⟩
 exact⟨dx,_,.int n,ha,rfl,q⟩
variable (Zak:MB P w K mg base (CX0) 2 Zet ZiF ["self","step"] (a6H CA.count))
include ZlJ Zf Zap Zo ZaF in
theorem Zlh (F0:Fun K "move" "Count.move" Zi2 Zet ZiF):type_of% Zak:=by
 refine mbM ["self","step"] F0 fun Sc0=>F0.ok Sc0 (fun vs H Q E h=>?_) fun cdv A outer s H vs Q E hr h=>?_
 ·obtain⟨a,n,st,rfl,_⟩:=h
  rfl
 obtain⟨a,n,st,rfl,⟨dx,ha⟩,q⟩:=h
 have nd:=Sc0.nd
 refine⟨_,(aF (bJ (fL (cP (bW Zf Zap ZaF.1 (hr.mono (by decide)) ZaF.2 .nil aK (dv 0)))) (aF (bM Zf Zo (dv 0) (bK (b4Q rfl) rfl ZlJ b8E (aA aG (aA (aU cG (aN Zf Zo (dv 0)) (dv 1)) aD))))) aV)),?_⟩
 refine⟨⟨dx,_,ha,rfl⟩,a,n,rfl,⟨dx,ha⟩,?_⟩
 conv=>whnf
 refine bL (fun c=>?_) (fun c=>?_)
 ·have c1:¬ (18:Int)<=n:=fun z=>by
   have:(!decide ((18:Int)<=n))=true:=c
   rw[Ye z]at this
   cases this
  refine⟨dx,_,.int n,ha,rfl,dx,_,ha,(show 1<1000 by decide),q _ ?_ fun b hb=>aH hb⟩
  refine⟨dx,?_⟩
  unfold mvd
  rw[if_neg c1]
  exact aB
 ·have c1:(18:Int)<=n:=YD fun z=>c (by
   show (!decide ((18:Int)<=n))=true
   rw[Yi z];rfl)
  refine q _ ?_ fun b hb=>rfl
  unfold mvd
  rw[if_pos c1]
  exact⟨dx,ha⟩
variable (ZaN:MB P w K mg base (CX0) 3 ZdW ZhT ["self","spoke"] (a2Y CA.count))
include ZbW Zeb Zf ZW Zak in
theorem ZkN (F0:Fun K "fault" "Count.fault" Zia ZdW ZhT):type_of% ZaN:=by
 refine mbM ["self","spoke"] F0 fun Sc0=>F0.ok Sc0 (fun vs H Q E h=>?_) fun cdv A outer s H vs Q E hr h=>?_
 ·obtain⟨a,n,b,rfl,_⟩:=h
  rfl
 obtain⟨a,n,b,rfl,⟨dx,ha⟩,q⟩:=h
 have nd:=Sc0.nd
 refine⟨_,(aF (bB (cB Zf ZW Zak.1 (hr.mono (by decide)) Zak.2 .nil aK (dv 0) (aA (bT (cH (cP (dv 1)) (bA (v:= .int 8) rfl ZbW ⟨_,rfl⟩) (bA (v:= .int 1) rfl Zeb ⟨_,rfl⟩))) aD)))),?_⟩
 refine⟨⟨dx,_,ha,rfl⟩,fun x H'=>x= .int (if b=true then 8 else 1)/\H'=H,?_,?_⟩
 ·cases b with
  |true=>exact⟨rfl,rfl⟩
  |false=>exact⟨rfl,rfl⟩
 rintro x H' ⟨rfl,rfl⟩
 exact⟨a,n,_,rfl,⟨dx,ha⟩,q⟩
variable (Zct:MB P w K mg base (CX0) 3 ZdV ZhS ["self"] (vP CA.count 8))
include ZbW Zf ZW Zak in
theorem ZkM (F0:Fun K "blame" "Count.blame" Zh9 ZdV ZhS):type_of% Zct:=by
 refine mbM ["self"] F0 fun Sc0=>F0.ok Sc0 (fun vs H Q E h=>?_) fun cdv A outer s H vs Q E hr h=>?_
 ·obtain⟨a,n,rfl,_⟩:=h
  rfl
 obtain⟨a,n,rfl,⟨dx,ha⟩,q⟩:=h
 have nd:=Sc0.nd
 refine⟨_,(aF (bB (cB Zf ZW Zak.1 (hr.mono (by decide)) Zak.2 .nil aK (dv 0) (aA (bA (v:= .int 8) rfl ZbW ⟨_,rfl⟩) aD)))),?_⟩
 exact⟨⟨dx,_,ha,rfl⟩,a,n,8,rfl,⟨dx,ha⟩,q⟩
variable (ZcP:MB P w K mg base (CX0) 3 Zer ZiD ["self"] (vP CA.count (-1)))
include Zf ZW Zak in
theorem Zlf (F0:Fun K "good" "Count.good" Zi0 Zer ZiD):type_of% ZcP:=by
 refine mbM ["self"] F0 fun Sc0=>F0.ok Sc0 (fun vs H Q E h=>?_) fun cdv A outer s H vs Q E hr h=>?_
 ·obtain⟨a,n,rfl,_⟩:=h
  rfl
 obtain⟨a,n,rfl,⟨dx,ha⟩,q⟩:=h
 have nd:=Sc0.nd
 refine⟨_,(aF (bB (cB Zf ZW Zak.1 (hr.mono (by decide)) Zak.2 .nil aK (dv 0) (aA (a0R a0D aG) aD)))),?_⟩
 exact⟨⟨dx,_,ha,rfl⟩,a,n, -1,rfl,⟨dx,ha⟩,q⟩
variable (Zai:FB P w K mg base (CX0) 7 "begun_reader" Ze4 Zhm [] (b0V CA))
include ZL Zv ZhQ Zg ZdM ZO Zcy Z9 in
theorem ZkA (F0:GFm K mg "begun_reader" ZhA Ze4 Zhm):type_of% Zai:=by
 refine fbM ["reader"] F0 fun Sc0=>F0.F.ok Sc0 (fun vs H Q E h=>?_) fun cdv A outer s H vs Q E hr h=>?_
 ·obtain⟨rfl,_⟩:=h
  rfl
 obtain⟨rfl,q⟩:=h
 have nd:=Sc0.nd
 refine⟨_,(aC (aX (i:=0) nd rfl (Or.inl rfl) (mK ZdM Zcy.1 (hr.mono (by decide)) rfl ZhQ Zcy.2 .nil aK)) (aC (bB (cB Zg ZO Z9.1 (hr.mono (by decide)) Z9.2 .nil aK (dv 0) (aA aG aD))) (aF (aM (dv 0))))),?_⟩
 refine fun r dr hr0 hdr hne=>⟨r,dr,rfl,aB,fun H2 st ks hR hst hks k2=>⟨rfl,?_⟩⟩
 have s12:Same H H2:=fun x o e=>k2 x o (aP e hr0) (by rw[aH (aP e hr0),aH (aP e hdr)];exact e)
 have nst:H st=none:=Same.none (fun x o e=>(by rw[aH (aP e hr0),aH (aP e hdr)];exact e):Same H _) hst
 have nks:H ks=none:=Same.none (fun x o e=>(by rw[aH (aP e hr0),aH (aP e hdr)];exact e):Same H _) hks
 obtain⟨dx,exr⟩:=hR.rd
 refine⟨⟨dx,_,exr,rfl⟩,r,st,ks, [],_,0,rfl,hR,(fun z hz=> .inl (Yn.mp hz)),by decide,fun H3 hR3 b3=>?_⟩
 exact q r st ks H3 _ hR3 (fun x o e=>b3 x o (aP e hr0) (aP e nst) (aP e nks) (s12 x o e)) hr0 nst nks
variable (Zaw:MB P w K mg base (CX0) 1 Ze6 Zjt ["self","since"] (yK CA.free "since"))
include ZM Z4 in
theorem ZlO (F0:Fun K "__init__" "Free.__init__" ZjM Ze6 Zjt):type_of% Zaw:=by
 refine mbM ["self","since"] F0 fun Sc0=>F0.ok Sc0 (fun vs H Q E h=>?_) fun cdv A outer s H vs Q E hr h=>?_
 ·obtain⟨a,dx,v,rfl,_⟩:=h
  rfl
 obtain⟨a,dx,v,rfl,e,q⟩:=h
 have nd:=Sc0.nd
 refine⟨_,(aF (bM ZM Z4 (dv 0) (dv 1))),?_⟩
 exact⟨dx, [],e,by decide,q _ rfl⟩
variable (ZaP:MB P w K mg base (CX0) 1 Zd4 Zh1 ["self","wire","reader","many"] (b5P CA.speaks "wire" "reader" "many"))
include Zi ZI ZQ ZC in
theorem ZkV (F0:Fun K "__init__" "Speaks.__init__" Zii Zd4 Zh1):type_of% ZaP:=by
 refine mbM ["self","wire","reader","many"] F0 fun Sc0=>F0.ok Sc0 (fun vs H Q E h=>?_) fun cdv A outer s H vs Q E hr h=>?_
 ·obtain⟨a,dx,v,w,z,rfl,_⟩:=h
  rfl
 obtain⟨a,dx,v,w,z,rfl,e,q⟩:=h
 have nd:=Sc0.nd
 refine⟨_,(aC (bM Zi ZI (dv 0) (dv 1)) (aC (bM Zi ZQ (dv 0) (dv 2)) (aF (bM Zi ZC (dv 0) (dv 3))))),?_⟩
 refine⟨dx, [],e,by decide,dx,_,aB,(show 1<1000 by decide),dx,_,aB,(show 2<1000 by decide),?_⟩
 refine q _ ?_
 rw[jL,jL]
 rfl
variable (Zal:MB P w K mg base (CX0) 1 Zez ZiL ["self","reader","many"] (yJ CA.reads "reader" "many"))
include ZF Z2 ZaK in
theorem Zln (F0:Fun K "__init__" "Reads.__init__" Zi8 Zez ZiL):type_of% Zal:=by
 refine mbM ["self","reader","many"] F0 fun Sc0=>F0.ok Sc0 (fun vs H Q E h=>?_) fun cdv A outer s H vs Q E hr h=>?_
 ·obtain⟨a,dx,v,w,rfl,_⟩:=h
  rfl
 obtain⟨a,dx,v,w,rfl,e,q⟩:=h
 have nd:=Sc0.nd
 refine⟨_,(aC (bM ZF Z2 (dv 0) (dv 1)) (aF (bM ZF ZaK (dv 0) (dv 2)))),?_⟩
 refine⟨dx, [],e,by decide,dx,_,aB,(show 1<1000 by decide),?_⟩
 refine q _ ?_
 rw[jL]
 rfl
variable (ZaO:MB P w K mg base (CX0) 1 ZdX ZhU ["self","tail","found"] (yJ CA.intail "tail" "found"))
include Zr ZB ZaC in
theorem ZkO (F0:Fun K "__init__" "InTail.__init__" Zib ZdX ZhU):type_of% ZaO:=by
 refine mbM ["self","tail","found"] F0 fun Sc0=>F0.ok Sc0 (fun vs H Q E h=>?_) fun cdv A outer s H vs Q E hr h=>?_
 ·obtain⟨a,dx,v,w,rfl,_⟩:=h
  rfl
 obtain⟨a,dx,v,w,rfl,e,q⟩:=h
 have nd:=Sc0.nd
 refine⟨_,(aC (bM Zr ZB (dv 0) (dv 1)) (aF (bM Zr ZaC (dv 0) (dv 2)))),?_⟩
 refine⟨dx, [],e,by decide,dx,_,aB,(show 1<1000 by decide),?_⟩
 refine q _ ?_
 rw[jL]
 rfl
variable (Zav:MB P w K mg base (CX0) 1 Zdp Zgw ["self","left","may_blame"] (yJ CA.flag "left" "may_blame"))
include Zt Zaf ZN in
theorem Zj9 (F0:Fun K "__init__" "Flagging.__init__" ZgD Zdp Zgw):type_of% Zav:=by
 refine mbM ["self","left","may_blame"] F0 fun Sc0=>F0.ok Sc0 (fun vs H Q E h=>?_) fun cdv A outer s H vs Q E hr h=>?_
 ·obtain⟨a,dx,v,w,rfl,_⟩:=h
  rfl
 obtain⟨a,dx,v,w,rfl,e,q⟩:=h
 have nd:=Sc0.nd
 refine⟨_,(aC (bM Zt Zaf (dv 0) (dv 1)) (aF (bM Zt ZN (dv 0) (dv 2)))),?_⟩
 refine⟨dx, [],e,by decide,dx,_,aB,(show 1<1000 by decide),?_⟩
 refine q _ ?_
 rw[jL]
 rfl
variable (ZX:MB P w K mg base (CX0) 1 ZdJ Zhj ["self","may_blame"] (yK CA.settles "may_blame"))
include ZU Z3 in
theorem Zkx (F0:Fun K "__init__" "Settles.__init__" Zhx ZdJ Zhj):type_of% ZX:=by
 refine mbM ["self","may_blame"] F0 fun Sc0=>F0.ok Sc0 (fun vs H Q E h=>?_) fun cdv A outer s H vs Q E hr h=>?_
 ·obtain⟨a,dx,v,rfl,_⟩:=h
  rfl
 obtain⟨a,dx,v,rfl,e,q⟩:=h
 have nd:=Sc0.nd
 refine⟨_,(aF (bM ZU Z3 (dv 0) (dv 1))),?_⟩
 exact⟨dx, [],e,by decide,q _ rfl⟩
variable (Z1:MB P w K mg base (CX0) 1 ZeC ZiO ["self","left"] (yK CA.rests "left"))
include ZY ZaB in
theorem Zlq (F0:Fun K "__init__" "Rests.__init__" Zjb ZeC ZiO):type_of% Z1:=by
 refine mbM ["self","left"] F0 fun Sc0=>F0.ok Sc0 (fun vs H Q E h=>?_) fun cdv A outer s H vs Q E hr h=>?_
 ·obtain⟨a,dx,v,rfl,_⟩:=h
  rfl
 obtain⟨a,dx,v,rfl,e,q⟩:=h
 have nd:=Sc0.nd
 refine⟨_,(aF (bM ZY ZaB (dv 0) (dv 1))),?_⟩
 exact⟨dx, [],e,by decide,q _ rfl⟩
variable (ZbJ:MB P w K mg base (CX0) 2 Zds Zgz ["self"] (b3S CA 12))
include Zf Za Zbf Zk Zbm in
theorem Zkc (F0:Fun K "is_quiet" "Post.is_quiet" ZgG Zds Zgz):type_of% ZbJ:=by
 refine mbM ["self"] F0 fun Sc0=>F0.ok Sc0 (fun vs H Q E h=>?_) fun cdv A outer s H vs Q E hr h=>?_
 ·obtain⟨p,nwf,S,o,rfl,_⟩:=h
  rfl
 obtain⟨p,nwf,S,o,rfl,⟨dx,ch,wl,ul,ct,ws,us,b⟩,q⟩:=h
 have nd:=Sc0.nd
 refine⟨_,(aF (aM (bW Zf Zbf Zbm.1 (hr.mono (by decide)) Zbm.2 .nil aK (aN Za Zk (dv 0))))),?_⟩
 obtain⟨dc,ec⟩:=b.et
 exact⟨dx,_,.ref ct,b.e,rfl,⟨dc,_,ec,rfl⟩,ct,S.tot,rfl,⟨dc,ec⟩,q⟩
variable (Zcw:MB P w K mg base (CX0) 2 Zd0 ZhX ["self"] (b3S CA 18))
include Zf Za Zap Zk ZaF in
theorem ZkR (F0:Fun K "is_off" "Post.is_off" Zie Zd0 ZhX):type_of% Zcw:=by
 refine mbM ["self"] F0 fun Sc0=>F0.ok Sc0 (fun vs H Q E h=>?_) fun cdv A outer s H vs Q E hr h=>?_
 ·obtain⟨p,nwf,S,o,rfl,_⟩:=h
  rfl
 obtain⟨p,nwf,S,o,rfl,⟨dx,ch,wl,ul,ct,ws,us,b⟩,q⟩:=h
 have nd:=Sc0.nd
 refine⟨_,(aF (aM (bW Zf Zap ZaF.1 (hr.mono (by decide)) ZaF.2 .nil aK (aN Za Zk (dv 0))))),?_⟩
 obtain⟨dc,ec⟩:=b.et
 exact⟨dx,_,.ref ct,b.e,rfl,⟨dc,_,ec,rfl⟩,ct,S.tot,rfl,⟨dc,ec⟩,q⟩
variable (Zbn:MB P w K mg base (CX0) 1 Zc8 Zgm ["self"] (b9O CA))
include ZS Za Zj in
theorem Zjp (F0:Fun K "has_frame" "Post.has_frame" Zgs Zc8 Zgm):type_of% Zbn:=by
 refine mbM ["self"] F0 fun Sc0=>F0.ok Sc0 (fun vs H Q E h=>?_) fun cdv A outer s H vs Q E hr h=>?_
 ·obtain⟨p,nwf,S,o,rfl,_⟩:=h
  rfl
 obtain⟨p,nwf,S,o,rfl,⟨dx,ch,wl,ul,ct,ws,us,b⟩,q⟩:=h
 have nd:=Sc0.nd
 refine⟨_,(aF (aM (cL tV (bK fC rfl ZS cY (aA (aN Za Zj (dv 0)) aD)) aG (aR _)))),?_⟩
 refine⟨dx,_,.ref wl,b.e,rfl,_,.inl (SqL.of b.ew),?_⟩
 rw[b.fw.len]
 exact q
variable (ZaT:MB P w K mg base (CX0) 7 ZbY ZeG ["self"] (yL CA))
include ZaL ZL Zv Za Zj Zc3 in
theorem Zhp (F0:Fun K "foremost_wire" "Post.foremost_wire" ZeQ ZbY ZeG):type_of% ZaT:=by
 refine mbM ["self"] F0 fun Sc0=>F0.ok Sc0 (fun vs H Q E h=>?_) fun cdv A outer s H vs Q E hr h=>?_
 ·obtain⟨p,nwf,S,o,f,r,rfl,_⟩:=h
  rfl
 obtain⟨p,nwf,S,o,f,r,rfl,⟨dx,ch,wl,ul,ct,ws,us,b⟩,ewt,hf,q⟩:=h
 have nd:=Sc0.nd
 refine⟨_,(aF (aM (aQ Zc3.1 (hr.mono (by decide)) rfl Zc3.2.2.2 Zc3.2.2.1 Zc3.2.1 .nil aK (aA (bQ eE (bQ fD (aN Za Zj (dv 0)) aG (fun _ _=>rfl)) aG (fun _ _=>rfl)) (aA (bQ eE (bQ fD (aN Za Zj (dv 0)) aG (fun _ _=>rfl)) aG (fun _ _=>rfl)) aD))))),?_⟩
 have fw:=b.fw
 rw[ewt]at fw
 generalize hws:ws=ws' at fw
 cases fw with
 | cons a rr=>
  rename_i t ts
  obtain⟨d,e1,e2,e3⟩:=a
  have ew:=b.ew
  rw[hws]at ew
  refine⟨dx,_,.ref wl,b.e,rfl,_,.ref t,SqL.of ew,at0,_,_,SqT.of e1,rfl,dx,_,.ref wl,b.e,rfl,_,.ref t,SqL.of ew,at0,_,_,SqT.of e1,rfl,?_⟩
  have h7:=hf.2.1
  refine⟨(f.1:Int),d,f.2,rfl,SqL.of e2,by omega,fun _ pw H' hpw g e=>q pw H' hpw g e,fun no=>absurd hf.ok no⟩
variable (ZaS:MB P w K mg base (CX0) 1 ZbX ZeF ["self"] (b5R CA))
include Za Zj in
theorem Zho (F0:Fun K "drop_foremost" "Post.drop_foremost" ZeP ZbX ZeF):type_of% ZaS:=by
 refine mbM ["self"] F0 fun Sc0=>F0.ok Sc0 (fun vs H Q E h=>?_) fun cdv A outer s H vs Q E hr h=>?_
 ·obtain⟨p,nwf,S,o,rfl,_⟩:=h
  rfl
 obtain⟨p,nwf,S,o,rfl,⟨dx,ch,wl,ul,ct,ws,us,b⟩,hn,q⟩:=h
 have nd:=Sc0.nd
 refine⟨_,(aF (bB (a7Y (aN Za Zj (dv 0)) (aA aG aD)))),?_⟩
 have fw:=b.fw
 generalize hws:ws=ws' at fw
 generalize hwt:S.wt=wt at fw
 cases fw with
 |nil=>exact absurd hwt hn
 | cons a rr=>
  rename_i t f ts fs
  have ew:=b.ew
  rw[hws]at ew
  refine⟨dx,_,.ref wl,b.e,rfl,⟨_,ew⟩,_,0,.ref t,ew,⟨by decide,by decide⟩,sq0,rfl,?_⟩
  have kk:cJ o H (upd H wl (.lst ts)):=fun x v e z=>by
   rw[aH]
   ·exact e
   ·rintro rfl
    rcases z with z | ⟨vs,rfl⟩
    ·exact z b.ow
    ·rw[ew]at e;cases e
  have nl:∀{x:Addr}{v:HO},H x=some v->(∀l,v≠ .lst l)->upd H wl (.lst ts) x=some v:=fun {x v} e h=>by
   rw[aH]
   ·exact e
   ·rintro rfl
    rw[ew]at e
    exact h _ (Yo e).symm
  have fk:∀{ts':List V}{fs':List Fr},dG H (Dl o wl ul) ts' fs'->dG (upd H wl (.lst ts)) (Dl o wl ul) ts' fs':=fun {ts' fs'} h=>by
   induction h with
   |nil=>exact .nil
   | cons a _ ih=>
    obtain⟨d,e1,e2,e3⟩:=a
    exact .cons ⟨d,kk.tup e1,by rw[aH e3.2.1];exact e2,e3⟩ ih
  refine q _ ⟨dx,ch,wl,ul,ct,ts,us,nl b.e (fun l z=>nomatch z),kk.tup b.ec,aB,?_,by rw[aH (Ne.symm b.ne)];exact b.eu,fk b.fu,(let ⟨d,e⟩:=b.et;⟨d,nl e fun l z=>nomatch z⟩),b.op,b.ow,b.ou,b.ot,b.ne,fun x hx=>?_⟩ kk
  ·show dG _ _ ts S.wt.tail
   rw[hwt]
   exact fk rr
  ·by_cases h:x=wl
   ·rw[h,aB];simp
   ·rw[aH h];exact b.al x hx
variable (Zcc:FB P w K mg base (CX0) 1 "is_wanted" Zg8 ZjJ ["choice","name"] (a5L K))
theorem Zl5 (F0:GFm K mg "is_wanted" Zj2 Zg8 ZjJ):type_of% Zcc:=by
 refine fbM ["choice","name"] F0 fun Sc0=>F0.F.ok Sc0 (fun vs H Q E h=>?_) fun cdv A outer s H vs Q E hr h=>?_
 ·obtain⟨c,m,t,n,rfl,_⟩:=h
  rfl
 obtain⟨c,m,t,n,rfl,e,q⟩:=h
 have nd:=Sc0.nd
 refine⟨_,(aF (aM (cL cV (aU a0E (dv 1) (bQ eE (dv 0) aG (fun _ _=>rfl))) (bQ eE (dv 0) aG (fun _ _=>rfl)) (aR _)))),?_⟩
 exact⟨_,_,SqT.of e,rfl,_,_,SqT.of e,rfl,q⟩
variable (Zce:MB P w K mg base (CX0) 2 ZdF Zhf ["self","frame"] (a6G CA))
include Za ZaH ZJ Zcc in
theorem Zkt (F0:Fun K "hand_up" "Post.hand_up" Zht ZdF Zhf):type_of% Zce:=by
 refine mbM ["self","frame"] F0 fun Sc0=>F0.ok Sc0 (fun vs H Q E h=>?_) fun cdv A outer s H vs Q E hr h=>?_
 ·obtain⟨p,nwf,S,o,t,d,n,ds,rfl,_⟩:=h
  rfl
 obtain⟨p,nwf,S,o,t,d,n,ds,rfl,⟨dx,ch,wl,ul,ct,ws,us,b⟩,et,ed,nd_,hl,q⟩:=h
 have nd:=Sc0.nd
 refine⟨_,(aF (bJ (cP (aQ Zcc.1 (hr.mono (by decide)) rfl Zcc.2.2.2 Zcc.2.2.1 Zcc.2.1 .nil aK (aA (aN Za ZaH (dv 0)) (aA (bQ eE (dv 1) aG (fun _ _=>rfl)) aD)))) (aF (bB (cU (aN Za ZJ (dv 0)) (aA (dv 1) aD)))) aV)),?_⟩
 refine⟨dx,_,.ref ch,b.e,rfl,_,_,SqT.of et,rfl,ch,_,_,_,rfl,b.ec,?_⟩
 conv=>whnf
 refine bL (fun c=>?_) (fun c=>?_)
 ·have c1:jC S n=true:=c
  have hul:=b.fu.len
  refine⟨dx,_,.ref ul,b.e,rfl,⟨_,SqL.of b.eu⟩,_,b.eu,bR (by omega),?_⟩
  obtain⟨k1,k2,k3,k4,k5,k6⟩:=wO (ys:=us++[.ref t]) b (.inr rfl)
  refine q _ ⟨dx,ch,wl,ul,ct,ws,us++[.ref t],k2.trans b.e,k3.trans b.ec,by rw[aH b.ne];exact b.ew,(k5 b.fw).imp (fun x v e _=>e) (fun x z=>⟨.inl z.1,z.2⟩),aB,?_,(let ⟨d,e⟩:=b.et;⟨d,k4.trans e⟩),.inl b.op,.inl b.ow,.inl b.ou,.inl b.ot,b.ne,fun x hx=>?_⟩ k1
  ·show dG _ _ _ (if jC S n=true then S.up++[(n,ds)] else S.up)
   rw[if_pos c1]
   have nwl:d≠wl:=fun z=>nd_ (z▸b.ow)
   have nul:d≠ul:=fun z=>nd_ (z▸b.ou)
   exact((k5 b.fu).imp (fun x v e _=>e) (fun x z=>⟨.inl z.1,z.2⟩)).snoc ⟨d,k1.tup et,by rw[aH nul];exact ed,.inr rfl,nwl,nul⟩
  ·rcases hx with hx | hx
   ·exact k6 x hx
   ·have hx':x=d:=hx
    have nul:d≠ul:=fun z=>nd_ (z▸b.ou)
    rw[hx',aH nul,ed];simp
 ·have c1:¬ jC S n=true:=c
  refine q _ ?_ cJ.refl
  rw[if_neg c1]
  exact Bd.grow ⟨dx,ch,wl,ul,ct,ws,us,b⟩ ed
variable (Zdg:MB P w K mg base (CX0) 3 Ze9 Zjw ["self","name","data"] (b5Q K CA Zdx))
include Zv ZaM Za Zj Zx in
theorem ZlR (F0:Fun K "hand" "Post.hand" ZjP Ze9 Zjw):type_of% Zdg:=by
 refine mbM ["self","name","data"] F0 fun Sc0=>F0.ok Sc0 (fun vs H Q E h=>?_) fun cdv A outer s H vs Q E hr h=>?_
 ·obtain⟨p,nwf,S,o,n,a,ds,rfl,_⟩:=h
  rfl
 obtain⟨p,nwf,S,o,n,a,ds,rfl,bd,hS,hl,hw,q1,q2⟩:=h
 have nd:=Sc0.nd
 refine⟨_,(aC (bB (aQ Zx.1 (hr.mono (by decide)) rfl Zx.2.2.2 Zx.2.2.1 Zx.2.1 .nil aK (aA (dv 1) (aA (dv 2) aD)))) (aF (bB (cU (aN Za Zj (dv 0)) (aA (bU (aA (dv 1) (aA (fU iB rfl ZaM iR (aA (dv 2) aD)) aD))) aD))))),?_⟩
 refine⟨n,a,ds,rfl,hS,hl,fun ok H1 g1=>?_,fun no H1 g1=>q2 no H1 g1⟩
 obtain⟨dx,ch,wl,ul,ct,ws,us,b⟩:=bd.move (H':=H1) fun x v e _=>g1 x v e
 refine⟨dx,_,.ref wl,b.e,rfl,⟨_,SqL.of b.ew⟩,_,.inl (g1.seq hS),fun d hd=>?_⟩
 have g2:=aJ hd (.lst (ds.map V.int))
 have e2:=aB (H:=H1) (a:=d) (o:= .lst (ds.map V.int))
 generalize upd H1 d (.lst (ds.map V.int))=H2 at g2 e2
 refine⟨aL rfl,fun t ht=>?_⟩
 have g3:=aJ ht (.tup [.int n,.ref d])
 have e3:=aB (H:=H2) (a:=t) (o:= .tup [.int n,.ref d])
 generalize upd H2 t (.tup [.int n,.ref d])=H3 at g3 e3
 have g13:=g2.trans g3
 have nd_:¬ o d:=fun z=>b.al d z hd
 have b3:=b.move (H':=H3) fun x v e _=>g13 x v e
 have hwl:=b.fw.len
 refine⟨_,b3.ew,bR (by omega),?_⟩
 obtain⟨k1,k2,k3,k4,k5,k6⟩:=wO (ys:=ws++[.ref t]) b3 (.inl rfl)
 have nwl:d≠wl:=fun z=>nd_ (z▸b.ow)
 have nul:d≠ul:=fun z=>nd_ (z▸b.ou)
 have en:((n.toNat:Nat):Int)=n:=by
  have:=fY.mp ok.1
  omega
 refine q1 ok _ d (g1.none hd) ⟨dx,ch,wl,ul,ct,ws++[.ref t],us,k2.trans b3.e,k3.trans b3.ec,aB,?_,by rw[aH (Ne.symm b.ne)];exact b3.eu,(k5 b3.fu).imp (fun x v e _=>e) (fun x z=>⟨.inl z.1,z.2⟩),(let ⟨d,e⟩:=b3.et;⟨d,k4.trans e⟩),.inl b.op,.inl b.ow,.inl b.ou,.inl b.ot,b.ne,fun x hx=>?_⟩ (fun x v e z=>k1 x v (g13 x v (g1 x v e)) z)
 ·refine((k5 b3.fw).imp (fun x v e _=>e) (fun x z=>⟨.inl z.1,z.2⟩)).snoc ⟨d,?_,by rw[aH nwl];exact g3 _ _ e2,.inr rfl,nwl,nul⟩
  show _=some (HO.tup [.int ((n.toNat:Nat):Int),.ref d])
  rw[en]
  exact k1.tup e3
 ·rcases hx with hx | hx
  ·exact k6 x hx
  ·have hx':x=d:=hx
   rw[hx',aH nwl,g3 _ _ e2];simp
variable (Zbd:FB P w K mg base (CX0) 1 "copies" Zj7 ZlM ["frames"] (a6J K))
include ZaM in
theorem ZmB (F0:GFm K mg "copies" Zl8 Zj7 ZlM):type_of% Zbd:=by
 refine fbM ["frames"] F0 fun Sc0=>F0.F.ok Sc0 (fun vs H Q E h=>?_) fun cdv A outer s H vs Q E hr h=>?_
 ·obtain⟨a,ts,fs,o,rfl,_⟩:=h
  rfl
 obtain⟨a,ts,fs,o,rfl,e,hF,hl,q⟩:=h
 have nd:=Sc0.nd
 refine⟨_,(aF (aM (dN rfl (ix:=[]) (cM (dv 0)) (fun C fp s0 H0 at0=>cZ) (fun C fp s0 H0 at0=>(bU (aA (bQ (iW (K:=K)) (dv 0) aG (fun _ _=>rfl)) (aA (fU (a2H (K:=K)) rfl ZaM iR (aA (bQ (iW (K:=K)) (dv 0) aG (fun _ _=>rfl)) aD)) aD)))) rfl rfl (by rfl) (show ([".0","frame"]:List Str).Nodup by decide +kernel)))),?_⟩
 have tl:=hF.len
 refine⟨⟨_,SqL.of e⟩,cR (xs:=ts) (fun i ys H'=>Same H H'/\dW H H' ys (fs.take i)) ?_ ⟨Same.refl _,.nil⟩ (fun i ys H' _ z=>SqL.of (z.1 _ _ e)) ?_ ?_⟩
 ·rintro i ys H' hi ⟨_,n⟩
  refine bR ?_
  rw[n.len,Yr]
  omega
 ·rintro i x ys H' hx ⟨g,n⟩
  obtain⟨t,f,rfl,hf,d,e1,e2,e3⟩:=hF.get hx
  refine⟨_,_,SqT.of (g _ _ e1),rfl,_,_,SqT.of (g _ _ e1),rfl,_,.inl (SqL.of (g _ _ e2)),fun d' hd'=>?_⟩
  have g2:=aJ hd' (.lst (f.2.map V.int))
  have e5:=aB (H:=H') (a:=d') (o:= .lst (f.2.map V.int))
  generalize upd H' d' (.lst (f.2.map V.int))=H2 at g2 e5
  refine⟨aL rfl,fun t' ht'=>?_⟩
  have g3:=aJ ht' (.tup [.int ((f.1:Nat):Int),.ref d'])
  refine⟨g.trans (g2.trans g3),?_⟩
  have hi:i<fs.length:=(Yf.mp hf).1
  have ef:fs[i]=f:=(Yf.mp hf).2
  rw[Yg hi,ef]
  exact dW.snoc ((g.trans g2).none ht') (g.none hd') aB (g3 _ _ e5) (n.same (g2.trans g3))
 rintro ys H' ⟨g,n⟩ l hl'
 have g2:=aJ hl' (.lst ys)
 rw[tl,Yk (Yd _)]at n
 exact q l ys _ (g.none hl') (g.trans g2) aB (n.same g2)
variable (ZcT:MB P w K mg base (CX0) 2 Zex ZiJ ["self"] (b0J CA))
include Za Zj Zbd in
theorem Zll (F0:Fun K "waits" "Post.waits" Zi6 Zex ZiJ):type_of% ZcT:=by
 refine mbM ["self"] F0 fun Sc0=>F0.ok Sc0 (fun vs H Q E h=>?_) fun cdv A outer s H vs Q E hr h=>?_
 ·obtain⟨p,nwf,S,o,rfl,_⟩:=h
  rfl
 obtain⟨p,nwf,S,o,rfl,⟨dx,ch,wl,ul,ct,ws,us,b⟩,hl,q⟩:=h
 have nd:=Sc0.nd
 refine⟨_,(aF (aM (aQ Zbd.1 (hr.mono (by decide)) rfl Zbd.2.2.2 Zbd.2.2.1 Zbd.2.1 .nil aK (aA (aN Za Zj (dv 0)) aD)))),?_⟩
 exact⟨dx,_,.ref wl,b.e,rfl,wl,ws,S.wt,_,rfl,b.ew,b.fw,hl,q⟩
variable (ZdB:MB P w K mg base (CX0) 2 ZfM Zkj ["self"] (b9P CA))
include Za ZJ Zbd in
theorem Zmh (F0:Fun K "got" "Post.got" ZkE ZfM Zkj):type_of% ZdB:=by
 refine mbM ["self"] F0 fun Sc0=>F0.ok Sc0 (fun vs H Q E h=>?_) fun cdv A outer s H vs Q E hr h=>?_
 ·obtain⟨p,nwf,S,o,rfl,_⟩:=h
  rfl
 obtain⟨p,nwf,S,o,rfl,⟨dx,ch,wl,ul,ct,ws,us,b⟩,hl,q⟩:=h
 have nd:=Sc0.nd
 refine⟨_,(aF (aM (aQ Zbd.1 (hr.mono (by decide)) rfl Zbd.2.2.2 Zbd.2.2.1 Zbd.2.1 .nil aK (aA (aN Za ZJ (dv 0)) aD)))),?_⟩
 exact⟨dx,_,.ref ul,b.e,rfl,ul,us,S.up,_,rfl,b.eu,b.fu,hl,q⟩
variable (ZE:FB P w K mg base (CX0) 3 "unless_off" Zgk ZiY ["post","word","stance"] (a5M CA))
include ZlG Za ZbP ZeL Zcw in
theorem ZlA (F0:GFm K mg "unless_off" Zjl Zgk ZiY):type_of% ZE:=by
 refine fbM ["post","word","stance"] F0 fun Sc0=>F0.F.ok Sc0 (fun vs H Q E h=>?_) fun cdv A outer s H vs Q E hr h=>?_
 ·obtain⟨p,nwf,S,o,w,nx,rfl,_⟩:=h
  rfl
 obtain⟨p,nwf,S,o,w,nx,rfl,bd,q1,q2⟩:=h
 have nd:=Sc0.nd
 refine⟨_,(aF (aM (bT (cH (cP (bW Za ZbP Zcw.1 (hr.mono (by decide)) Zcw.2 .nil aK (dv 0))) (bU (aA bD (aA (a7E ZeL rfl ZlG) aD))) (bU (aA (dv 1) (aA (dv 2) aD))))))),?_⟩
 refine⟨fun x H'=>Q x H',?_,fun x H' z=>z⟩
 obtain⟨dx,ch,wl,ul,ct,ws,us,b⟩:=id bd
 refine⟨⟨dx,_,b.e,rfl⟩,p,nwf,S,o,rfl,bd,?_⟩
 conv=>whnf
 refine bL (fun c=>?_) (fun c=>?_)
 ·have c1:18<=S.tot:=dec_true c
  refine fun x dx' hx hdx hne=>⟨aL rfl,fun t ht=>?_⟩
  have g1:Same H (upd (upd H dx' (.own x)) x (.ins CA.off dx' [])):=fun b u q=>by rw[aH (aP q hx),aH (aP q hdx)];exact q
  have g2:=aJ ht (.tup [.str "off",.ref x])
  exact q2 c1 t x dx' _ (g1.trans g2) hx (g2 _ _ aB) aB
 ·have c1:¬ 18<=S.tot:=dec_false c
  refine⟨aL rfl,fun t ht=>?_⟩
  exact q1 c1 t _ (aJ ht _) aB
variable (Zl:FB P w K mg base (CX0) 4 "fault_of" ZhO Zko ["post","spoke"] (b0R CA))
include Zdc Zcs Zf Za Za4 Zat Zk ZaN Zav ZE in
theorem Zmm (F0:GFm K mg "fault_of" ZkJ ZhO Zko):type_of% Zl:=by
 refine fbM ["post","spoke"] F0 fun Sc0=>F0.F.ok Sc0 (fun vs H Q E h=>?_) fun cdv A outer s H vs Q E hr h=>?_
 ·obtain⟨p,nwf,S,o,sp,rfl,_⟩:=h
  rfl
 obtain⟨p,nwf,S,o,sp,rfl,bd,q⟩:=h
 have nd:=Sc0.nd
 refine⟨_,(aC (bB (cB Zf Zat ZaN.1 (hr.mono (by decide)) ZaN.2 .nil aK (aN Za Zk (dv 0)) (aA (dv 1) aD))) (aF (aM (aQ ZE.1 (hr.mono (by decide)) rfl ZE.2.2.2 ZE.2.2.1 ZE.2.1 .nil aK (aA (dv 0) (aA bD (aA (bV Za4 Zav.1 (hr.mono (by decide)) rfl Zdc Zav.2 .nil aK (aA (bA (v:= .int 6) rfl Zcs ⟨_,rfl⟩) (aA (b7A (dv 1)) aD))) aD))))))),?_⟩
 obtain⟨dx,ch,wl,ul,ct,ws,us,b⟩:=id bd
 obtain⟨dc,ec⟩:=id b.et
 refine⟨dx,_,.ref ct,b.e,rfl,⟨dc,_,ec,rfl⟩,ct,S.tot,sp,rfl,b.et,fun H1 c1 k1=>?_⟩
 obtain⟨b1,kk1⟩:=Bd.count b c1 k1
 generalize ht:mvd S.tot (if sp=true then 8 else 1)=n at b1 c1
 refine fun x dx' hx hdx hne=>⟨x,dx',_,_,rfl,aB,fun H2 eH=>⟨rfl,?_⟩⟩
 have g12:Same H1 H2:=by rw[eH];exact bF hx hdx
 have e2:H2 x=some (.ins CA.flag dx' [("left",.int ((6:Nat):Int)),("may_blame",.bl (!sp))]):=by rw[eH];exact aB
 clear eH
 refine⟨p,nwf,{ S with tot:=n },o,"fault",x,rfl,b1.move fun y v e _=>g12 y v e,fun c t H3 g3 e3=>?_,fun c t nw dy H3 g3 hn e4 e3=>?_⟩
 ·have c1:¬ 18<=n:=c
  refine q t H3 ⟨x,fun y=>y=x,?_,?_,?_,?_,?_⟩
  ·unfold cT dF;rw[ht,if_neg c1];exact e3
  ·unfold cT dF;rw[ht,if_neg c1];exact(b1.move fun y v e _=>g3 y v (g12 y v e)).now rfl rfl rfl rfl rfl rfl
  ·unfold cT dF;rw[ht,if_neg c1];exact gD (g3 _ _ e2) ⟨dx',g3 _ _ e2⟩
  ·intro y hy
   have hy':y=x:=hy
   rw[hy']
   exact oA b1 kk1 hx
  ·exact fun y v e z=>g3 y v (g12 y v (kk1 y v e z))
 ·have c1:18<=n:=c
  refine q t H3 ⟨nw,fun y=>y=nw,?_,?_,?_,?_,?_⟩
  ·unfold cT dF;rw[ht,if_pos c1];exact e3
  ·unfold cT dF;rw[ht,if_pos c1];exact(b1.move fun y v e _=>g3 y v (g12 y v e)).now rfl rfl rfl rfl rfl rfl
  ·unfold cT dF;rw[ht,if_pos c1];exact gD e4 ⟨dy,e4⟩
  ·intro y hy
   have hy':y=nw:=hy
   rw[hy']
   exact oA b1 kk1 (g12.none hn)
  ·exact fun y v e z=>g3 y v (g12 y v (kk1 y v e z))
variable (ZbB:FB P w K mg base (CX0) 4 "refusal_of" Zgj ZiX ["post","spoke"] (a2U CA))
include Zcd Zf Za ZaA Zat Zk ZaN ZX ZE in
theorem Zlz (F0:GFm K mg "refusal_of" Zjk Zgj ZiX):type_of% ZbB:=by
 refine fbM ["post","spoke"] F0 fun Sc0=>F0.F.ok Sc0 (fun vs H Q E h=>?_) fun cdv A outer s H vs Q E hr h=>?_
 ·obtain⟨p,nwf,S,o,sp,rfl,_⟩:=h
  rfl
 obtain⟨p,nwf,S,o,sp,rfl,bd,q⟩:=h
 have nd:=Sc0.nd
 refine⟨_,(aC (bB (cB Zf Zat ZaN.1 (hr.mono (by decide)) ZaN.2 .nil aK (aN Za Zk (dv 0)) (aA (dv 1) aD))) (aF (aM (aQ ZE.1 (hr.mono (by decide)) rfl ZE.2.2.2 ZE.2.2.1 ZE.2.1 .nil aK (aA (dv 0) (aA bD (aA (bV ZaA ZX.1 (hr.mono (by decide)) rfl Zcd ZX.2 .nil aK (aA iD aD)) aD))))))),?_⟩
 obtain⟨dx,ch,wl,ul,ct,ws,us,b⟩:=id bd
 obtain⟨dc,ec⟩:=id b.et
 refine⟨dx,_,.ref ct,b.e,rfl,⟨dc,_,ec,rfl⟩,ct,S.tot,sp,rfl,b.et,fun H1 c1 k1=>?_⟩
 obtain⟨b1,kk1⟩:=Bd.count b c1 k1
 generalize ht:mvd S.tot (if sp=true then 8 else 1)=n at b1 c1
 refine fun x dx' hx hdx hne=>⟨x,dx',_,rfl,aB,fun H2 eH=>⟨rfl,?_⟩⟩
 have g12:Same H1 H2:=by rw[eH];exact bF hx hdx
 have e2:H2 x=some (.ins CA.settles dx' [("may_blame",.bl false)]):=by rw[eH];exact aB
 clear eH
 refine⟨p,nwf,{ S with tot:=n },o,"refuses",x,rfl,b1.move fun y v e _=>g12 y v e,fun c t H3 g3 e3=>?_,fun c t nw dy H3 g3 hn e4 e3=>?_⟩
 ·have c1:¬ 18<=n:=c
  refine q t H3 ⟨x,fun y=>y=x,?_,?_,?_,?_,?_⟩
  ·unfold dJ dF;rw[ht,if_neg c1];exact e3
  ·unfold dJ dF;rw[ht,if_neg c1];exact(b1.move fun y v e _=>g3 y v (g12 y v e)).now rfl rfl rfl rfl rfl rfl
  ·unfold dJ dF;rw[ht,if_neg c1];exact gD (g3 _ _ e2) ⟨dx',g3 _ _ e2⟩
  ·intro y hy
   have hy':y=x:=hy
   rw[hy']
   exact oA b1 kk1 hx
  ·exact fun y v e z=>g3 y v (g12 y v (kk1 y v e z))
 ·have c1:18<=n:=c
  refine q t H3 ⟨nw,fun y=>y=nw,?_,?_,?_,?_,?_⟩
  ·unfold dJ dF;rw[ht,if_pos c1];exact e3
  ·unfold dJ dF;rw[ht,if_pos c1];exact(b1.move fun y v e _=>g3 y v (g12 y v e)).now rfl rfl rfl rfl rfl rfl
  ·unfold dJ dF;rw[ht,if_pos c1];exact gD e4 ⟨dy,e4⟩
  ·intro y hy
   have hy':y=nw:=hy
   rw[hy']
   exact oA b1 kk1 (g12.none hn)
  ·exact fun y v e z=>g3 y v (g12 y v (kk1 y v e z))
variable (ZcB:FB P w K mg base (CX0) 4 "blame_of" ZhM Zkm ["post"] (b0U CA))
include Zcd Zf Za ZaA ZbM Zk Zct ZX ZE in
theorem Zmk (F0:GFm K mg "blame_of" ZkH ZhM Zkm):type_of% ZcB:=by
 refine fbM ["post"] F0 fun Sc0=>F0.F.ok Sc0 (fun vs H Q E h=>?_) fun cdv A outer s H vs Q E hr h=>?_
 ·obtain⟨p,nwf,S,o,rfl,_⟩:=h
  rfl
 obtain⟨p,nwf,S,o,rfl,bd,q⟩:=h
 have nd:=Sc0.nd
 refine⟨_,(aC (bB (bW Zf ZbM Zct.1 (hr.mono (by decide)) Zct.2 .nil aK (aN Za Zk (dv 0)))) (aF (aM (aQ ZE.1 (hr.mono (by decide)) rfl ZE.2.2.2 ZE.2.2.1 ZE.2.1 .nil aK (aA (dv 0) (aA bD (aA (bV ZaA ZX.1 (hr.mono (by decide)) rfl Zcd ZX.2 .nil aK (aA iD aD)) aD))))))),?_⟩
 obtain⟨dx,ch,wl,ul,ct,ws,us,b⟩:=id bd
 obtain⟨dc,ec⟩:=id b.et
 refine⟨dx,_,.ref ct,b.e,rfl,⟨dc,_,ec,rfl⟩,ct,S.tot,rfl,b.et,fun H1 c1 k1=>?_⟩
 obtain⟨b1,kk1⟩:=Bd.count b c1 k1
 generalize ht:mvd S.tot 8=n at b1 c1
 refine fun x dx' hx hdx hne=>⟨x,dx',_,rfl,aB,fun H2 eH=>⟨rfl,?_⟩⟩
 have g12:Same H1 H2:=by rw[eH];exact bF hx hdx
 have e2:H2 x=some (.ins CA.settles dx' [("may_blame",.bl false)]):=by rw[eH];exact aB
 clear eH
 refine⟨p,nwf,{ S with tot:=n },o,"",x,rfl,b1.move fun y v e _=>g12 y v e,fun c t H3 g3 e3=>?_,fun c t nw dy H3 g3 hn e4 e3=>?_⟩
 ·have c1:¬ 18<=n:=c
  refine q t H3 ⟨x,fun y=>y=x,?_,?_,?_,?_,?_⟩
  ·unfold iY dF;rw[ht,if_neg c1];exact e3
  ·unfold iY dF;rw[ht,if_neg c1];exact(b1.move fun y v e _=>g3 y v (g12 y v e)).now rfl rfl rfl rfl rfl rfl
  ·unfold iY dF;rw[ht,if_neg c1];exact gD (g3 _ _ e2) ⟨dx',g3 _ _ e2⟩
  ·intro y hy
   have hy':y=x:=hy
   rw[hy']
   exact oA b1 kk1 hx
  ·exact fun y v e z=>g3 y v (g12 y v (kk1 y v e z))
 ·have c1:18<=n:=c
  refine q t H3 ⟨nw,fun y=>y=nw,?_,?_,?_,?_,?_⟩
  ·unfold iY dF;rw[ht,if_pos c1];exact e3
  ·unfold iY dF;rw[ht,if_pos c1];exact(b1.move fun y v e _=>g3 y v (g12 y v e)).now rfl rfl rfl rfl rfl rfl
  ·unfold iY dF;rw[ht,if_pos c1];exact gD e4 ⟨dy,e4⟩
  ·intro y hy
   have hy':y=nw:=hy
   rw[hy']
   exact oA b1 kk1 (g12.none hn)
  ·exact fun y v e z=>g3 y v (g12 y v (kk1 y v e z))
variable (Zaa:FB P w K mg base (CX0) 1 "check_votes" ZfG Zh7 ["votes"] (b0K ZbV))
include ZbU ZZ ZdN in
theorem Zk1 (F0:GFm K mg "check_votes" Zio ZfG Zh7):type_of% Zaa:=by
 refine fbM ["votes"] F0 fun Sc0=>F0.F.ok Sc0 (fun vs H Q E h=>?_) fun cdv A outer s H vs Q E hr h=>?_
 ·obtain⟨v,rfl,_⟩:=h
  rfl
 obtain⟨v,rfl,q1,q2⟩:=h
 have nd:=Sc0.nd
 refine⟨_,(aF (bJ (aW a4Q (dv 0) (bA (v:= .ref ZkL) rfl ZbU rfl) rfl) (aF dM) aV)),?_⟩
 refine⟨[1,3,5],.inr (ZdN.sq H),?_⟩
 conv=>whnf
 refine bL (fun c=>?_) (fun c=>?_)
 ·refine(q2 fun z=>?_)
  have c1:(!decide (v∈ [(1:Int),3,5]))=true:=c
  rw[(sU v).mpr z]at c1
  cases c1
 ·refine q1 ((sU v).mp ?_)
  cases e:decide (v∈ [(1:Int),3,5]) with
  |true=>rfl
  |false=>exact absurd (show (!decide (v∈ [(1:Int),3,5]))=true by rw[e];rfl) c
variable (Za7:FB P w K mg base (CX0) 2 "check_choice" Ze5 Zhn ["choice"] (a6K K ZbV))
include ZZ Zay in
theorem ZkB (F0:GFm K mg "check_choice" ZhB Ze5 Zhn):type_of% Za7:=by
 refine fbM ["choice"] F0 fun Sc0=>F0.F.ok Sc0 (fun vs H Q E h=>?_) fun cdv A outer s H vs Q E hr h=>?_
 ·obtain⟨a,ns,rfl,_⟩:=h
  rfl
 obtain⟨a,ns,rfl,hS,hl,q1,q2⟩:=h
 have nd:=Sc0.nd
 refine⟨_,(aF (bJ (fL (cP (aQ Zay.1 (hr.mono (by decide)) rfl Zay.2.2.2 Zay.2.2.1 Zay.2.1 .nil aK (aA (dv 0) aD)))) (aF dM) aV)),?_⟩
 refine⟨a,ns,rfl,.inr hS,hl,fun H1 g1=>?_⟩
 conv=>whnf
 refine bL (fun c=>?_) (fun c=>?_)
 ·have c1:¬ ns.all byt=true:=fun z=>by
   have:(!ns.all byt)=true:=c
   rw[z]at this;cases this
  exact(q2 c1 _ g1)
 ·have c1:ns.all byt=true:=by
   cases e:ns.all byt with
   |true=>rfl
   |false=>exact absurd (show (!ns.all byt)=true by rw[e];rfl) c
  exact q1 c1 _ g1
variable (Zdi:MB P w K mg base (CX0) 4 Zfb Zjy ["self","choice","votes"] (yH K CA ZbV))
include ZbU ZZ Zjn ZdU Za Zd8 Za1 Zk Zj ZaH ZJ Z6 Zad ZcQ Zaw Zaa Za7 in
theorem ZlT (F0:Fun K "__init__" "Post.__init__" ZjR Zfb Zjy):type_of% Zdi:=by
 refine mbM ["self","choice","votes"] F0 fun Sc0=>F0.ok Sc0 (fun vs H Q E h=>?_) fun cdv A outer s H vs Q E hr h=>?_
 ·obtain⟨a,dx,ch,m1,m2,v,rfl,_⟩:=h
  rfl
 obtain⟨a,dx,ch,m1,m2,v,rfl,e,ec,q1,q2⟩:=h
 have nd:=Sc0.nd
 refine⟨_,(aC (bB (aQ Za7.1 (hr.mono (by decide)) rfl Za7.2.2.2 Za7.2.2.1 Za7.2.1 .nil aK (aA (dv 1) aD))) (aC (bB (aQ Zaa.1 (hr.mono (by decide)) rfl Zaa.2.2.2 Zaa.2.2.1 Zaa.2.1 .nil aK (aA (dv 2) aD))) (aC (bM Za ZaH (dv 0) (dv 1)) (aC (bM Za Z6 (dv 0) (dv 2)) (aC (bM Za Zj (dv 0) (cW aD)) (aC (bM Za ZJ (dv 0) (cW aD)) (aC (bM Za Zk (dv 0) (mK Zd8 ZcQ.1 (hr.mono (by decide)) rfl Zjn ZcQ.2 .nil aK)) (aF (bM Za Zad (dv 0) (bV Za1 Zaw.1 (hr.mono (by decide)) rfl ZdU Zaw.2 .nil aK (aA aG aD))))))))))),?_⟩
 refine⟨ch, [m1,m2],rfl,SqT.of ec,(show 2<=500 by decide),fun hm H1 g1=>?_,fun no H1 g1=>?_⟩
 rotate_left
 ·refine q2 (fun ok=>no ?_) H1 fun x u _ h=>g1 x u h
  rw[XD,XD,List.all_nil,ok.1,ok.2.1];rfl
 rw[XD,XD,List.all_nil,Bool.and_true,Y1]at hm
 refine⟨v,rfl,fun hv=>?_,fun no=>q2 (fun ok=>no ok.2.2) H1 fun x u _ h=>g1 x u h⟩
 have ea:=g1 _ _ e
 refine⟨dx, [],ea,by decide,?_⟩
 refine⟨dx,_,aB,(show 1<1000 by decide),?_⟩
 rw[jL]
 have m1_:Mid H a (.ins CA.post dx [("choice",.ref ch),("votes",.int v)]) [] (upd H1 a (.ins CA.post dx (dZ "votes" (.int v) (dZ "choice" (.ref ch) [])))):=⟨aB,fun x u hx h=>by rw[aH hx];exact g1 x u h,(fun _ z=>nomatch z),List.nodup_nil⟩
 generalize upd H1 a _=Ha at m1_
 refine⟨aL rfl,fun wl hwl=>?_⟩
 have m2_:=m1_.add hwl (aJ hwl (.lst [])) aB
 generalize upd Ha wl (.lst [])=Hb at m2_
 refine⟨dx,_,m2_.ea,(show 2<1000 by decide),?_⟩
 have m3_:Mid H a (.ins CA.post dx [("choice",.ref ch),("votes",.int v),("waiting",.ref wl)]) _ (upd Hb a (.ins CA.post dx (dZ "waiting" (.ref wl) [("choice",.ref ch),("votes",.int v)]))):=m2_.set _
 generalize upd Hb a _=Hb2 at m3_
 refine⟨aL rfl,fun ul hul=>?_⟩
 have m4_:=m3_.add hul (aJ hul (.lst [])) aB
 generalize upd Hb2 ul (.lst [])=Hc at m4_
 refine⟨dx,_,m4_.ea,(show 3<1000 by decide),?_⟩
 have m5_:Mid H a (.ins CA.post dx [("choice",.ref ch),("votes",.int v),("waiting",.ref wl),("handed_up",.ref ul)]) _ (upd Hc a (.ins CA.post dx (dZ "handed_up" (.ref ul) [("choice",.ref ch),("votes",.int v),("waiting",.ref wl)]))):=m4_.set _
 generalize upd Hc a _=Hc2 at m5_
 refine fun ct dc hct hdc hne=>⟨ct,dc,rfl,aB,rfl,?_⟩
 have m6_:=m5_.add hct (bF (C:=CA.count) (fs:=ctF 0) hct hdc) aB
 generalize upd (upd (upd Hc2 dc (.own ct)) ct (.ins CA.count dc [])) ct (.ins CA.count dc (ctF 0))=Hd at m6_
 refine⟨dx,_,m6_.ea,(show 4<1000 by decide),?_⟩
 have m7_:Mid H a (.ins CA.post dx [("choice",.ref ch),("votes",.int v),("waiting",.ref wl),("handed_up",.ref ul),("tally",.ref ct)]) _ (upd Hd a (.ins CA.post dx (dZ "tally" (.ref ct) [("choice",.ref ch),("votes",.int v),("waiting",.ref wl),("handed_up",.ref ul)]))):=m6_.set _
 generalize upd Hd a _=Hd2 at m7_
 refine fun nw dn hnw hdn hne2=>⟨nw,dn,_,rfl,aB,fun H2 eH=>⟨rfl,?_⟩⟩
 have m8_:=m7_.add (Hy:=H2) hnw (by rw[eH];exact bF hnw hdn) (by rw[eH];exact aB)
 clear eH
 refine⟨dx,_,m8_.ea,(show 5<1000 by decide),?_⟩
 have m9_:=m8_.set (.ins CA.post dx (pF ch v.toNat wl ul ct nw))
 have ev:v=((v.toNat:Nat):Int):=by omega
 have eF:(HO.ins CA.post dx (dZ "now" (.ref nw) [("choice",.ref ch),("votes",.int v),("waiting",.ref wl),("handed_up",.ref ul),("tally",.ref ct)]))= .ins CA.post dx (pF ch v.toNat wl ul ct nw):=by
  show HO.ins CA.post dx [("choice",.ref ch),("votes",.int v),("waiting",.ref wl),("handed_up",.ref ul),("tally",.ref ct),("now",.ref nw)]=_
  rw[ev,YB]
 rw[eF]
 generalize upd H2 a _=Hz at m9_
 have hnw':=m9_.nw (nw,_) (.head _)
 have hct':=m9_.nw (ct,_) (.tail _ (.head _))
 have hul':=m9_.nw (ul,_) (.tail _ (.tail _ (.head _)))
 have hwl':=m9_.nw (wl,_) (.tail _ (.tail _ (.tail _ (.head _))))
 have nd9:=m9_.nd
 have nwu:wl≠ul:=fun z=>by
  rw[z]at nd9
  exact absurd nd9 (by simp)
 have nch:ch≠a:=fun z=>by rw[z,e]at ec;cases ec
 have hb1:=fY.mp hm.1
 have hb2:=fY.mp hm.2
 have ec1:((m1.toNat:Nat):Int)=m1:=by omega
 have ec2:((m2.toNat:Nat):Int)=m2:=by omega
 refine q1 ⟨hm.1,hm.2,hv⟩ Hz (fun x=>(x=a\/x=wl\/x=ul\/x=ct)\/x=nw) ⟨nw,fun x=>x=a\/x=wl\/x=ul\/x=ct,fun x=>x=nw,⟨dx,ch,wl,ul,ct, [], [],m9_.ea,?_,hwl'.2.2,.nil,hul'.2.2,.nil,⟨dc,hct'.2.2⟩,.inl rfl,.inr (.inl rfl),.inr (.inr (.inl rfl)),.inr (.inr (.inr rfl)),nwu,?_⟩,gD hnw'.2.2 ⟨dn,hnw'.2.2⟩,?_,⟨?_,(fun _ z=>nomatch z),trivial⟩,fun x hx=>hx,?_⟩ ?_ ?_
 ·show Hz ch=some (.tup [.int ((m1.toNat:Nat):Int),.int ((m2.toNat:Nat):Int)])
  rw[ec1,ec2]
  exact m9_.kp ch _ nch ec
 ·rintro x (rfl | rfl | rfl | rfl)
  ·rw[m9_.ea];simp
  ·rw[hwl'.2.2];simp
  ·rw[hul'.2.2];simp
  ·rw[hct'.2.2];simp
 ·rintro x hx hy
  have hy':x=nw:=hy
  rcases hx with rfl | rfl | rfl | rfl
  ·exact hnw'.2.1 hy'.symm
  ·rw[hy']at nd9;exact absurd nd9 (by simp)
  ·rw[hy']at nd9;exact absurd nd9 (by simp)
  ·rw[hy']at nd9;exact absurd nd9 (by simp)
 ·show v.toNat<=5
  omega
 ·rintro x ((rfl | rfl | rfl | rfl) | rfl)
  ·rw[m9_.ea];simp
  ·rw[hwl'.2.2];simp
  ·rw[hul'.2.2];simp
  ·rw[hct'.2.2];simp
  ·rw[hnw'.2.2];simp
 ·rintro x ((rfl | rfl | rfl | rfl) | rfl)
  ·exact .inl rfl
  ·exact .inr hwl'.1
  ·exact .inr hul'.1
  ·exact .inr hct'.1
  ·exact .inr hnw'.1
 ·exact m9_.kp
variable (Za9:MB P w K mg base (CX0) 3 Ze7 Zju ["self","post"] (cO CA 0))
include Zea ZM Za Zbg Zbk Z4 ZbJ Zbn in
theorem ZlP (F0:Fun K "says" "Free.says" ZjN Ze7 Zju):type_of% Za9:=by
 refine mbM ["self","post"] F0 fun Sc0=>F0.ok Sc0 (fun vs H Q E h=>?_) fun cdv A outer s H vs Q E hr h=>?_
 ·obtain⟨nw,p,nwf,S,ob,os,rfl,_⟩:=h
  rfl
 obtain⟨nw,p,nwf,S,ob,os,rfl,tg,bd,st,wf,q⟩:=h
 have nd:=Sc0.nd
 refine⟨_,(aC (bJ (fL (cP (bW Za Zbg Zbn.1 (hr.mono (by decide)) Zbn.2 .nil aK (dv 1)))) (aF (aM aG)) aV) (aF (aM (bT (cH (PW.pt (kO (cP (bW Za Zbk ZbJ.1 (hr.mono (by decide)) ZbJ.2 .nil aK (dv 1))) (jM (aW xV (aN ZM Z4 (dv 0)) (bA (v:= .int 8) rfl Zea ⟨_,rfl⟩) (aR _))))) aG aG))))),?_⟩
 obtain⟨sa,on,al⟩:=id st
 cases en:S.now with
 | free k =>
  rw[en]at sa
  obtain⟨dx,e⟩:=sa
  obtain⟨dp,ch,wl,ul,ct,ws,us,b⟩:=id bd
  have hs:=mF en
  refine⟨⟨dp,_,b.e,rfl⟩,p,nwf,S,ob,rfl,bd,?_⟩
  conv=>whnf
  refine bL (fun c=>?_) (fun c=>?_)
  ·have c1:S.wt= []:=by
    have:(!decide (0<(S.wt.length:Int)))=true:=c
    cases ew:S.wt with
    |nil=>rfl
    | cons f r=>
     rw[ew,Ye (by rw[Yz];omega)]at this
     cases this
   rw[if_pos c1]at hs
   rw[hs]at q
   exact q
  have c1:¬ S.wt= []:=fun z=>c (by
   show (!decide (0<(S.wt.length:Int)))=true
   rw[z];rfl)
  rw[if_neg c1]at hs
  refine⟨fun x H'=>x= .int (bC S)/\H'=H,?_,fun x H' z=>by rw[z.1,z.2];exact q⟩
  refine⟨⟨dp,_,b.e,rfl⟩,p,nwf,S,ob,rfl,bd,?_⟩
  conv=>whnf
  refine bL (fun y=>?_) (fun y=>?_)
  ·have y1:12<=S.tot:=dec_true y
   refine⟨dx,_,_,e,rfl,?_⟩
   conv=>whnf
   refine bL (fun z=>?_) (fun z=>?_)
   ·have z1:((k:Nat):Int)<8:=dec_true z
    rw[hs,if_pos ⟨y1,by omega⟩]
    exact⟨rfl,rfl⟩
   ·have z1:¬ ((k:Nat):Int)<8:=dec_false z
    rw[hs,if_neg fun w=>z1 (by omega)]
    exact⟨rfl,rfl⟩
  ·have y1:¬ 12<=S.tot:=dec_false y
   refine yZ ⟨?_,rfl⟩
   rw[hs,if_neg fun w=>y1 w.1]
 |speaks n ds k=>rw[en]at tg;cases tg
 |reads h=>rw[en]at tg;cases tg
 |tlS v c=>rw[en]at tg;cases tg
 |tlR n ds v c=>rw[en]at tg;cases tg
 |flag l m=>rw[en]at tg;cases tg
 |settles m=>rw[en]at tg;cases tg
 |rests l=>rw[en]at tg;cases tg
 |off  =>rw[en]at tg;cases tg
variable (Zcz:MB P w K mg base (CX0) 1 Zd5 Zh2 ["self","post"] (cO CA 1))
include Zi ZI ZC in
theorem ZkW (F0:Fun K "says" "Speaks.says" Zij Zd5 Zh2):type_of% Zcz:=by
 refine mbM ["self","post"] F0 fun Sc0=>F0.ok Sc0 (fun vs H Q E h=>?_) fun cdv A outer s H vs Q E hr h=>?_
 ·obtain⟨nw,p,nwf,S,ob,os,rfl,_⟩:=h
  rfl
 obtain⟨nw,p,nwf,S,ob,os,rfl,tg,bd,st,wf,q⟩:=h
 have nd:=Sc0.nd
 refine⟨_,(aF (aM (bQ fD (aN Zi ZI (dv 0)) (aN Zi ZC (dv 0)) (fun _ _=>rfl)))),?_⟩
 obtain⟨sa,on,al⟩:=id st
 cases en:S.now with
 |free k=>rw[en]at tg;cases tg
 | speaks n ds k=>
  rw[en]at sa
  obtain⟨dx,wa,r,st,ks,t0,e,ew,_⟩:=sa
  have hn:=wf.now
  rw[en]at hn
  obtain⟨_,_,hk,_⟩:=hn
  refine⟨dx,_,_,e,rfl,dx,_,_,e,rfl,_,_,SqL.of ew,uX hk,?_⟩
  have:bC S=(wr n ds)[k]:=by
   unfold bC
   rw[en]
   show (wr n ds).getD k 0=_
   rw[Yh,Yb hk]
   rfl
  rw[this]at q
  exact q
 |reads h=>rw[en]at tg;cases tg
 |tlS v c=>rw[en]at tg;cases tg
 |tlR n ds v c=>rw[en]at tg;cases tg
 |flag l m=>rw[en]at tg;cases tg
 |settles m=>rw[en]at tg;cases tg
 |rests l=>rw[en]at tg;cases tg
 |off  =>rw[en]at tg;cases tg
variable (ZcV:MB P w K mg base (CX0) 1 ZeA ZiM ["self","post"] (cO CA 2))
theorem Zlo (F0:Fun K "says" "Reads.says" Zi9 ZeA ZiM):type_of% ZcV:=by
 refine mbM ["self","post"] F0 fun Sc0=>F0.ok Sc0 (fun vs H Q E h=>?_) fun cdv A outer s H vs Q E hr h=>?_
 ·obtain⟨nw,p,nwf,S,ob,os,rfl,_⟩:=h
  rfl
 obtain⟨nw,p,nwf,S,ob,os,rfl,tg,bd,st,wf,q⟩:=h
 have nd:=Sc0.nd
 refine⟨_,(aF (aM aG)),?_⟩
 obtain⟨sa,on,al⟩:=id st
 cases en:S.now with
 |free k=>rw[en]at tg;cases tg
 |speaks n ds k=>rw[en]at tg;cases tg
 | reads h=>
  rw[en]at sa
  have:bC S=1:=by unfold bC;rw[en]
  rw[this]at q
  exact q
 |tlS v c=>rw[en]at tg;cases tg
 |tlR n ds v c=>rw[en]at tg;cases tg
 |flag l m=>rw[en]at tg;cases tg
 |settles m=>rw[en]at tg;cases tg
 |rests l=>rw[en]at tg;cases tg
 |off  =>rw[en]at tg;cases tg
variable (Zcu:MB P w K mg base (CX0) 2 ZdY ZhV ["self","post"] (cO CA 3))
include Ze Zd Zr Zah Z8 ZB Zbc in
theorem ZkP (F0:Fun K "says" "InTail.says" Zic ZdY ZhV):type_of% Zcu:=by
 refine mbM ["self","post"] F0 fun Sc0=>F0.ok Sc0 (fun vs H Q E h=>?_) fun cdv A outer s H vs Q E hr h=>?_
 ·obtain⟨nw,p,nwf,S,ob,os,rfl,_⟩:=h
  rfl
 obtain⟨nw,p,nwf,S,ob,os,rfl,tg,bd,st,wf,q⟩:=h
 have nd:=Sc0.nd
 refine⟨_,(aF (aM (sV Zbc.1 (hr.mono (by decide)) Zbc.2 .nil aK (aN Zr ZB (dv 0))))),?_⟩
 obtain⟨sa,on,al⟩:=id st
 cases en:S.now with
 |free k=>rw[en]at tg;cases tg
 |speaks n ds k=>rw[en]at tg;cases tg
 |reads h=>rw[en]at tg;cases tg
 | tlS v c=>
  rw[en]at sa
  obtain⟨dx,tl,e,ht,_⟩:=sa
  obtain⟨C,d,hC,e1⟩:=id ht
  have hc:=iM Ze Zd hC
  have hm:=oN Zah Z8 hC
  refine⟨dx,_,.ref tl,e,rfl,⟨C,d,_,e1,hc.cls,hm,rfl⟩,tl,S.vt,true,v,c,rfl,ht,?_⟩
  have:bC S=eQ true v:=by unfold bC;rw[en]
  rw[this]at q
  exact q
 | tlR n ds v c=>
  rw[en]at sa
  obtain⟨dx,tl,t0,d0,e,ht,_⟩:=sa
  obtain⟨C,d,hC,e1⟩:=id ht
  have hc:=iM Ze Zd hC
  have hm:=oN Zah Z8 hC
  refine⟨dx,_,.ref tl,e,rfl,⟨C,d,_,e1,hc.cls,hm,rfl⟩,tl,S.vt,false,v,c,rfl,ht,?_⟩
  have:bC S=eQ false v:=by unfold bC;rw[en]
  rw[this]at q
  exact q
 |flag l m=>rw[en]at tg;cases tg
 |settles m=>rw[en]at tg;cases tg
 |rests l=>rw[en]at tg;cases tg
 |off  =>rw[en]at tg;cases tg
variable (ZbH:MB P w K mg base (CX0) 1 Zdq Zgx ["self","post"] (cO CA 4))
theorem Zka (F0:Fun K "says" "Flagging.says" ZgE Zdq Zgx):type_of% ZbH:=by
 refine mbM ["self","post"] F0 fun Sc0=>F0.ok Sc0 (fun vs H Q E h=>?_) fun cdv A outer s H vs Q E hr h=>?_
 ·obtain⟨nw,p,nwf,S,ob,os,rfl,_⟩:=h
  rfl
 obtain⟨nw,p,nwf,S,ob,os,rfl,tg,bd,st,wf,q⟩:=h
 have nd:=Sc0.nd
 refine⟨_,(aF (aM aG)),?_⟩
 obtain⟨sa,on,al⟩:=id st
 cases en:S.now with
 |free k=>rw[en]at tg;cases tg
 |speaks n ds k=>rw[en]at tg;cases tg
 |reads h=>rw[en]at tg;cases tg
 |tlS v c=>rw[en]at tg;cases tg
 |tlR n ds v c=>rw[en]at tg;cases tg
 | flag l m=>
  rw[en]at sa
  have:bC S=0:=by unfold bC;rw[en]
  rw[this]at q
  exact q
 |settles m=>rw[en]at tg;cases tg
 |rests l=>rw[en]at tg;cases tg
 |off  =>rw[en]at tg;cases tg
variable (Zch:MB P w K mg base (CX0) 1 ZdK Zhk ["self","post"] (cO CA 5))
theorem Zky (F0:Fun K "says" "Settles.says" Zhy ZdK Zhk):type_of% Zch:=by
 refine mbM ["self","post"] F0 fun Sc0=>F0.ok Sc0 (fun vs H Q E h=>?_) fun cdv A outer s H vs Q E hr h=>?_
 ·obtain⟨nw,p,nwf,S,ob,os,rfl,_⟩:=h
  rfl
 obtain⟨nw,p,nwf,S,ob,os,rfl,tg,bd,st,wf,q⟩:=h
 have nd:=Sc0.nd
 refine⟨_,(aF (aM aG)),?_⟩
 obtain⟨sa,on,al⟩:=id st
 cases en:S.now with
 |free k=>rw[en]at tg;cases tg
 |speaks n ds k=>rw[en]at tg;cases tg
 |reads h=>rw[en]at tg;cases tg
 |tlS v c=>rw[en]at tg;cases tg
 |tlR n ds v c=>rw[en]at tg;cases tg
 |flag l m=>rw[en]at tg;cases tg
 | settles m=>
  rw[en]at sa
  have:bC S=1:=by unfold bC;rw[en]
  rw[this]at q
  exact q
 |rests l=>rw[en]at tg;cases tg
 |off  =>rw[en]at tg;cases tg
variable (ZcX:MB P w K mg base (CX0) 1 ZeD ZiP ["self","post"] (cO CA 6))
theorem Zlr (F0:Fun K "says" "Rests.says" Zjc ZeD ZiP):type_of% ZcX:=by
 refine mbM ["self","post"] F0 fun Sc0=>F0.ok Sc0 (fun vs H Q E h=>?_) fun cdv A outer s H vs Q E hr h=>?_
 ·obtain⟨nw,p,nwf,S,ob,os,rfl,_⟩:=h
  rfl
 obtain⟨nw,p,nwf,S,ob,os,rfl,tg,bd,st,wf,q⟩:=h
 have nd:=Sc0.nd
 refine⟨_,(aF (aM aG)),?_⟩
 obtain⟨sa,on,al⟩:=id st
 cases en:S.now with
 |free k=>rw[en]at tg;cases tg
 |speaks n ds k=>rw[en]at tg;cases tg
 |reads h=>rw[en]at tg;cases tg
 |tlS v c=>rw[en]at tg;cases tg
 |tlR n ds v c=>rw[en]at tg;cases tg
 |flag l m=>rw[en]at tg;cases tg
 |settles m=>rw[en]at tg;cases tg
 | rests l=>
  rw[en]at sa
  have:bC S=1:=by unfold bC;rw[en]
  rw[this]at q
  exact q
 |off  =>rw[en]at tg;cases tg
variable (Zdz:MB P w K mg base (CX0) 1 ZfK Zkh ["self","post"] (cO CA 7))
theorem Zmf (F0:Fun K "says" "Off.says" ZkC ZfK Zkh):type_of% Zdz:=by
 refine mbM ["self","post"] F0 fun Sc0=>F0.ok Sc0 (fun vs H Q E h=>?_) fun cdv A outer s H vs Q E hr h=>?_
 ·obtain⟨nw,p,nwf,S,ob,os,rfl,_⟩:=h
  rfl
 obtain⟨nw,p,nwf,S,ob,os,rfl,tg,bd,st,wf,q⟩:=h
 have nd:=Sc0.nd
 refine⟨_,(aF (aM aG)),?_⟩
 obtain⟨sa,on,al⟩:=id st
 cases en:S.now with
 |free k=>rw[en]at tg;cases tg
 |speaks n ds k=>rw[en]at tg;cases tg
 |reads h=>rw[en]at tg;cases tg
 |tlS v c=>rw[en]at tg;cases tg
 |tlR n ds v c=>rw[en]at tg;cases tg
 |flag l m=>rw[en]at tg;cases tg
 |settles m=>rw[en]at tg;cases tg
 |rests l=>rw[en]at tg;cases tg
 | off  =>
  rw[en]at sa
  have:bC S=1:=by unfold bC;rw[en]
  rw[this]at q
  exact q
variable (ZdA:MB P w K mg base (CX0) 1 ZfL Zki ["self","bit","post"] (cN CA 7))
theorem Zmg (F0:Fun K "step" "Off.step" ZkD ZfL Zki):type_of% ZdA:=by
 refine mbM ["self","bit","post"] F0 fun Sc0=>F0.ok Sc0 (fun vs H Q E h=>?_) fun cdv A outer s H vs Q E hr h=>?_
 ·obtain⟨nw,p,nwf,S,ob,os,bt,rfl,_⟩:=h
  rfl
 obtain⟨nw,p,nwf,S,ob,os,bt,rfl,tg,bd,st,dj,wf,hb,hu,q⟩:=h
 have nd:=Sc0.nd
 refine⟨_,(aF (aM (bU (aA bD (aA (dv 0) aD))))),?_⟩
 obtain⟨sa,on,al⟩:=id st
 cases en:S.now with
 |free k=>rw[en]at tg;cases tg
 |speaks n ds k=>rw[en]at tg;cases tg
 |reads h=>rw[en]at tg;cases tg
 |tlS v c=>rw[en]at tg;cases tg
 |tlR n ds v c=>rw[en]at tg;cases tg
 |flag l m=>rw[en]at tg;cases tg
 |settles m=>rw[en]at tg;cases tg
 |rests l=>rw[en]at tg;cases tg
 | off  =>
  rw[en]at sa
  rw[wR en]at q
  refine⟨aL rfl,fun t ht=>?_⟩
  have g1:=aJ ht (.tup [.str "",.ref nw])
  exact q t _ (Stp.go bd dj cJ.refl g1 aB ⟨rfl,rfl,rfl,rfl,rfl,rfl⟩ (st.move fun x v e _=>g1 x v e) fun x hx=> .inl hx)
variable (ZbI:MB P w K mg base (CX0) 3 Zdr Zgy ["self","bit","post"] (cN CA 4))
include Zdc Zcd Zt Za4 ZaA Zaf ZN Zav ZX in
theorem Zkb (F0:Fun K "step" "Flagging.step" ZgF Zdr Zgy):type_of% ZbI:=by
 refine mbM ["self","bit","post"] F0 fun Sc0=>F0.ok Sc0 (fun vs H Q E h=>?_) fun cdv A outer s H vs Q E hr h=>?_
 ·obtain⟨nw,p,nwf,S,ob,os,bt,rfl,_⟩:=h
  rfl
 obtain⟨nw,p,nwf,S,ob,os,bt,rfl,tg,bd,st,dj,wf,hb,hu,q⟩:=h
 have nd:=Sc0.nd
 refine⟨_,(aC (bJ (aW cV (aN Zt Zaf (dv 0)) aG (aR _)) (aF (aM (bU (aA bD (aA (bV ZaA ZX.1 (hr.mono (by decide)) rfl Zcd ZX.2 .nil aK (aA (aN Zt ZN (dv 0)) aD)) aD))))) aV) (aF (aM (bU (aA bD (aA (bV Za4 Zav.1 (hr.mono (by decide)) rfl Zdc Zav.2 .nil aK (aA (aU gZ (aN Zt Zaf (dv 0)) aG) (aA (aN Zt ZN (dv 0)) aD))) aD)))))),?_⟩
 obtain⟨sa,on,al⟩:=id st
 cases en:S.now with
 |free k=>rw[en]at tg;cases tg
 |speaks n ds k=>rw[en]at tg;cases tg
 |reads h=>rw[en]at tg;cases tg
 |tlS v c=>rw[en]at tg;cases tg
 |tlR n ds v c=>rw[en]at tg;cases tg
 | flag l m=>
  rw[en]at sa
  obtain⟨dx,e⟩:=sa
  have hl:=wf.now
  rw[en]at hl
  have hl1:1<=l:=hl
  rw[lM en]at q
  refine⟨dx,_,_,e,rfl,?_⟩
  conv=>whnf
  refine bL (fun c=>?_) (fun c=>?_)
  ·have c1:((l:Nat):Int)=1:=dec_true c
   rw[if_pos (by omega)]at q
   refine⟨dx,_,_,e,rfl,?_⟩
   refine fun x dx' hx hdx hne=>⟨x,dx',_,rfl,aB,fun H2 eH=>⟨rfl,aL rfl,fun t ht=>?_⟩⟩
   have g2:Same H H2:=by rw[eH];exact bF hx hdx
   have e2:H2 x=some (.ins CA.settles dx' [("may_blame",.bl m)]):=by rw[eH];exact aB
   have g3:=aJ ht (.tup [.str "",.ref x])
   exact q t _ (lG bd dj cJ.refl (g2.trans g3) aB ⟨rfl,rfl,rfl,rfl,rfl,rfl⟩ hx (g3 _ _ e2) ⟨dx',g3 _ _ e2⟩)
  ·have c1:¬ ((l:Nat):Int)=1:=dec_false c
   rw[if_neg (by omega)]at q
   refine⟨dx,_,_,e,rfl,dx,_,_,e,rfl,?_⟩
   refine fun x dx' hx hdx hne=>⟨x,dx',_,_,rfl,aB,fun H2 eH=>⟨rfl,aL rfl,fun t ht=>?_⟩⟩
   have g2:Same H H2:=by rw[eH];exact bF hx hdx
   have el:((l:Nat):Int)-1=((l-1:Nat):Int):=by omega
   have e2:H2 x=some (.ins CA.flag dx' [("left",.int ((l-1:Nat):Int)),("may_blame",.bl m)]):=by rw[eH,<-el];exact aB
   have g3:=aJ ht (.tup [.str "",.ref x])
   exact q t _ (lG bd dj cJ.refl (g2.trans g3) aB ⟨rfl,rfl,rfl,rfl,rfl,rfl⟩ hx (g3 _ _ e2) ⟨dx',g3 _ _ e2⟩)
 |settles m=>rw[en]at tg;cases tg
 |rests l=>rw[en]at tg;cases tg
 |off  =>rw[en]at tg;cases tg
variable (Zci:MB P w K mg base (CX0) 5 ZdL Zhl ["self","bit","post"] (cN CA 5))
include ZcZ ZbG ZU ZaE Z3 Z1 ZcB in
theorem Zkz (F0:Fun K "step" "Settles.step" Zhz ZdL Zhl):type_of% Zci:=by
 refine mbM ["self","bit","post"] F0 fun Sc0=>F0.ok Sc0 (fun vs H Q E h=>?_) fun cdv A outer s H vs Q E hr h=>?_
 ·obtain⟨nw,p,nwf,S,ob,os,bt,rfl,_⟩:=h
  rfl
 obtain⟨nw,p,nwf,S,ob,os,bt,rfl,tg,bd,st,dj,wf,hb,hu,q⟩:=h
 have nd:=Sc0.nd
 refine⟨_,(aC (bJ (aW cV (dv 1) aG (aR _)) (aF (aM (bU (aA bD (aA (bV ZaE Z1.1 (hr.mono (by decide)) rfl ZcZ Z1.2 .nil aK (aA (bA (v:= .int 3) rfl ZbG ⟨_,rfl⟩) aD)) aD))))) aV) (aC (bJ (cP (aN ZU Z3 (dv 0))) (aF (aM (aQ ZcB.1 (hr.mono (by decide)) rfl ZcB.2.2.2 ZcB.2.2.1 ZcB.2.1 .nil aK (aA (dv 2) aD)))) aV) (aF (aM (bU (aA bD (aA (dv 0) aD))))))),?_⟩
 obtain⟨sa,on,al⟩:=id st
 cases en:S.now with
 |free k=>rw[en]at tg;cases tg
 |speaks n ds k=>rw[en]at tg;cases tg
 |reads h=>rw[en]at tg;cases tg
 |tlS v c=>rw[en]at tg;cases tg
 |tlR n ds v c=>rw[en]at tg;cases tg
 |flag l m=>rw[en]at tg;cases tg
 | settles m=>
  rw[en]at sa
  obtain⟨dx,e⟩:=sa
  rw[jU en]at q
  conv=>whnf
  refine bL (fun c=>?_) (fun c=>?_)
  ·have c1:bt=1:=dec_true c
   rw[if_pos c1]at q
   refine fun x dx' hx hdx hne=>⟨x,dx',_,rfl,aB,fun H2 eH=>⟨rfl,aL rfl,fun t ht=>?_⟩⟩
   have g2:Same H H2:=by rw[eH];exact bF hx hdx
   have e2:H2 x=some (.ins CA.rests dx' [("left",.int ((3:Nat):Int))]):=by rw[eH];exact aB
   have g3:=aJ ht (.tup [.str "",.ref x])
   exact q t _ (lG bd dj cJ.refl (g2.trans g3) aB ⟨rfl,rfl,rfl,rfl,rfl,rfl⟩ hx (g3 _ _ e2) ⟨dx',g3 _ _ e2⟩)
  have c1:¬ bt=1:=dec_false c
  rw[if_neg c1]at q
  refine⟨dx,_,_,e,rfl,?_⟩
  cases m with
  | true=>
   rw[if_pos rfl]at q
   exact⟨p,nwf,S,ob,rfl,bd,fun t H' h=>q t H' (h.stp cJ.refl bd)⟩
  | false=>
   rw[if_neg (by decide)]at q
   refine⟨aL rfl,fun t ht=>?_⟩
   have g1:=aJ ht (.tup [.str "",.ref nw])
   exact q t _ (Stp.go bd dj cJ.refl g1 aB ⟨rfl,rfl,rfl,rfl,rfl,rfl⟩ (st.move fun x v e _=>g1 x v e) fun x hx=> .inl hx)
 |rests l=>rw[en]at tg;cases tg
 |off  =>rw[en]at tg;cases tg
variable (ZcY:MB P w K mg base (CX0) 5 ZeE ZiQ ["self","bit","post"] (cN CA 6))
include ZdU ZcZ ZY Za1 ZaE ZaB Zaw Z1 Zl in
theorem Zls (F0:Fun K "step" "Rests.step" Zjd ZeE ZiQ):type_of% ZcY:=by
 refine mbM ["self","bit","post"] F0 fun Sc0=>F0.ok Sc0 (fun vs H Q E h=>?_) fun cdv A outer s H vs Q E hr h=>?_
 ·obtain⟨nw,p,nwf,S,ob,os,bt,rfl,_⟩:=h
  rfl
 obtain⟨nw,p,nwf,S,ob,os,bt,rfl,tg,bd,st,dj,wf,hb,hu,q⟩:=h
 have nd:=Sc0.nd
 refine⟨_,(aC (bJ (aW cV (dv 1) aG (aR _)) (aF (aM (aQ Zl.1 (hr.mono (by decide)) rfl Zl.2.2.2 Zl.2.2.1 Zl.2.1 .nil aK (aA (dv 2) (aA iD aD))))) aV) (aF (aM (bU (aA bD (aA (bT (cH (aW cV (aN ZY ZaB (dv 0)) aG (aR _)) (bV Za1 Zaw.1 (hr.mono (by decide)) rfl ZdU Zaw.2 .nil aK (aA aG aD)) (bV ZaE Z1.1 (hr.mono (by decide)) rfl ZcZ Z1.2 .nil aK (aA (aU gZ (aN ZY ZaB (dv 0)) aG) aD)))) aD)))))),?_⟩
 obtain⟨sa,on,al⟩:=id st
 cases en:S.now with
 |free k=>rw[en]at tg;cases tg
 |speaks n ds k=>rw[en]at tg;cases tg
 |reads h=>rw[en]at tg;cases tg
 |tlS v c=>rw[en]at tg;cases tg
 |tlR n ds v c=>rw[en]at tg;cases tg
 |flag l m=>rw[en]at tg;cases tg
 |settles m=>rw[en]at tg;cases tg
 | rests l=>
  rw[en]at sa
  obtain⟨dx,e⟩:=sa
  have hl:=wf.now
  rw[en]at hl
  have hl1:1<=l:=hl
  rw[qP en]at q
  conv=>whnf
  refine bL (fun c=>?_) (fun c=>?_)
  ·have c1:bt=0:=dec_true c
   rw[if_pos c1]at q
   exact⟨p,nwf,S,ob,false,rfl,bd,fun t H' h=>q t H' (h.stp cJ.refl bd)⟩
  have c1:¬ bt=0:=dec_false c
  rw[if_neg c1]at q
  refine⟨fun v H2=>∃x dx',v= .ref x/\H x=none/\Same H H2/\(if l=1 then H2 x=some (.ins CA.free dx' [("since",.int ((0:Nat):Int))]) else H2 x=some (.ins CA.rests dx' [("left",.int ((l-1:Nat):Int))])),?_,?_⟩
  ·refine⟨dx,_,_,e,rfl,?_⟩
   conv=>whnf
   refine bL (fun z=>?_) (fun z=>?_)
   ·have z1:((l:Nat):Int)=1:=dec_true z
    refine fun x dx' hx hdx hne=>⟨x,dx',_,rfl,aB,fun H2 eH=>⟨rfl,x,dx',rfl,hx,by rw[eH];exact bF hx hdx,?_⟩⟩
    rw[if_pos (by omega),eH]
    exact aB
   ·have z1:¬ ((l:Nat):Int)=1:=dec_false z
    have el:((l:Nat):Int)-1=((l-1:Nat):Int):=by omega
    refine⟨dx,_,_,e,rfl,?_⟩
    refine fun x dx' hx hdx hne=>⟨x,dx',_,rfl,aB,fun H2 eH=>⟨rfl,x,dx',rfl,hx,by rw[eH];exact bF hx hdx,?_⟩⟩
    rw[if_neg (by omega),eH,<-el]
    exact aB
  rintro v H2 ⟨x,dx',rfl,hx,g2,e2⟩
  refine⟨aL rfl,fun t ht=>?_⟩
  have g3:=aJ ht (.tup [.str "",.ref x])
  by_cases z:l=1
  ·rw[if_pos z]at e2 q
   exact q t _ (lG bd dj cJ.refl (g2.trans g3) aB ⟨rfl,rfl,rfl,rfl,rfl,rfl⟩ hx (g3 _ _ e2) ⟨dx',g3 _ _ e2⟩)
  ·rw[if_neg z]at e2 q
   exact q t _ (lG bd dj cJ.refl (g2.trans g3) aB ⟨rfl,rfl,rfl,rfl,rfl,rfl⟩ hx (g3 _ _ e2) ⟨dx',g3 _ _ e2⟩)
 |off  =>rw[en]at tg;cases tg
variable (Zdf:MB P w K mg base (CX0) 8 Ze8 Zjv ["self","bit","post"] (cN CA 0))
include ZaL ZL Zv ZdU Zei Zdn ZM Za Za1 Zbp ZaR ZaG ZaW Z4 Zai Zaw ZaP Zal ZaT Zl Za9 in
theorem ZlQ (F0:Fun K "step" "Free.step" ZjO Ze8 Zjv):type_of% Zdf:=by
 refine mbM ["self","bit","post","begins"] F0 fun Sc0=>F0.ok Sc0 (fun vs H Q E h=>?_) fun cdv A outer s H vs Q E hr h=>?_
 ·obtain⟨nw,p,nwf,S,ob,os,bt,rfl,_⟩:=h
  rfl
 obtain⟨nw,p,nwf,S,ob,os,bt,rfl,tg,bd,st,dj,wf,hb,hu,q⟩:=h
 have nd:=Sc0.nd
 refine⟨_,(aC (aX (i:=3) nd rfl (Or.inl rfl) (cL cV (cB ZM ZaG Za9.1 (hr.mono (by decide)) Za9.2 .nil aK (dv 0) (aA (dv 2) aD)) aG (aR _))) (aC (bJ (PW.pt (kO (cP (dv 3)) (jM (aW cV (dv 1) aG (aR _))))) (aF (aM (bU (aA bD (aA (bV Zbp ZaP.1 (hr.mono (by decide)) rfl Zei ZaP.2 .nil aK (aA (bW Za ZaW ZaT.1 (hr.mono (by decide)) ZaT.2 .nil aK (dv 2)) (aA (wB Zai.1 (hr.mono (by decide)) rfl Zai.2.2.2 Zai.2.2.1 Zai.2.1 .nil aK) (aA aG aD)))) aD))))) aV) (aC (bJ (cP (dv 3)) (aF (aM (aQ Zl.1 (hr.mono (by decide)) rfl Zl.2.2.2 Zl.2.2.1 Zl.2.1 .nil aK (aA (dv 2) (aA iD aD))))) aV) (aC (bJ (aW cV (dv 1) aG (aR _)) (aF (aM (bU (aA bD (aA (bV ZaR Zal.1 (hr.mono (by decide)) rfl Zdn Zal.2 .nil aK (aA (wB Zai.1 (hr.mono (by decide)) rfl Zai.2.2.2 Zai.2.2.1 Zai.2.1 .nil aK) (aA aG aD))) aD))))) aV) (aF (aM (bU (aA bD (aA (bV Za1 Zaw.1 (hr.mono (by decide)) rfl ZdU Zaw.2 .nil aK (aA (aU cG (aN ZM Z4 (dv 0)) aG) aD)) aD))))))))),?_⟩
 obtain⟨sa,on,al⟩:=id st
 cases en:S.now with
 | free k =>
  rw[en]at sa
  obtain⟨dx,e⟩:=sa
  obtain⟨dp,ch,wl,ul,ct,ws,us,b⟩:=id bd
  rw[lL en]at q
  refine⟨⟨dx,_,e,rfl⟩,nw,p,nwf,S,ob,os,rfl,tg,bd,st,wf,?_⟩
  conv=>whnf
  refine bL (fun c=>?_) (fun c=>?_)
  ·have c1:bC S=0:=dec_true c
   rw[if_pos c1]at q
   conv=>whnf
   refine bL (fun z=>?_) (fun z=>?_)
   ·have z1:bt=0:=dec_true z
    rw[if_pos z1]at q
    cases ewt:S.wt with
    | nil=>
     rw[mF en,if_pos ewt]at c1
     cases c1
    | cons f rr=>
     rw[ewt]at q
     have hf:=wf.wt f (by rw[ewt];exact YC)
     refine⟨⟨dp,_,b.e,rfl⟩,p,nwf,S,ob,f,rr,rfl,bd,ewt,hf,fun pw H1 hpw g1 e1=>?_⟩
     refine⟨rfl,fun r st' ks H2 t0 hR g2 n1 n2 n3=>?_⟩
     refine fun x dx' hx hdx hne=>⟨x,dx',_,_,_,rfl,aB,fun H3 eH=>⟨rfl,aL rfl,fun t ht=>?_⟩⟩
     have g3:Same H2 H3:=by rw[eH];exact bF hx hdx
     have e3:H3 x=some (.ins CA.speaks dx' [("wire",.ref pw),("reader",.ref r),("many",.int ((1:Nat):Int))]):=by rw[eH];exact aB
     have g4:=aJ ht (.tup [.str "begins",.ref x])
     have npk:pw≠ks:=fun y=>by rw[y,n3]at e1;cases e1
     have g24:=g3.trans g4
     have gs:=g1.trans (g2.trans g24)
     refine q t _ (Stp.go (os':=fun y=>y=x\/y=pw\/y=r\/y=st'\/y=ks) bd dj cJ.refl gs aB ⟨rfl,rfl,rfl,ewt.symm,rfl,rfl⟩ ⟨⟨dx',pw,r,st',ks,t0,g4 _ _ e3,g24 _ _ (g2 _ _ e1),?_,npk,.inr (.inl rfl),.inr (.inr (.inl rfl)),.inr (.inr (.inr (.inl rfl))),.inr (.inr (.inr (.inr rfl)))⟩,.inl rfl,?_⟩ ?_)
     ·show gU _ _ _ r st' ks ((wr f.1 f.2).take 1) t0
      rw[tW]
      exact hR.same g24
     ·rintro y (rfl | rfl | rfl | rfl | rfl)
      ·rw[g4 _ _ e3];simp
      ·rw[g24 _ _ (g2 _ _ e1)];simp
      ·obtain⟨d,w⟩:=hR.rd;rw[g24 _ _ w];simp
      ·obtain⟨d,w⟩:=hR.sk;rw[g24 _ _ w];simp
      ·rw[g24 _ _ hR.kp];simp
     ·rintro y (rfl | rfl | rfl | rfl | rfl)
      ·exact .inr (g1.none (g2.none hx))
      ·exact .inr hpw
      ·exact .inr (g1.none n1)
      ·exact .inr (g1.none n2)
      ·exact .inr (g1.none n3)
   ·have z1:¬ bt=0:=dec_false z
    rw[if_neg z1]at q
    conv=>whnf
    refine bL (fun _=>?_) (fun c'=>absurd c c')
    exact⟨p,nwf,S,ob,true,rfl,bd,fun t H' h=>q t H' (h.stp cJ.refl bd)⟩
  have c1:¬ bC S=0:=dec_false c
  rw[if_neg c1]at q
  refine yZ ?_
  conv=>whnf
  refine bL (fun c'=>absurd c' c) (fun _=>?_)
  conv=>whnf
  refine bL (fun z=>?_) (fun z=>?_)
  ·have z1:bt=0:=dec_true z
   rw[if_pos z1]at q
   refine⟨rfl,fun r st' ks H2 t0 hR g2 n1 n2 n3=>?_⟩
   refine fun x dx' hx hdx hne=>⟨x,dx',_,_,rfl,aB,fun H3 eH=>⟨rfl,aL rfl,fun t ht=>?_⟩⟩
   have g3:Same H2 H3:=by rw[eH];exact bF hx hdx
   have e3:H3 x=some (.ins CA.reads dx' [("reader",.ref r),("many",.int ((1:Nat):Int))]):=by rw[eH];exact aB
   have g4:=aJ ht (.tup [.str "",.ref x])
   have g24:=g3.trans g4
   refine q t _ (Stp.go (os':=fun y=>y=x\/y=r\/y=st'\/y=ks) bd dj cJ.refl (g2.trans g24) aB ⟨rfl,rfl,rfl,rfl,rfl,rfl⟩ ⟨⟨dx',r,st',ks,t0,g4 _ _ e3,hR.same g24,.inr (.inl rfl),.inr (.inr (.inl rfl)),.inr (.inr (.inr rfl))⟩,.inl rfl,?_⟩ ?_)
   ·rintro y (rfl | rfl | rfl | rfl)
    ·rw[g4 _ _ e3];simp
    ·obtain⟨d,w⟩:=hR.rd;rw[g24 _ _ w];simp
    ·obtain⟨d,w⟩:=hR.sk;rw[g24 _ _ w];simp
    ·rw[g24 _ _ hR.kp];simp
   ·rintro y (rfl | rfl | rfl | rfl)
    ·exact .inr (g2.none hx)
    ·exact .inr n1
    ·exact .inr n2
    ·exact .inr n3
  ·have z1:¬ bt=0:=dec_false z
   rw[if_neg z1]at q
   refine⟨dx,_,_,e,rfl,?_⟩
   refine fun x dx' hx hdx hne=>⟨x,dx',_,rfl,aB,fun H2 eH=>⟨rfl,aL rfl,fun t ht=>?_⟩⟩
   have g2:Same H H2:=by rw[eH];exact bF hx hdx
   have e2:H2 x=some (.ins CA.free dx' [("since",.int ((k+1:Nat):Int))]):=by rw[eH];exact aB
   have g3:=aJ ht (.tup [.str "",.ref x])
   exact q t _ (lG bd dj cJ.refl (g2.trans g3) aB ⟨rfl,rfl,rfl,rfl,rfl,rfl⟩ hx (g3 _ _ e2) ⟨dx',g3 _ _ e2⟩)
 |speaks n ds k=>rw[en]at tg;cases tg
 |reads h=>rw[en]at tg;cases tg
 |tlS v c=>rw[en]at tg;cases tg
 |tlR n ds v c=>rw[en]at tg;cases tg
 |flag l m=>rw[en]at tg;cases tg
 |settles m=>rw[en]at tg;cases tg
 |rests l=>rw[en]at tg;cases tg
 |off  =>rw[en]at tg;cases tg
variable (ZcW:MB P w K mg base (CX0) 7 ZeB ZiN ["self","bit","post"] (cN CA 2))
include ZL Zv Zc0 Zdn Zeh Zdd Zg ZF Za ZaR Zbo Za5 ZO Zbs Z2 ZaK Z6 Z9 Zcf Zax Zal ZaO Zl in
theorem Zlp (F0:Fun K "step" "Reads.step" Zja ZeB ZiN):type_of% ZcW:=by
 refine mbM ["self","bit","post","answer"] F0 fun Sc0=>F0.ok Sc0 (fun vs H Q E h=>?_) fun cdv A outer s H vs Q E hr h=>?_
 ·obtain⟨nw,p,nwf,S,ob,os,bt,rfl,_⟩:=h
  rfl
 obtain⟨nw,p,nwf,S,ob,os,bt,rfl,tg,bd,st,dj,wf,hb,hu,q⟩:=h
 have nd:=Sc0.nd
 refine⟨_,(aC (aX (i:=3) nd rfl (Or.inl rfl) (cB Zg ZO Z9.1 (hr.mono (by decide)) Z9.2 .nil aK (aN ZF Z2 (dv 0)) (aA (dv 1) aD))) (aC (bJ (aW cV (dv 3) bD (aR _)) (aF (aM (bU (aA bD (aA (bV ZaR Zal.1 (hr.mono (by decide)) rfl Zdn Zal.2 .nil aK (aA (aN ZF Z2 (dv 0)) (aA (aU cG (aN ZF ZaK (dv 0)) aG) aD))) aD))))) aV) (aC (bJ (aW cV (dv 3) bD (aR _)) (aF (aM (bU (aA bD (aA (bV Zbo ZaO.1 (hr.mono (by decide)) rfl Zeh ZaO.2 .nil aK (aA (bV Za5 Zax.1 (hr.mono (by decide)) rfl Zdd Zax.2 .nil aK (aA (aN Za Z6 (dv 2)) aD)) (aA (bW Zg Zbs Zcf.1 (hr.mono (by decide)) Zcf.2 .nil aK (aN ZF Z2 (dv 0))) aD))) aD))))) aV) (aF (aM (aQ Zl.1 (hr.mono (by decide)) rfl Zl.2.2.2 Zl.2.2.1 Zl.2.1 .nil aK (aA (dv 2) (aA iD aD)))))))),?_⟩
 obtain⟨sa,on,al⟩:=id st
 cases en:S.now with
 |free k=>rw[en]at tg;cases tg
 |speaks n ds k=>rw[en]at tg;cases tg
 | reads h=>
  rw[en]at sa
  obtain⟨dx,r,st',ks,t0,e,hR,o1,o2,o3⟩:=sa
  have hn:=wf.now
  rw[en]at hn
  obtain⟨f1,f2,f3⟩:=hn
  have hlen:=b6R f1 f2
  rw[lZ en]at q
  obtain⟨dr,er⟩:=hR.rd
  obtain⟨dk,ek⟩:=hR.sk
  have hbits:bO (h++[bt]):=lB f1 (fun z hz=>by rw[Yn.mp hz];exact hb)
  refine⟨dx,_,.ref r,e,rfl,⟨dr,_,er,rfl⟩,r,st',ks,h,t0,bt,rfl,hR,hbits,by omega,fun H1 hR1 b1=>?_⟩
  have n1:nw≠r:=qM "many" e er rfl rfl
  have n2:nw≠st':=qM "many" e ek rfl rfl
  have n3:nw≠ks:=a1A e hR.kp
  have e1:=b1 _ _ n1 n2 n3 e
  have k1:=a1I hR b1 o1 o2 o3
  have bd1:=pL bd dj k1
  have k1':cJ (Or2 ob os) H H1:=k1.le fun x hx=> .inr hx
  obtain⟨dr1,er1⟩:=hR1.rd
  generalize hans:ans (h++[bt])=an at hR1 q er1 ⊢
  conv=>whnf
  refine bL (fun c=>?_) (fun c=>?_)
  ·have c1:an="more":=YK c
   rw[if_pos c1]at q
   refine⟨dx,_,.ref r,e1,rfl,dx,_,_,e1,rfl,?_⟩
   refine fun x dx' hx hdx hne=>⟨x,dx',_,_,rfl,aB,fun H2 eH=>⟨rfl,aL rfl,fun t ht=>?_⟩⟩
   have g2:Same H1 H2:=by rw[eH];exact bF hx hdx
   have el:((h.length:Nat):Int)+1=(((h++[bt]).length:Nat):Int):=by rw[Yc,Yt];rfl
   have e2:H2 x=some (.ins CA.reads dx' [("reader",.ref r),("many",.int (((h++[bt]).length:Nat):Int))]):=by rw[eH,<-el];exact aB
   have g3:=aJ ht (.tup [.str "",.ref x])
   have g13:=g2.trans g3
   refine q t _ (Stp.go (os':=fun y=>y=x\/y=r\/y=st'\/y=ks) bd dj k1 g13 aB ⟨rfl,rfl,rfl,rfl,rfl,rfl⟩ ⟨⟨dx',r,st',ks,an,g3 _ _ e2,hR1.same g13,.inr (.inl rfl),.inr (.inr (.inl rfl)),.inr (.inr (.inr rfl))⟩,.inl rfl,?_⟩ ?_)
   ·rintro y (rfl | rfl | rfl | rfl)
    ·rw[g3 _ _ e2];simp
    ·rw[g13 _ _ er1];simp
    ·obtain⟨d,w⟩:=hR1.sk;rw[g13 _ _ w];simp
    ·rw[g13 _ _ hR1.kp];simp
   ·rintro y (rfl | rfl | rfl | rfl)
    ·exact .inr hx
    ·exact .inl o1
    ·exact .inl o2
    ·exact .inl o3
  have c1:¬ an="more":=fun z=>c (Ye z)
  rw[if_neg c1]at q
  conv=>whnf
  refine bL (fun z=>?_) (fun z=>?_)
  ·have z1:an="whole":=YK z
   rw[if_pos z1]at q
   obtain⟨dp,ch,wl,ul,ct,ws,us,b⟩:=id bd1
   refine⟨dp,_,_,b.e,rfl,?_⟩
   refine fun tl dt htl hdt hne=>⟨tl,dt,S.vt,rfl,aB,fun H2 eH=>⟨rfl,?_⟩⟩
   have g2:Same H1 H2:=by rw[eH];exact bF htl hdt
   have e2:H2 tl=some (.ins CA.rtail dt (tlF S.vt false 0 0)):=by rw[eH];exact aB
   clear eH
   have hR2:=hR1.same g2
   obtain⟨dr2,er2⟩:=hR2.rd
   refine⟨dx,_,.ref r,g2 _ _ e1,rfl,⟨dr2,_,er2,rfl⟩,r,st',ks,h++[bt],rfl,(by rw[hans];exact hR2),hbits,(by rw[Yc,Yt];omega),(fun _=>a4A (by rw[b2E,Xb,f3];rfl)),fun _ ok t d H3 hd g3 ed et=>?_,fun no=>absurd (hans.trans z1) no⟩
   refine fun x dx' hx hdx hne=>⟨x,dx',_,_,rfl,aB,fun H4 eH=>⟨rfl,aL rfl,fun t' ht'=>?_⟩⟩
   have g4:Same H3 H4:=by rw[eH];exact bF hx hdx
   have e4:H4 x=some (.ins CA.intail dx' [("tail",.ref tl),("found",.ref t)]):=by rw[eH];exact aB
   clear eH
   have g5:=aJ ht' (.tup [.str "",.ref x])
   have g35:=g4.trans g5
   refine q t' _ (Stp.go (os':=fun y=>y=x\/y=tl\/y=d) bd dj k1 (g2.trans (g3.trans g35)) aB ⟨rfl,rfl,rfl,rfl,rfl,rfl⟩ ⟨⟨dx',tl,t,d,g5 _ _ e4,⟨CA.rtail,dt,.inl rfl,g35 _ _ (g3 _ _ e2)⟩,g35 _ _ et,g35 _ _ ed,.inr (.inl rfl),.inr (.inr rfl)⟩,.inl rfl,?_⟩ ?_)
   ·rintro y (rfl | rfl | rfl)
    ·rw[g5 _ _ e4];simp
    ·rw[g35 _ _ (g3 _ _ e2)];simp
    ·rw[g35 _ _ ed];simp
   ·rintro y (rfl | rfl | rfl)
    ·exact .inr (g2.none (g3.none hx))
    ·exact .inr htl
    ·exact .inr (g2.none hd)
  ·have z1:¬ an="whole":=fun y=>z (Ye y)
   rw[if_neg z1]at q
   exact⟨p,nwf,S,ob,false,rfl,bd1,fun t H' h=>q t H' (h.stp k1' bd1)⟩
 |tlS v c=>rw[en]at tg;cases tg
 |tlR n ds v c=>rw[en]at tg;cases tg
 |flag l m=>rw[en]at tg;cases tg
 |settles m=>rw[en]at tg;cases tg
 |rests l=>rw[en]at tg;cases tg
 |off  =>rw[en]at tg;cases tg
variable (ZcA:MB P w K mg base (CX0) 7 Zd6 Zh3 ["self","bit","post"] (cN CA 1))
include ZL Zv Zc0 Zei Zdn Zeh Zfh ZcM ZS Zg Zi Za Zbp ZaR Zbo Za0 ZO Zbt ZI ZQ ZC Z6 Z9 Zcg Zao ZaP Zal ZaO Zl in
theorem ZkX (F0:Fun K "step" "Speaks.step" Zik Zd6 Zh3):type_of% ZcA:=by
 refine mbM ["self","bit","post","own","is_duel"] F0 fun Sc0=>F0.ok Sc0 (fun vs H Q E h=>?_) fun cdv A outer s H vs Q E hr h=>?_
 ·obtain⟨nw,p,nwf,S,ob,os,bt,rfl,_⟩:=h
  rfl
 obtain⟨nw,p,nwf,S,ob,os,bt,rfl,tg,bd,st,dj,wf,hb,hu,q⟩:=h
 have nd:=Sc0.nd
 refine⟨_,(aC (aX (i:=3) nd rfl (Or.inl rfl) (bQ fD (aN Zi ZI (dv 0)) (aN Zi ZC (dv 0)) (fun _ _=>rfl))) (aC (aX (i:=4) nd rfl (Or.inl rfl) (cL xV (bK fC rfl ZS cY (aA (bW Zg Zbt Zcg.1 (hr.mono (by decide)) Zcg.2 .nil aK (aN Zi ZQ (dv 0))) aD)) (bA (v:= .int 9) rfl Zfh ⟨_,rfl⟩) (aR _))) (aC (bJ (aW cV (cB Zg ZO Z9.1 (hr.mono (by decide)) Z9.2 .nil aK (aN Zi ZQ (dv 0)) (aA (dv 1) aD)) bD (aR _)) (aF (aM (aQ Zl.1 (hr.mono (by decide)) rfl Zl.2.2.2 Zl.2.2.1 Zl.2.1 .nil aK (aA (dv 2) (aA iD aD))))) aV) (aC (kW (bJ (PW.pt (kO (aW cV (dv 3) aG (aR _)) (kO (aW cV (dv 1) aG (aR _)) (jM (cP (dv 4)))))) (aF (aM (bU (aA bD (aA (bV ZaR Zal.1 (hr.mono (by decide)) rfl Zdn Zal.2 .nil aK (aA (aN Zi ZQ (dv 0)) (aA (aU cG (aN Zi ZC (dv 0)) aG) aD))) aD))))) aV)) (aC (bJ (aW rH (dv 1) (dv 3) (aR _)) (aF (aM (aQ Zl.1 (hr.mono (by decide)) rfl Zl.2.2.2 Zl.2.2.1 Zl.2.1 .nil aK (aA (dv 2) (aA iD aD))))) aV) (aC (bJ (aW cV (aU cG (aN Zi ZC (dv 0)) aG) (bK fC rfl ZS cY (aA (aN Zi ZI (dv 0)) aD)) (aR _)) (aF (aM (bU (aA bD (aA (bV Zbo ZaO.1 (hr.mono (by decide)) rfl Zeh ZaO.2 .nil aK (aA (bV Za0 Zao.1 (hr.mono (by decide)) rfl ZcM Zao.2 .nil aK (aA (aN Za Z6 (dv 2)) aD)) (aA nW aD))) aD))))) aV) (aF (aM (bU (aA bD (aA (bV Zbp ZaP.1 (hr.mono (by decide)) rfl Zei ZaP.2 .nil aK (aA (aN Zi ZI (dv 0)) (aA (aN Zi ZQ (dv 0)) (aA (aU cG (aN Zi ZC (dv 0)) aG) aD)))) aD))))))))))),?_⟩
 obtain⟨sa,on,al⟩:=id st
 cases en:S.now with
 |free k=>rw[en]at tg;cases tg
 | speaks n ds k=>
  rw[en]at sa
  obtain⟨dx,wa,r,st',ks,t0,e,ew,hR,nwk,o0,o1,o2,o3⟩:=sa
  have hn:=wf.now
  rw[en]at hn
  obtain⟨f1,f2,hk,f4⟩:=hn
  have wl_:=jZ f1
  have wbits:=(lW f1).wbits
  rw[iQ en]at q
  have eg:=getD_get hk
  rw[eg]at q
  obtain⟨dr,er⟩:=hR.rd
  obtain⟨dk,ek⟩:=hR.sk
  have hbits:bO ((wr n ds).take k++[bt]):=lB (tX wbits) (fun z hz=>by rw[Yn.mp hz];exact hb)
  refine⟨dx,_,.ref wa,e,rfl,dx,_,_,e,rfl,_,_,SqL.of ew,uX hk,?_⟩
  refine⟨dx,_,.ref r,e,rfl,⟨dr,_,er,rfl⟩,r,st',ks,_,t0,rfl,hR,fun pp H0 hpp g0 e0=>?_⟩
  refine⟨_,.inl (SqL.of e0),?_⟩
  rw[Ya]
  have hR0:=hR.same g0
  obtain⟨dr0,er0⟩:=hR0.rd
  have ee0:=g0 _ _ e
  refine⟨dx,_,.ref r,ee0,rfl,⟨dr0,_,er0,rfl⟩,r,st',ks,(wr n ds).take k,t0,bt,rfl,hR0,hbits,(by rw[Yr];omega),fun H1 hR1 b1=>?_⟩
  have n1:nw≠r:=qM "wire" e er rfl rfl
  have n2:nw≠st':=qM "wire" e ek rfl rfl
  have n3:nw≠ks:=a1A e hR.kp
  have e1:=b1 _ _ n1 n2 n3 ee0
  have ew1:=b1 _ _ (Ne.symm (a1A er ew)) (Ne.symm (a1A ek ew)) nwk (g0 _ _ ew)
  have k01:=a1I hR0 b1 o1 o2 o3
  have k1:cJ os H H1:=fun x v ex z=>k01 x v (g0 x v ex) z
  have bd1:=pL bd dj k1
  have k1':cJ (Or2 ob os) H H1:=k1.le fun x hx=> .inr hx
  obtain⟨dr1,er1⟩:=hR1.rd
  conv=>whnf
  refine bL (fun c=>?_) (fun c=>?_)
  ·have c1:ans ((wr n ds).take k++[bt])="six":=YK c
   rw[if_pos c1]at q
   exact⟨p,nwf,S,ob,true,rfl,bd1,fun t H' h=>q t H' (h.stp k1' bd1)⟩
  have c1:¬ ans ((wr n ds).take k++[bt])="six":=fun z=>c (Ye z)
  rw[if_neg c1]at q
  refine⟨fun σ' H'=>σ'= [some (.ref nw),some (.int bt),some (.ref p),some (.int (wr n ds)[k]),some (.bl (decide (((kp ((wr n ds).take k)).length:Int)<9)))]/\H'=H1/\¬ ((wr n ds)[k]=1/\bt=0/\(kp ((wr n ds).take k)).length<9),?_,?_⟩
  ·conv=>whnf
   refine bL (fun y1=>?_) (fun y1=>yZ ⟨rfl,rfl,fun z=>dec_false y1 z.1⟩)
   conv=>whnf
   refine bL (fun y2=>?_) (fun y2=>yZ ⟨rfl,rfl,fun z=>dec_false y2 z.2.1⟩)
   conv=>whnf
   refine bL (fun y3=>?_) (fun y3=>⟨rfl,rfl,fun z=>dec_false y3 (by have:=z.2.2;omega)⟩)
   have hl:(wr n ds)[k]=1/\bt=0/\(kp ((wr n ds).take k)).length<9:=⟨dec_true y1,dec_true y2,by have:=dec_true y3;omega⟩
   rw[if_pos hl]at q
   refine⟨dx,_,.ref r,e1,rfl,dx,_,_,e1,rfl,?_⟩
   refine fun x dx' hx hdx hne=>⟨x,dx',_,_,rfl,aB,fun H2 eH=>⟨rfl,aL rfl,fun t ht=>?_⟩⟩
   have g2:Same H1 H2:=by rw[eH];exact bF hx hdx
   have el:((k:Nat):Int)+1=((((wr n ds).take k++[bt]).length:Nat):Int):=by rw[Yc,Yt,Yr];omega
   have e2:H2 x=some (.ins CA.reads dx' [("reader",.ref r),("many",.int ((((wr n ds).take k++[bt]).length:Nat):Int))]):=by rw[eH,<-el];exact aB
   have g3:=aJ ht (.tup [.str "loses",.ref x])
   have g13:=g2.trans g3
   refine q t _ (Stp.go (os':=fun y=>y=x\/y=r\/y=st'\/y=ks) bd dj k1 g13 aB ⟨rfl,rfl,rfl,rfl,rfl,rfl⟩ ⟨⟨dx',r,st',ks,_,g3 _ _ e2,hR1.same g13,.inr (.inl rfl),.inr (.inr (.inl rfl)),.inr (.inr (.inr rfl))⟩,.inl rfl,?_⟩ ?_)
   ·rintro y (rfl | rfl | rfl | rfl)
    ·rw[g3 _ _ e2];simp
    ·rw[g13 _ _ er1];simp
    ·obtain⟨d,w⟩:=hR1.sk;rw[g13 _ _ w];simp
    ·rw[g13 _ _ hR1.kp];simp
   ·rintro y (rfl | rfl | rfl | rfl)
    ·exact .inr hx
    ·exact .inl o1
    ·exact .inl o2
    ·exact .inl o3
  rintro σ' H' ⟨rfl,rfl,nl⟩
  rw[if_neg nl]at q
  conv=>whnf
  refine bL (fun y=>?_) (fun y=>?_)
  ·have y1:¬ bt=(wr n ds)[k]:=fun z=>by
    have:(!decide (bt=(wr n ds)[k]))=true:=y
    rw[Ye z]at this;cases this
   rw[if_neg y1]at q
   exact⟨p,nwf,S,ob,true,rfl,bd1,fun t H' h=>q t H' (h.stp k1' bd1)⟩
  have y1:bt=(wr n ds)[k]:=YD fun z=>y (by
   show (!decide (bt=(wr n ds)[k]))=true
   rw[Yi z];rfl)
  rw[if_pos y1]at q
  have et:(wr n ds).take k++[bt]=(wr n ds).take (k+1):=by rw[Yg hk,y1]
  refine⟨dx,_,_,e1,rfl,dx,_,.ref wa,e1,rfl,_,.inl (SqL.of ew1),?_⟩
  rw[Ya]
  conv=>whnf
  refine bL (fun z=>?_) (fun z=>?_)
  ·have z1:((k:Nat):Int)+1=(((wr n ds).length:Nat):Int):=dec_true z
   rw[if_pos (by omega)]at q
   obtain⟨dp,ch,wl,ul,ct,ws,us,b⟩:=id bd1
   refine⟨dp,_,_,b.e,rfl,?_⟩
   refine fun tl dt htl hdt hne=>⟨tl,dt,S.vt,rfl,aB,fun H2 eH=>⟨rfl,?_⟩⟩
   have g2:Same H' H2:=by rw[eH];exact bF htl hdt
   have e2:H2 tl=some (.ins CA.stail dt (tlF S.vt true 0 0)):=by rw[eH];exact aB
   clear eH
   refine fun x dx' hx hdx hne=>⟨x,dx',_,_,rfl,aB,fun H4 eH=>⟨rfl,aL rfl,fun t' ht'=>?_⟩⟩
   have g4:Same H2 H4:=by rw[eH];exact bF hx hdx
   have e4:H4 x=some (.ins CA.intail dx' [("tail",.ref tl),("found",.non)]):=by rw[eH];exact aB
   clear eH
   have g5:=aJ ht' (.tup [.str "",.ref x])
   have g35:=g4.trans g5
   refine q t' _ (Stp.go (os':=fun y=>y=x\/y=tl) bd dj k1 (g2.trans g35) aB ⟨rfl,rfl,rfl,rfl,rfl,rfl⟩ ⟨⟨dx',tl,g5 _ _ e4,⟨CA.stail,dt,.inr rfl,g35 _ _ e2⟩,.inr rfl⟩,.inl rfl,?_⟩ ?_)
   ·rintro y (rfl | rfl)
    ·rw[g5 _ _ e4];simp
    ·rw[g35 _ _ e2];simp
   ·rintro y (rfl | rfl)
    ·exact .inr (g2.none hx)
    ·exact .inr htl
  ·have z1:¬ ((k:Nat):Int)+1=(((wr n ds).length:Nat):Int):=dec_false z
   rw[if_neg (by omega)]at q
   refine⟨dx,_,.ref wa,e1,rfl,dx,_,.ref r,e1,rfl,dx,_,_,e1,rfl,?_⟩
   refine fun x dx' hx hdx hne=>⟨x,dx',_,_,_,rfl,aB,fun H2 eH=>⟨rfl,aL rfl,fun t ht=>?_⟩⟩
   have g2:Same H' H2:=by rw[eH];exact bF hx hdx
   have e2:H2 x=some (.ins CA.speaks dx' [("wire",.ref wa),("reader",.ref r),("many",.int ((k+1:Nat):Int))]):=by rw[eH];exact aB
   clear eH
   have g3:=aJ ht (.tup [.str "",.ref x])
   have g13:=g2.trans g3
   rw[et]at hR1 er1
   refine q t _ (Stp.go (os':=fun y=>y=x\/y=wa\/y=r\/y=st'\/y=ks) bd dj k1 g13 aB ⟨rfl,rfl,rfl,rfl,rfl,rfl⟩ ⟨⟨dx',wa,r,st',ks,_,g3 _ _ e2,g13 _ _ ew1,hR1.same g13,nwk,.inr (.inl rfl),.inr (.inr (.inl rfl)),.inr (.inr (.inr (.inl rfl))),.inr (.inr (.inr (.inr rfl)))⟩,.inl rfl,?_⟩ ?_)
   ·rintro y (rfl | rfl | rfl | rfl | rfl)
    ·rw[g3 _ _ e2];simp
    ·rw[g13 _ _ ew1];simp
    ·rw[g13 _ _ er1];simp
    ·obtain⟨d,w⟩:=hR1.sk;rw[g13 _ _ w];simp
    ·rw[g13 _ _ hR1.kp];simp
   ·rintro y (rfl | rfl | rfl | rfl | rfl)
    ·exact .inr hx
    ·exact .inl o0
    ·exact .inl o1
    ·exact .inl o2
    ·exact .inl o3
 |reads h=>rw[en]at tg;cases tg
 |tlS v c=>rw[en]at tg;cases tg
 |tlR n ds v c=>rw[en]at tg;cases tg
 |flag l m=>rw[en]at tg;cases tg
 |settles m=>rw[en]at tg;cases tg
 |rests l=>rw[en]at tg;cases tg
 |off  =>rw[en]at tg;cases tg
variable (Zcv:MB P w K mg base (CX0) 6 ZdZ ZhW ["self","bit","post"] (cN CA 3))
include ZcZ ZbG Ze Zd Zf Zr Za ZaE Zb0 ZaV Zbr Zag Z7 ZB ZaC Zk Zba ZcP Z1 ZaS Zce Zl ZbB in
theorem ZkQ (F0:Fun K "step" "InTail.step" Zid ZdZ ZhW):type_of% Zcv:=by
 refine mbM ["self","bit","post","answer"] F0 fun Sc0=>F0.ok Sc0 (fun vs H Q E h=>?_) fun cdv A outer s H vs Q E hr h=>?_
 ·obtain⟨nw,p,nwf,S,ob,os,bt,rfl,_⟩:=h
  rfl
 obtain⟨nw,p,nwf,S,ob,os,bt,rfl,tg,bd,st,dj,wf,hb,hu,q⟩:=h
 have nd:=Sc0.nd
 refine⟨_,(aC (aX (i:=3) nd rfl (Or.inl rfl) (mR Zba.1 (hr.mono (by decide)) Zba.2 .nil aK (aN Zr ZB (dv 0)) (aA (dv 1) aD))) (aC (bJ (aW cV (dv 3) bD (aR _)) (aF (aM (bU (aA bD (aA (dv 0) aD))))) aV) (aC (bJ (aW cV (dv 3) bD (aR _)) (aF (aM (aQ Zl.1 (hr.mono (by decide)) rfl Zl.2.2.2 Zl.2.2.1 Zl.2.1 .nil aK (aA (dv 2) (aA (eZ (aN Zr ZB (dv 0))) aD))))) aV) (aC (bJ (aW cV (dv 3) bD (aR _)) (aF (aM (aQ ZbB.1 (hr.mono (by decide)) rfl ZbB.2.2.2 ZbB.2.2.1 ZbB.2.1 .nil aK (aA (dv 2) (aA (eZ (aN Zr ZB (dv 0))) aD))))) aV) (aC (bB (bW Zf Zb0 ZcP.1 (hr.mono (by decide)) ZcP.2 .nil aK (aN Za Zk (dv 2)))) (aC (bJ (cP (eZ (aN Zr ZB (dv 0)))) (aC (bB (bW Za ZaV ZaS.1 (hr.mono (by decide)) ZaS.2 .nil aK (dv 2))) (aF (aM (bU (aA bD (aA (bV ZaE Z1.1 (hr.mono (by decide)) rfl ZcZ Z1.2 .nil aK (aA (bA (v:= .int 3) rfl ZbG ⟨_,rfl⟩) aD)) aD)))))) aV) (aC (bB (cB Za Zbr Zce.1 (hr.mono (by decide)) Zce.2 .nil aK (dv 2) (aA (aN Zr ZaC (dv 0)) aD))) (aF (aM (bU (aA bD (aA (bV ZaE Z1.1 (hr.mono (by decide)) rfl ZcZ Z1.2 .nil aK (aA (bA (v:= .int 3) rfl ZbG ⟨_,rfl⟩) aD)) aD)))))))))))),?_⟩
 obtain⟨sa,on,al⟩:=id st
 cases en:S.now with
 |free k=>rw[en]at tg;cases tg
 |speaks n ds k=>rw[en]at tg;cases tg
 |reads h=>rw[en]at tg;cases tg
 | tlS v c=>
  rw[en]at sa
  obtain⟨dx,tl,  e,ht,o1⟩:=sa
  obtain⟨C,dt,hC,e0⟩:=id ht
  have hc:=iM Ze Zd hC
  have hm:=oN Zag Z7 hC
  rw[iH en]at q
  refine⟨dx,_,.ref tl,e,rfl,⟨C,dt,_,e0,hc.cls,hm,rfl⟩,tl,S.vt,true,v,c,bt,rfl,ht,fun H1 ht1 b1=>?_⟩
  have ntl:nw≠tl:=qM "found" e e0 rfl rfl
  have e1:=b1 _ _ ntl e
  have k1:=a1H ht b1 o1
  have bd1:=pL bd dj k1
  have k1':cJ (Or2 ob os) H H1:=k1.le fun x hx=> .inr hx
  obtain⟨C1,dt1,hC1,et1⟩:=id ht1
  have hc1:=iM Ze Zd hC1
  have al1:∀x,os x->H1 x≠none:=fun x hx=>by
   by_cases z:x=tl
   ·rw[z,et1];simp
   ·cases ex:H x with
    |none=>exact absurd ex (al x hx)
    |some u=>rw[b1 x u z ex];simp
  have hw:=wf.now
  rw[en]at hw
  have hw1:S.wt≠ []:=hw
  generalize aZ S.vt true v c bt=an at q ⊢
  conv=>whnf
  refine bL (fun y=>?_) (fun y=>?_)
  ·have y1:an="more":=YK y
   rw[if_pos y1]at q
   refine⟨aL rfl,fun t ht'=>?_⟩
   have g2:=aJ ht' (.tup [.str "",.ref nw])
   refine q t _ (Stp.go (os':=os) bd dj k1 g2 aB ⟨rfl,rfl,rfl,rfl,rfl,rfl⟩ ⟨⟨dx,tl,g2 _ _ e1,ht1.same g2,o1⟩,on,fun x hx=>?_⟩ fun x hx=> .inl hx)
   cases ex:H1 x with
   |none=>exact absurd ex (al1 x hx)
   |some u=>rw[g2 x u ex];simp
  have y1:¬ an="more":=fun z=>y (Ye z)
  rw[if_neg y1]at q
  conv=>whnf
  refine bL (fun y=>?_) (fun y=>?_)
  ·have y2:an="fault":=YK y
   rw[if_pos y2]at q
   exact⟨dx,_,.ref tl,e1,rfl,C1,dt1,_,_,et1,hc1.cls,hc1.n2,rfl,p,nwf,S,ob,true,rfl,bd1,fun t H' h=>q t H' (h.stp k1' bd1)⟩
  have y2:¬ an="fault":=fun z=>y (Ye z)
  rw[if_neg y2]at q
  conv=>whnf
  refine bL (fun y=>?_) (fun y=>?_)
  ·have y3:an="refused":=YK y
   rw[if_pos y3]at q
   exact⟨dx,_,.ref tl,e1,rfl,C1,dt1,_,_,et1,hc1.cls,hc1.n2,rfl,p,nwf,S,ob,true,rfl,bd1,fun t H' h=>q t H' (h.stp k1' bd1)⟩
  have y3:¬ an="refused":=fun z=>y (Ye z)
  rw[if_neg y3]at q
  obtain⟨dp,ch,wl,ul,ct,ws,us,b⟩:=id bd1
  obtain⟨dc,ec⟩:=id b.et
  refine⟨dp,_,.ref ct,b.e,rfl,⟨dc,_,ec,rfl⟩,ct,S.tot,rfl,b.et,fun H2 c2 k2=>?_⟩
  obtain⟨b2,kk2⟩:=Bd.count b c2 k2
  have nct:∀x,os x->x≠ct:=fun x hx z=>dj ct b.ot (z▸hx)
  have e2:H2 nw=some (.ins CA.intail dx [("tail",.ref tl),("found",.non)]):=(k2 _ (nct _ on)).trans e1
  have et2:=(k2 _ (nct _ o1)).trans et1
  generalize hn2:mvd S.tot (-1)=n2 at b2 q
  refine⟨dx,_,.ref tl,e2,rfl,C1,dt1,_,_,et2,hc1.cls,hc1.n2,rfl,?_⟩
  obtain⟨dp2,ch2,wl2,ul2,ct2,ws2,us2,b22⟩:=id b2
  refine⟨⟨dp2,_,b22.e,rfl⟩,p,nwf,{ S with tot:=n2 },ob,rfl,b2,hw1,fun H3 b3 k3=>?_⟩
  have k13:cJ (Or2 ob os) H H3:=fun x u ex z=>k3 x u (kk2 x u (k1' x u ex z) (z.imp_left fun y w=>y (.inl w))) (z.imp_left fun y w=>y (.inl w))
  refine fun x dx' hx hdx hne=>⟨x,dx',_,rfl,aB,fun H4 eH=>⟨rfl,aL rfl,fun t' ht'=>?_⟩⟩
  have g4:Same H3 H4:=by rw[eH];exact bF hx hdx
  have e4:H4 x=some (.ins CA.rests dx' [("left",.int ((3:Nat):Int))]):=by rw[eH];exact aB
  clear eH
  have g5:=aJ ht' (.tup [.str "done",.ref x])
  refine q t' _ (Stp.go2 (b3.now rfl rfl rfl rfl rfl rfl) k13 (g4.trans g5) aB (gD (g5 _ _ e4) ⟨dx',g5 _ _ e4⟩) (fun y hy=>?_) ?_)
  ·have hy':y=x:=hy
   rw[hy'];exact hx
  ·exact fun y hy=> .inl (.inl hy)
 | tlR n ds v c=>
  rw[en]at sa
  obtain⟨dx,tl,tf,df,e,ht,etf,edf,o1,o2⟩:=sa
  obtain⟨C,dt,hC,e0⟩:=id ht
  have hc:=iM Ze Zd hC
  have hm:=oN Zag Z7 hC
  rw[jF en]at q
  refine⟨dx,_,.ref tl,e,rfl,⟨C,dt,_,e0,hc.cls,hm,rfl⟩,tl,S.vt,false,v,c,bt,rfl,ht,fun H1 ht1 b1=>?_⟩
  have ntl:nw≠tl:=qM "found" e e0 rfl rfl
  have e1:=b1 _ _ ntl e
  have k1:=a1H ht b1 o1
  have bd1:=pL bd dj k1
  have k1':cJ (Or2 ob os) H H1:=k1.le fun x hx=> .inr hx
  obtain⟨C1,dt1,hC1,et1⟩:=id ht1
  have hc1:=iM Ze Zd hC1
  have etf1:=k1.tup etf
  have ndf:df≠tl:=fun z=>by rw[z,e0]at edf;cases edf
  have edf1:=b1 _ _ ndf edf
  have al1:∀x,os x->H1 x≠none:=fun x hx=>by
   by_cases z:x=tl
   ·rw[z,et1];simp
   ·cases ex:H x with
    |none=>exact absurd ex (al x hx)
    |some u=>rw[b1 x u z ex];simp
  generalize aZ S.vt false v c bt=an at q ⊢
  conv=>whnf
  refine bL (fun y=>?_) (fun y=>?_)
  ·have y1:an="more":=YK y
   rw[if_pos y1]at q
   refine⟨aL rfl,fun t ht'=>?_⟩
   have g2:=aJ ht' (.tup [.str "",.ref nw])
   refine q t _ (Stp.go (os':=os) bd dj k1 g2 aB ⟨rfl,rfl,rfl,rfl,rfl,rfl⟩ ⟨⟨dx,tl,tf,df,g2 _ _ e1,ht1.same g2,g2 _ _ etf1,g2 _ _ edf1,o1,o2⟩,on,fun x hx=>?_⟩ fun x hx=> .inl hx)
   cases ex:H1 x with
   |none=>exact absurd ex (al1 x hx)
   |some u=>rw[g2 x u ex];simp
  have y1:¬ an="more":=fun z=>y (Ye z)
  rw[if_neg y1]at q
  conv=>whnf
  refine bL (fun y=>?_) (fun y=>?_)
  ·have y2:an="fault":=YK y
   rw[if_pos y2]at q
   exact⟨dx,_,.ref tl,e1,rfl,C1,dt1,_,_,et1,hc1.cls,hc1.n2,rfl,p,nwf,S,ob,false,rfl,bd1,fun t H' h=>q t H' (h.stp k1' bd1)⟩
  have y2:¬ an="fault":=fun z=>y (Ye z)
  rw[if_neg y2]at q
  conv=>whnf
  refine bL (fun y=>?_) (fun y=>?_)
  ·have y3:an="refused":=YK y
   rw[if_pos y3]at q
   exact⟨dx,_,.ref tl,e1,rfl,C1,dt1,_,_,et1,hc1.cls,hc1.n2,rfl,p,nwf,S,ob,false,rfl,bd1,fun t H' h=>q t H' (h.stp k1' bd1)⟩
  have y3:¬ an="refused":=fun z=>y (Ye z)
  rw[if_neg y3]at q
  obtain⟨dp,ch,wl,ul,ct,ws,us,b⟩:=id bd1
  obtain⟨dc,ec⟩:=id b.et
  refine⟨dp,_,.ref ct,b.e,rfl,⟨dc,_,ec,rfl⟩,ct,S.tot,rfl,b.et,fun H2 c2 k2=>?_⟩
  obtain⟨b2,kk2⟩:=Bd.count b c2 k2
  have nct:∀x,os x->x≠ct:=fun x hx z=>dj ct b.ot (z▸hx)
  have e2:H2 nw=some (.ins CA.intail dx [("tail",.ref tl),("found",.ref tf)]):=(k2 _ (nct _ on)).trans e1
  have et2:=(k2 _ (nct _ o1)).trans et1
  generalize hn2:mvd S.tot (-1)=n2 at b2 q
  refine⟨dx,_,.ref tl,e2,rfl,C1,dt1,_,_,et2,hc1.cls,hc1.n2,rfl,?_⟩
  obtain⟨dp2,ch2,wl2,ul2,ct2,ws2,us2,b22⟩:=id b2
  refine⟨⟨dp2,_,b22.e,rfl⟩,dx,_,.ref tf,e2,rfl,p,nwf,{ S with tot:=n2 },ob,tf,df,n,ds,rfl,b2,kk2.tup etf1,(k2 _ (nct _ o2)).trans edf1,fun z=>dj df z o2,hu,fun H3 b3 k3=>?_⟩
  have k13:cJ (Or2 ob os) H H3:=fun x u ex z=>k3 x u (kk2 x u (k1' x u ex z) (z.imp_left fun y w=>y (.inl w))) (z.imp_left fun y w=>y (.inl w))
  refine fun x dx' hx hdx hne=>⟨x,dx',_,rfl,aB,fun H4 eH=>⟨rfl,aL rfl,fun t' ht'=>?_⟩⟩
  have g4:Same H3 H4:=by rw[eH];exact bF hx hdx
  have e4:H4 x=some (.ins CA.rests dx' [("left",.int ((3:Nat):Int))]):=by rw[eH];exact aB
  clear eH
  have g5:=aJ ht' (.tup [.str "takes",.ref x])
  refine q t' _ (Stp.go2 (b3.now rfl rfl rfl rfl rfl rfl) k13 (g4.trans g5) aB (gD (g5 _ _ e4) ⟨dx',g5 _ _ e4⟩) (fun y hy=>?_) ?_)
  ·have hy':y=x:=hy
   rw[hy'];exact hx
  ·rintro y (hy | hy)
   ·exact .inl (.inl hy)
   ·have hy':y=df:=hy
    rw[hy'];exact .inl (.inr o2)
 |flag l m=>rw[en]at tg;cases tg
 |settles m=>rw[en]at tg;cases tg
 |rests l=>rw[en]at tg;cases tg
 |off  =>rw[en]at tg;cases tg
variable (Zdj:MB P w K mg base (CX0) 4 Zfc Zjz ["self"] (a6B CA))
include ZM Zi ZF Zr Zt ZU ZY Za Zck ZaG ZbR Zb5 ZbN Zbi Zbu Zb7 ZcF Zad Za9 Zcz ZcV Zcu ZbH Zch ZcX Zdz in
theorem ZlU (F0:Fun K "says" "Post.says" ZjS Zfc Zjz):type_of% Zdj:=by
 refine mbM ["self"] F0 fun Sc0=>F0.ok Sc0 (fun vs H Q E h=>?_) fun cdv A outer s H vs Q E hr h=>?_
 ·obtain⟨p,S,o,rfl,_⟩:=h
  rfl
 obtain⟨p,S,o,rfl,⟨nw,ob,os,bd,st,dj,wf,inc,al⟩,q⟩:=h
 have nd:=Sc0.nd
 refine⟨_,(aF (aM (wK (R:=fun C sp=>(C=CA.free/\sp=cO CA 0)\/(C=CA.speaks/\sp=cO CA 1)\/(C=CA.reads/\sp=cO CA 2)\/(C=CA.intail/\sp=cO CA 3)\/(C=CA.flag/\sp=cO CA 4)\/(C=CA.settles/\sp=cO CA 5)\/(C=CA.rests/\sp=cO CA 6)\/(C=CA.off/\sp=cO CA 7)) (k:=3) (by
  rintro C sp (⟨rfl,rfl⟩ | ⟨rfl,rfl⟩ | ⟨rfl,rfl⟩ | ⟨rfl,rfl⟩ | ⟨rfl,rfl⟩ | ⟨rfl,rfl⟩ | ⟨rfl,rfl⟩ | ⟨rfl,rfl⟩)
  ·exact⟨_,_,_,ZM,ZaG,Za9.1.mono (by decide),Za9.2⟩
  ·exact⟨_,_,_,Zi,ZbR,Zcz.1.mono (by decide),Zcz.2⟩
  ·exact⟨_,_,_,ZF,Zb5,ZcV.1.mono (by decide),ZcV.2⟩
  ·exact⟨_,_,_,Zr,ZbN,Zcu.1.mono (by decide),Zcu.2⟩
  ·exact⟨_,_,_,Zt,Zbi,ZbH.1.mono (by decide),ZbH.2⟩
  ·exact⟨_,_,_,ZU,Zbu,Zch.1.mono (by decide),Zch.2⟩
  ·exact⟨_,_,_,ZY,Zb7,ZcX.1.mono (by decide),ZcX.2⟩
  ·exact⟨_,_,_,Zck,ZcF,Zdz.1.mono (by decide),Zdz.2⟩) (hr.mono (by decide)) aK (aN Za Zad (dv 0)) (aA (dv 0) aD)))),?_⟩
 obtain⟨dp,ch,wl,ul,ct,ws,us,b⟩:=id bd
 obtain⟨C,dd,fs,hS,⟨l1,l2,l3⟩,hd⟩:=st.disp
 exact⟨dp,_,.ref nw,b.e,rfl,C,dd,_,_,hS,l1,hd (cO CA),nw,p,nw,S,ob,os,rfl,rfl,bd,st,wf,q⟩
variable (Zdh:MB P w K mg base (CX0) 9 Zfa Zjx ["self","bit"] (a6C CA))
include ZaL ZL Zv ZM Zi ZF Zr Zt ZU ZY Za Zck Zcm ZbS Zb6 ZbO Zbj Zbv Zb8 ZcG Zad ZdA ZbI Zci ZcY Zdf ZcW ZcA Zcv in
theorem ZlS (F0:Fun K "hear" "Post.hear" ZjQ Zfa Zjx):type_of% Zdh:=by
 refine mbM ["self","bit","told"] F0 fun Sc0=>F0.ok Sc0 (fun vs H Q E h=>?_) fun cdv A outer s H vs Q E hr h=>?_
 ·obtain⟨p,S,o,bt,rfl,_⟩:=h
  rfl
 obtain⟨p,S,o,bt,rfl,⟨nw,ob,os,bd,st,dj,wf,inc,al⟩,hb,hu,q⟩:=h
 have nd:=Sc0.nd
 refine⟨_,(aC (aX (i:=2) nd rfl (Or.inl rfl) (wK (R:=fun C sp=>(C=CA.free/\sp=cN CA 0)\/(C=CA.speaks/\sp=cN CA 1)\/(C=CA.reads/\sp=cN CA 2)\/(C=CA.intail/\sp=cN CA 3)\/(C=CA.flag/\sp=cN CA 4)\/(C=CA.settles/\sp=cN CA 5)\/(C=CA.rests/\sp=cN CA 6)\/(C=CA.off/\sp=cN CA 7)) (k:=8) (by
  rintro C sp (⟨rfl,rfl⟩ | ⟨rfl,rfl⟩ | ⟨rfl,rfl⟩ | ⟨rfl,rfl⟩ | ⟨rfl,rfl⟩ | ⟨rfl,rfl⟩ | ⟨rfl,rfl⟩ | ⟨rfl,rfl⟩)
  ·exact⟨_,_,_,ZM,Zcm,Zdf.1.mono (by decide),Zdf.2⟩
  ·exact⟨_,_,_,Zi,ZbS,ZcA.1.mono (by decide),ZcA.2⟩
  ·exact⟨_,_,_,ZF,Zb6,ZcW.1.mono (by decide),ZcW.2⟩
  ·exact⟨_,_,_,Zr,ZbO,Zcv.1.mono (by decide),Zcv.2⟩
  ·exact⟨_,_,_,Zt,Zbj,ZbI.1.mono (by decide),ZbI.2⟩
  ·exact⟨_,_,_,ZU,Zbv,Zci.1.mono (by decide),Zci.2⟩
  ·exact⟨_,_,_,ZY,Zb8,ZcY.1.mono (by decide),ZcY.2⟩
  ·exact⟨_,_,_,Zck,ZcG,ZdA.1.mono (by decide),ZdA.2⟩) (hr.mono (by decide)) aK (aN Za Zad (dv 0)) (aA (dv 1) (aA (dv 0) aD)))) (aC (bM Za Zad (dv 0) (bQ eE (dv 2) aG (fun _ _=>rfl))) (aF (aM (bQ eE (dv 2) aG (fun _ _=>rfl)))))),?_⟩
 obtain⟨dp,ch,wl,ul,ct,ws,us,b⟩:=id bd
 obtain⟨C,dd,fs,hS,⟨l1,l2,l3⟩,hd⟩:=st.disp
 refine⟨dp,_,.ref nw,b.e,rfl,C,dd,_,_,hS,l2,hd (cN CA),nw,p,nw,S,ob,os,bt,rfl,rfl,bd,st,dj,wf,hb,hu,fun t H' hs=>?_⟩
 obtain⟨nw',ob',os',et,b',s',dj',mv⟩:=hs
 obtain⟨dp',ch',wl',ul',ct',ws',us',bb⟩:=id b'
 refine⟨_,_,SqT.of et,rfl,dp',_,bb.e,(show 6<1000 by decide),?_⟩
 obtain⟨hp1,hp2⟩:=a3Z (A:=CA) wf hb b' s' dj' bb
 have et':upd H' p (.ins CA.post dp' (pF ch' (aY S bt).2.vt wl' ul' ct' nw')) t=some (.tup [.str (aY S bt).1,.ref nw']):=by rw[aH (fun z=>by rw[z,bb.e]at et;cases et)];exact et
 exact⟨_,_,SqT.of et',rfl,q _ (Or2 ob' os') hp1 ⟨fun x v ex z=>hp2 x v (mv.1 x v ex (z.imp_left fun y w=>y (inc x w))) (z.imp_left fun y w=>y (by have w':x=p:=w;rw[w'];exact inc p (.inl bd.op))),fun x hx=>(mv.2 x hx).imp_left (inc x)⟩⟩
variable (ZA:MB P w K mg base (CX0) 1 ZdG Zhg ["self","post"] (a5V Zn CA ZbV))
include ZZ ZaI ZS Zb ZG in
theorem Zku (F0:Fun K "post_at" "Rail.post_at" Zhu ZdG Zhg):type_of% ZA:=by
 refine mbM ["self","post"] F0 fun Sc0=>F0.ok Sc0 (fun vs H Q E h=>?_) fun cdv A outer s H vs Q E hr h=>?_
 ·obtain⟨r,R,o,w,k,rfl,_⟩:=h
  rfl
 obtain⟨r,R,o,w,k,rfl,hR,q1,q2⟩:=h
 have nd:=Sc0.nd
 refine⟨_,(aC (bJ (fL (kY pW xV aG (dv 1) (bK fC rfl ZS cY (aA (aN Zb ZG (dv 0)) aD)))) (aF dM) aV) (aF (aM (bQ fD (aN Zb ZG (dv 0)) (dv 1) (fun _ _=>rfl))))),?_⟩
 conv=>whnf
 refine bL (fun c=>?_) (fun c=>?_)
 ·have c1:0<=k:=dec_true c
  refine⟨w.dx,_,.ref w.PL,hR.er,rfl,_,.inl (SqL.of hR.ePL),?_⟩
  rw[Ya,hR.pl]
  conv=>whnf
  refine bL (fun d=>?_) (fun d=>?_)
  ·have d1:¬ k<((R.ps.length:Nat):Int):=fun z=>by
    have d2:(!decide (k<((R.ps.length:Nat):Int)))=true:=d
    rw[Ye z]at d2
    cases d2
   exact(q2 (fun z=>d1 z.2) _ (Same.refl _))
  ·have d1:k<((R.ps.length:Nat):Int):=YD fun z=>d (by
    show (!decide (k<((R.ps.length:Nat):Int)))=true
    rw[Yi z];rfl)
   obtain⟨i,rfl⟩:=YX c1
   have hl:i<w.ps.length:=by rw[hR.pl];omega
   have hp:w.ps[i]? =some w.ps[i]:=Yb hl
   exact⟨w.dx,_,.ref w.PL,hR.er,rfl,_,_,SqL.of hR.ePL,fB (j:=i) (by rw[Yl,hp];rfl),q1 i _ rfl hp⟩
 ·have c1:¬ 0<=k:=dec_false c
  exact(q2 (fun z=>c1 z.1) _ (Same.refl _))
variable (Zdl:MB P w K mg base (CX0) 9 Zfe ZjB ["self","choices","votes"] (a5X Zn CA ZbV))
include ZbU ZZ ZaI ZcK Zkq ZS Zb ZeJ ZG Zaq Zam ZaD Zau ZP Zdi in
theorem ZlW (F0:Fun K "__init__" "Rail.__init__" ZjU Zfe ZjB):type_of% Zdl:=by
 refine mbM ["self","choices","votes"] F0 fun Sc0=>F0.ok Sc0 (fun vs H Q E h=>?_) fun cdv A outer s H vs Q E hr h=>?_
 ·obtain⟨a,dx,cl,v,ms,rfl,_⟩:=h
  rfl
 obtain⟨a,dx,cl,v,ms,rfl,ea,hC,hl,q1,q2⟩:=h
 have nd:=Sc0.nd
 refine⟨_,(aC (bJ (fL (kY pW pW aG (bK fC rfl ZS cY (aA (dv 1) aD)) (bA (v:= .int 5) rfl ZcK ⟨_,rfl⟩))) (aF dM) aV) (aC (bM Zb ZG (dv 0) (dN rfl (ix:=[2]) (cM (dv 1)) (fun C fp s0 H0 at0=>cZ) (fun C fp s0 H0 at0=>(bV ZeJ Zdi.1 (hr.mono (by decide)) rfl Zkq Zdi.2 .nil aK (aA (dv 0) (aA (dv 1) aD)))) rfl rfl (by rfl) (show ([".0","choice","votes"]:List Str).Nodup by decide +kernel))) (aC (bM Zb Zaq (dv 0) a7G) (aC (bM Zb Zam (dv 0) (cW aD)) (aC (bM Zb ZaD (dv 0) (dN rfl (ix:=[]) (cM (dv 1)) (fun C fp s0 H0 at0=>cZ) (fun C fp s0 H0 at0=>(cW aD)) rfl rfl (by rfl) (show ([".0","choice"]:List Str).Nodup by decide +kernel))) (aC (bM Zb Zau (dv 0) (dN rfl (ix:=[]) (cM (dv 1)) (fun C fp s0 H0 at0=>cZ) (fun C fp s0 H0 at0=>(cW aD)) rfl rfl (by rfl) (show ([".0","choice"]:List Str).Nodup by decide +kernel))) (aF (bM Zb ZP (dv 0) (cW aD))))))))),?_⟩
 obtain⟨ts,ecl,tl,tt⟩:=hC
 have hcla:cl≠a:=fun z=>by rw[z,ea]at ecl;cases ecl
 have hta:∀(i:Nat)(t:Addr)(m:Int×Int),ts[i]? =some t->ms[i]? =some m->t≠a:=fun i t m h1 h2 z=>by have:=tt i t m h1 h2;rw[z,ea]at this;cases this
 refine⟨_,.inl (SqL.of ecl),?_⟩
 rw[Ya,tl]
 conv=>whnf
 refine bL (fun c=>?_) (fun c=>?_)
 rotate_left
 ·have c1:¬ (1:Int)<=((ms.length:Nat):Int):=dec_false c
  exact(q2 (fun z=>c1 (by have:=z.1.1;omega)) _ fun x u _ h=>h)
 have c1:(1:Int)<=((ms.length:Nat):Int):=dec_true c
 conv=>whnf
 refine bL (fun d=>?_) (fun d=>?_)
 ·have d1:¬ ((ms.length:Nat):Int)<=5:=fun z=>by
   have d2:(!decide (((ms.length:Nat):Int)<=5))=true:=d
   rw[Ye z]at d2
   cases d2
  exact(q2 (fun z=>d1 (by have:=z.1.2;omega)) _ fun x u _ h=>h)
 have d1:((ms.length:Nat):Int)<=5:=YD fun z=>d (by
  show (!decide (((ms.length:Nat):Int)<=5))=true
  rw[Yi z];rfl)
 have l5:ms.length<=5:=by omega
 refine⟨⟨_,SqL.of ecl⟩,cR (xs:=ts.map V.ref) (fun i ys H'=>∃(ps:List Addr)(op:Own),ys=ps.map V.ref/\ps.length=i/\Mk0 CA H a H' [(a,.ins Zn dx [])] ps ((ms.take i).map fun m=>S0 m.1.toNat m.2.toNat v.toNat) op/\∀m∈ms.take i,a4N m.1 m.2 v) ?_ ?_ ?_ ?_ ?_⟩
 ·rintro i ys H' hi ⟨ps,op,rfl,hp,_⟩
  rw[Ya]at hi ⊢
  exact bR (by omega)
 ·exact⟨[],_,rfl,rfl,Mk0.base ea,fun m hm=>by simp at hm⟩
 ·rintro i ys H' hi ⟨ps,op,rfl,hp,mk,_⟩
  exact SqL.of (mk.kp _ _ hcla ecl)
 ·rintro i x ys H' hx ⟨ps,op,rfl,hp_,mk,hok⟩
  rw[Yl]at hx
  obtain⟨t,ht,rfl⟩:=YH.mp hx
  have hil:i<ms.length:=by rw[<-tl];exact(Yf.mp ht).1
  have hm:ms[i]? =some ms[i]:=Yb hil
  have et:=mk.kp _ _ (hta i t _ ht hm) (tt i t _ ht hm)
  have tk:ms.take (i+1)=ms.take i++[ms[i]]:=Yg hil
  conv=>whnf
  refine fun p dp hp hdp hne=>⟨p,dp,t,_,_,v,rfl,aB,(by rw[aH (aP et hp),aH (aP et hdp)];exact et),fun ok H5 o hP hin hk=>⟨rfl,ps++[p],Or2 op o,by rw[Ym];rfl,by rw[Yc,hp_];rfl,?_,?_⟩,fun no H5 hk=>?_⟩
  ·rw[tk,Ym]
   exact mk.post hp hdp hP hin hk
  ·rw [tk]
   intro m hm'
   rcases YI.mp hm' with z | z
   ·exact hok m z
   ·rw[Yn]at z
    rw[z];exact ok
  ·refine q2 (fun z=>no (z.2 _ (YR hil))) H5 fun x u hx h=>?_
   have h':=mk.kp x u hx h
   exact hk x u (aP h' hp) (by rw[aH (aP h' hp),aH (aP h' hdp)];exact h')
 rintro ys H1 ⟨ps,op,rfl,hp_,mk,hok⟩ PL hPL
 rw[Ya,tl,Yk (Yd _)]at mk hok
 have mk1:=Mk0.ins (L1:=[(a,.ins Zn dx [])]) (L2:=[]) (v:= .lst (ps.map V.ref)) (by simpa using mk) hPL
 refine⟨dx,_,mk1.cs.at_ 0 _ rfl,by decide,?_⟩
 have nI:∀{C d:Addr}{fs:List (Str×V)},¬ isT (.ins C d fs):=fun ⟨_,z⟩=>by cases z
 have mk2:=mk1.put (v':= .ins Zn dx (dZ "posts" (.ref PL) [])) nI
 generalize upd (upd H1 PL _) a _=H2 at mk2
 intro OW hOW
 have mk3:=Mk0.ins (L1:=(a,.ins Zn dx [("posts",.ref PL)])::(PL,.lst (ps.map V.ref))::[]) (L2:=[]) (v:= .dK []) mk2 hOW
 refine⟨dx,_,mk3.cs.at_ 0 _ rfl,(show 1<1000 by decide),?_⟩
 have mk4:=mk3.put (v':= .ins Zn dx (dZ "owners" (.ref OW) [("posts",.ref PL)])) nI
 generalize upd (upd H2 OW _) a _=H3 at mk4
 refine⟨aL rfl,fun BO hBO=>?_⟩
 have mk5:=Mk0.ins (L1:=(a,.ins Zn dx [("posts",.ref PL),("owners",.ref OW)])::(PL,.lst (ps.map V.ref))::(OW,.dK [])::[]) (L2:=[]) (v:= .lst []) mk4 hBO
 refine⟨dx,_,mk5.cs.at_ 0 _ rfl,(show 2<1000 by decide),?_⟩
 have mk6:=mk5.put (v':= .ins Zn dx (dZ "borne" (.ref BO) [("posts",.ref PL),("owners",.ref OW)])) nI
 generalize upd (upd H3 BO _) a _=H4 at mk6
 obtain⟨o3,ho3⟩:∃o3:HO,o3= .ins Zn dx [("posts",.ref PL),("owners",.ref OW),("borne",.ref BO)]:=⟨_,rfl⟩
 have mk6':Mk0 CA H a H4 ((a,o3)::(PL,.lst (ps.map V.ref))::(OW,.dK [])::(BO,.lst [])::[]) ps (ms.map fun m=>S0 m.1.toNat m.2.toNat v.toNat) op:=by rw[ho3];exact mk6
 clear mk mk1 mk2 mk3 mk4 mk5 mk6
 refine⟨⟨_,SqL.of (mk6'.kp _ _ hcla ecl)⟩,cR (xs:=ts.map V.ref) (fun i ys H'=>∃sas:List Addr,ys=sas.map V.ref/\sas.length=i/\Mk0 CA H a H' ((a,o3)::(PL,.lst (ps.map V.ref))::(OW,.dK [])::(BO,.lst [])::lsC sas (List.replicate i [])) ps (ms.map fun m=>S0 m.1.toNat m.2.toNat v.toNat) op) ?_ ?_ ?_ ?_ ?_⟩
 ·rintro i ys H' hi ⟨sas,rfl,hp,_⟩
  rw[Ya]at hi ⊢
  exact bR (by omega)
 ·exact⟨[],rfl,rfl,mk6'⟩
 ·rintro i ys H' hi ⟨sas,rfl,hp,mk⟩
  exact SqL.of (mk.kp _ _ hcla ecl)
 ·rintro i x ys H' hx ⟨sas,rfl,hp,mk⟩
  conv=>whnf
  refine⟨aL rfl,fun s1 hs1=>⟨sas++[s1],by rw[Ym];rfl,by rw[Yc,hp];rfl,?_⟩⟩
  rw[wN i hp]
  exact Mk0.ins (L1:=(a,o3)::(PL,.lst (ps.map V.ref))::(OW,.dK [])::(BO,.lst [])::lsC sas (List.replicate i [])) (L2:=[]) (by rw[YS];exact mk) hs1
 rintro ys H5 ⟨sas,rfl,hsl,mk7⟩ SA hSA
 rw[Ya,tl]at hsl mk7
 have mk8:=Mk0.ins (L1:=(a,o3)::(PL,.lst (ps.map V.ref))::(OW,.dK [])::(BO,.lst [])::[]) (L2:=lsC sas (List.replicate ms.length [])) (v:= .lst (sas.map V.ref)) mk7 hSA
 subst ho3
 refine⟨dx,_,mk8.cs.at_ 0 _ rfl,(show 3<1000 by decide),?_⟩
 have mk9:=mk8.put (v':= .ins Zn dx (dZ "sayings" (.ref SA) [("posts",.ref PL),("owners",.ref OW),("borne",.ref BO)])) nI
 generalize upd (upd H5 SA _) a _=H6 at mk9
 obtain⟨o4,ho4⟩:∃o4:HO,o4= .ins Zn dx [("posts",.ref PL),("owners",.ref OW),("borne",.ref BO),("sayings",.ref SA)]:=⟨_,rfl⟩
 have mk9':Mk0 CA H a H6 ((a,o4)::(PL,.lst (ps.map V.ref))::(OW,.dK [])::(BO,.lst [])::(SA,.lst (sas.map V.ref))::lsC sas (List.replicate ms.length [])) ps (ms.map fun m=>S0 m.1.toNat m.2.toNat v.toNat) op:=by rw[ho4];exact mk9
 clear mk6' mk7 mk8 mk9
 refine⟨⟨_,SqL.of (mk9'.kp _ _ hcla ecl)⟩,cR (xs:=ts.map V.ref) (fun i ys H'=>∃hes:List Addr,ys=hes.map V.ref/\hes.length=i/\Mk0 CA H a H' ((a,o4)::(PL,.lst (ps.map V.ref))::(OW,.dK [])::(BO,.lst [])::(SA,.lst (sas.map V.ref))::(lsC sas (List.replicate ms.length [])++lsC hes (List.replicate i []))) ps (ms.map fun m=>S0 m.1.toNat m.2.toNat v.toNat) op) ?_ ?_ ?_ ?_ ?_⟩
 ·rintro i ys H' hi ⟨hes,rfl,hp,_⟩
  rw[Ya]at hi ⊢
  exact bR (by omega)
 ·exact⟨[],rfl,rfl,by rw[show lsC [] (List.replicate 0 [])= [] from rfl,YS];exact mk9'⟩
 ·rintro i ys H' hi ⟨hes,rfl,hp,mk⟩
  exact SqL.of (mk.kp _ _ hcla ecl)
 ·rintro i x ys H' hx ⟨hes,rfl,hp,mk⟩
  conv=>whnf
  refine⟨aL rfl,fun s1 hs1=>⟨hes++[s1],by rw[Ym];rfl,by rw[Yc,hp];rfl,?_⟩⟩
  rw[wN i hp,<-YJ]
  exact Mk0.ins (L1:=(a,o4)::(PL,.lst (ps.map V.ref))::(OW,.dK [])::(BO,.lst [])::(SA,.lst (sas.map V.ref))::(lsC sas (List.replicate ms.length [])++lsC hes (List.replicate i []))) (L2:=[]) (by rw[YS];exact mk) hs1
 rintro ys H7 ⟨hes,rfl,hhl,mk10⟩ HE hHE
 rw[Ya,tl]at hhl mk10
 have mk11:=Mk0.ins (L1:=(a,o4)::(PL,.lst (ps.map V.ref))::(OW,.dK [])::(BO,.lst [])::(SA,.lst (sas.map V.ref))::[]) (L2:=lsC sas (List.replicate ms.length [])++lsC hes (List.replicate ms.length [])) (v:= .lst (hes.map V.ref)) mk10 hHE
 subst ho4
 refine⟨dx,_,mk11.cs.at_ 0 _ rfl,(show 4<1000 by decide),?_⟩
 have mk12:=mk11.put (v':= .ins Zn dx (dZ "hearings" (.ref HE) [("posts",.ref PL),("owners",.ref OW),("borne",.ref BO),("sayings",.ref SA)])) nI
 generalize upd (upd H7 HE _) a _=H8 at mk12
 refine⟨aL rfl,fun EV hEV=>?_⟩
 have mk13:=Mk0.ins (L1:=(a,.ins Zn dx [("posts",.ref PL),("owners",.ref OW),("borne",.ref BO),("sayings",.ref SA),("hearings",.ref HE)])::(PL,.lst (ps.map V.ref))::(OW,.dK [])::(BO,.lst [])::(SA,.lst (sas.map V.ref))::(HE,.lst (hes.map V.ref))::[]) (L2:=lsC sas (List.replicate ms.length [])++lsC hes (List.replicate ms.length [])) (v:= .lst []) mk12 hEV
 refine⟨dx,_,mk13.cs.at_ 0 _ rfl,(show 5<1000 by decide),?_⟩
 have mk14:=mk13.put (v':= .ins Zn dx (dZ "happened" (.ref EV) [("posts",.ref PL),("owners",.ref OW),("borne",.ref BO),("sayings",.ref SA),("hearings",.ref HE)])) nI
 generalize upd (upd H8 EV _) a _=H9 at mk14
 have mk15:Mk0 CA H a H9 (jY Zn a ⟨dx,PL,OW,BO,SA,HE,EV,ps,sas,hes, [],op⟩ (R0 ms v)) ps (R0 ms v).ps op:=mk14
 obtain⟨o,hR,hn⟩:=mk15.fin hsl hhl l5
 exact q1 ⟨⟨by omega,l5⟩,hok⟩ H9 o hR hn mk15.kp
variable (Zdk:MB P w K mg base (CX0) 9 Zfd ZjA ["self","post","name","data"] (a5Y K Zn CA ZbV Zdx ZlL))
include Zv ZZ ZaI Zgq Za Zb Zs Zcn Zaq Zx Zdg ZA in
theorem ZlV (F0:Fun K "hand" "Rail.hand" ZjT Zfd ZjA):type_of% Zdk:=by
 refine mbM ["self","post","name","data","taker"] F0 fun Sc0=>F0.ok Sc0 (fun vs H Q E h=>?_) fun cdv A outer s H vs Q E hr h=>?_
 ·obtain⟨r,R,o,w,k,n,a,ds,rfl,_⟩:=h
  rfl
 obtain⟨r,R,o,w,k,n,a,ds,rfl,hR,hS,hl,how,hwt,q1,q2,q3⟩:=h
 have nd:=Sc0.nd
 refine⟨_,(aC (aX (i:=4) nd rfl (Or.inl rfl) (cB Zb Zs ZA.1 (hr.mono (by decide)) ZA.2 .nil aK (dv 0) (aA (dv 1) aD))) (aC (bB (aQ Zx.1 (hr.mono (by decide)) rfl Zx.2.2.2 Zx.2.2.1 Zx.2.1 .nil aK (aA (dv 2) (aA (dv 3) aD)))) (aC (bJ (aW rH (a7H (b4E hr) (aN Zb Zaq (dv 0)) (dv 2) (dv 1) ⟨rfl,rfl,rfl,rfl⟩) (dv 1) (aR _)) (aF dM) aV) (aC (b1I (b4E hr) (aN Zb Zaq (dv 0)) (dv 2) (dv 1) rfl) (aF (bB (cB Za Zcn Zdg.1 (hr.mono (by decide)) Zdg.2 .nil aK (dv 4) (aA (dv 2) (aA (dv 3) aD))))))))),?_⟩
 refine⟨⟨w.dx,_,hR.er,rfl⟩,r,R,o,w,k,rfl,hR,fun i p e hp=>?_,fun no H1 g1=>q1 no H1 g1⟩
 subst e
 obtain⟨S,oi,eS,hP,le,back⟩:=hR.step hp
 have hil:i<R.ps.length:=(Yf.mp eS).1
 refine⟨n,a,ds,rfl,hS,hl,fun ok H1 g1=>?_,fun no H1 g1=>q2 ⟨by omega,by omega⟩ no H1 g1⟩
 obtain⟨j,ej,q4,q5⟩:=q3 i S rfl eS ok
 have hR1:=hR.same g1
 refine⟨w.dx,_,.ref w.OW,hR1.er,rfl,w.OW,rfl,.inl ⟨_,.inl hR1.eOW⟩,_,.inl ⟨_,.inl n,.inl hR1.eOW,rfl,rfl⟩,?_⟩
 rw[ej]
 conv=>whnf
 refine bL (fun c=>?_) (fun c=>?_)
 ·have c1:¬ j=((i:Nat):Int):=fun z=>by
   have c2:(!decide (j=((i:Nat):Int)))=true:=c
   rw[Ye z]at c2
   cases c2
  exact(q4 c1 _ g1)
 have c1:j=((i:Nat):Int):=YD fun z=>c (by
  show (!decide (j=((i:Nat):Int)))=true
  rw[Yi z];rfl)
 refine⟨w.dx,_,.ref w.OW,hR1.er,rfl,w.OW,_,rfl,.inl ⟨_,.inl n,hR1.eOW,rfl,bR (by omega),rfl⟩,?_⟩
 obtain⟨hR2,m2⟩:=hR1.put (k:=2) (R':={ R with ow:=putK R.ow (.inl n) (.int ((i:Nat):Int)) }) (w':=w) rfl c0E rfl rfl rfl rfl rfl rfl rfl rfl hR1.ev
 have hS2:=b0I (v:= .dK (putK R.ow (.inl n) (.int ((i:Nat):Int)))) (g1.seq hS) hR1.eOW
 generalize upd H1 w.OW _=H2 at hR2 m2 hS2
 obtain⟨S2,oi2,eS2,hP2,le2,back2⟩:=hR2.step hp
 have ee:S2=S:=Yo (eS2.symm.trans eS)
 subst ee
 obtain⟨dq,ch,vt',wl_,ul,cc,nw,ep⟩:=hP2.cell
 obtain⟨nw5,ob5,bd5,fin5⟩:=hP2.hand
 refine⟨⟨dq,_,ep,rfl⟩,p,nw5,S2,ob5,n,a,ds,rfl,bd5,hS2,hl,hwt _ (Yx eS),fun _ H3 d hd b k=>?_,fun no=>absurd ok no⟩
 obtain⟨o3,hP3,mv3⟩:=fin5 ok H3 d hd b k
 obtain⟨o',op',hR3,m3⟩:=back2 H3 o3 _ mv3 hP3
 exact q5 c1 H3 o' ⟨_,hR3⟩ ((Mv.of g1).trans (m2.trans m3))
variable (Zan:MB P w K mg base (CX0) 12 Zc9 Zgn ["self","hearing"] (a5W K Zn CA (b3Q ZbD)))
include ZaL ZL Zv ZaI ZR ZS Zfk ZcN Za Zb Zcp Zco ZG Zam ZaD Zau ZP Zbe Zdj Zdh in
theorem Zjq (F0:Fun K "make_turn" "Rail.make_turn" Zgt Zc9 Zgn):type_of% Zan:=by
 refine mbM ["self","hearing","said","bit","heard","post","own","word"] F0 fun Sc0=>F0.ok Sc0 (fun vs H Q E h=>?_) fun cdv A outer s H vs Q E hr h=>?_
 ·obtain⟨r,R,o,w,f,hs,rfl,_⟩:=h
  rfl
 obtain⟨r,R,o,w,f,hs,rfl,hR,ne,sz,q⟩:=h
 have nd:=Sc0.nd
 refine⟨_,(aC (jN (j:=2) nd rfl rfl rfl (ix:=[]) (cM (aN Zb ZG (dv 0))) (fun C fp s0 H0 at0=>cZ) (fun C fp s0 H0 at0=>(bW Za Zcp Zdj.1 (hr.mono (by decide)) Zdj.2 .nil aK (dv 0))) rfl rfl (by rfl) (show ([".0","post"]:List Str).Nodup by decide +kernel)) (aC (aX (i:=3) nd rfl (Or.inr rfl) (bK (xU rfl) rfl Zfk zO (aA (dv 2) aD))) (aC (jN (j:=4) nd rfl rfl rfl (ix:=[1,0,3]) (dO rfl ZR (aA (bK fC rfl ZS cY (aA (aN Zb ZG (dv 0)) aD)) aD)) (fun C fp s0 H0 at0=>cZ) (fun C fp s0 H0 at0=>(a7J (K:=K) (b1A Zbe.1 Zbe.2.1) (hr.mono (by decide)) (pv 1) (aA (dv 0) (aA (bK (b4R (K:=K)) rfl ZS cY (aA (aN Zb Zam (dv 2)) aD)) (aA (dv 3) aD))))) rfl rfl (by rfl) (show ([".0","post","hearing","self","bit"]:List Str).Nodup by decide +kernel)) (aC (eV YV rfl (a1C rfl ZcN (aA (aN Zb ZG (dv 0)) aD)) (mg2 (yQ rfl (jE (cQ (i:=5) nd rfl (Or.inl rfl)) (jE (cQ (i:=6) nd rfl (Or.inl rfl)) uC)))) (aC (bB (cU (bQ fD (aN Zb ZaD (dv 0)) (dv 5) (fun _ _=>rfl)) (aA (bQ fD (dv 2) (dv 5) (fun _ _=>rfl)) aD))) (aC (bB (cU (bQ fD (aN Zb Zau (dv 0)) (dv 5) (fun _ _=>rfl)) (aA (bQ fD (dv 4) (dv 5) (fun _ _=>rfl)) aD))) (aC (aX (i:=7) nd rfl (Or.inl rfl) (cB Za Zco Zdh.1 (hr.mono (by decide)) Zdh.2 .nil aK (dv 6) (aA (bQ fD (dv 4) (dv 5) (fun _ _=>rfl)) aD))) (aF (bJ (aW rH (dv 7) bD (aR _)) (aF (bB (cU (aN Zb ZP (dv 0)) (aA (bU (aA (bK fC rfl ZS cY (aA (aN Zb Zam (dv 0)) aD)) (aA (dv 5) (aA (dv 7) aD)))) aD)))) aV)))))) (aC (bB (cU (aN Zb Zam (dv 0)) (aA (dv 3) aD))) (aF (aM (dv 3)))))))),?_⟩
 refine⟨w.dx,_,.ref w.PL,hR.er,rfl,⟨_,SqL.of hR.ePL⟩,cR (xs:=w.ps.map V.ref) (fun i ys H'=>Same H H'/\ys=((R.ps.take i).map bC).map V.int) ?_ ?_ ?_ ?_ ?_⟩
 ·rintro i ys H' hi ⟨g,rfl⟩
  rw[Ya,Ya,Yr]
  have:=hR.lp
  exact bR (by omega)
 ·exact⟨Same.refl _,rfl⟩
 ·rintro i ys H' hi ⟨g,rfl⟩
  exact SqL.of (g _ _ hR.ePL)
 ·rintro i x ys H' hx ⟨g,rfl⟩
  rw[Yl]at hx
  obtain⟨p,hp,rfl⟩:=YH.mp hx
  obtain⟨S,oi,eS,hP,_⟩:=(hR.same g).step hp
  obtain⟨dq,ch,vt',wl_,ul,cc,nw,ep⟩:=hP.cell
  obtain⟨hil,eS'⟩:=Yf.mp eS
  have tk:R.ps.take (i+1)=R.ps.take i++[S]:=by rw[Yg hil,eS']
  conv=>whnf
  refine⟨⟨dq,_,ep,rfl⟩,p,S,oi,rfl,hP,g,?_⟩
  rw[tk,Ym,Ym]
  rfl
 rintro ys H1 ⟨g1,rfl⟩ sd hsd
 rw[Ya,hR.pl,Yk (Yd _)]
 generalize eU:upd H1 sd _=H2
 have g2:=nS hsd eU
 have esd:=nE eU
 clear eU
 refine⟨_,SqL.of esd,fun z=>ne (by simpa using z),fun b bm bl=>?_⟩
 obtain⟨hh,h01,q⟩:=q b ⟨bm,bl⟩
 have hR2:=hR.same (g1.trans g2)
 have lp:=hR.lp
 refine⟨w.dx,_,.ref w.PL,hR2.er,rfl,_,.inl (SqL.of hR2.ePL),?_⟩
 rw[Ya,hR2.pl]
 refine⟨⟨by omega,by omega⟩,?_⟩
 rw[YB]
 refine gB (lo:=0) (n:=R.ps.length) (fun i ys H'=>Same H2 H'/\ys=((List.range i).map (hs b)).map V.int) ?_ ?_ ?_ ?_
 ·rintro i ys H' hi ⟨g,rfl⟩
  rw[Ya,Ya,YN]
  exact bR (by omega)
 ·exact⟨Same.refl _,rfl⟩
 ·rintro i ys H' hi ⟨g,rfl⟩
  have hR3:=hR2.same g
  obtain⟨f1,f2⟩:=hh i hi H' ((g1.trans g2).trans g)
  conv=>whnf
  rw[XM]
  refine⟨f,rfl,f1,w.dx,_,.ref w.BO,hR3.er,rfl,_,.inl (SqL.of hR3.eBO),f1,?_⟩
  rw[Ya]
  refine f2 _ fun H4 g4=>⟨g.trans g4,?_⟩
  rw[Xr,Ym,Ym]
  rfl
 rintro ys H3 ⟨g3,rfl⟩ hd hhd
 have esd3:=g3 _ _ esd
 have hR3:=(hR2.same g3).same (aJ hhd (.lst (((List.range R.ps.length).map (hs b)).map V.int)))
 have esd4:=aJ hhd (.lst (((List.range R.ps.length).map (hs b)).map V.int)) _ _ esd3
 have ehd:=aB (H:=H3) (a:=hd) (o:= .lst (((List.range R.ps.length).map (hs b)).map V.int))
 have gs:Same H (upd H3 hd (.lst (((List.range R.ps.length).map (hs b)).map V.int))):=((g1.trans g2).trans g3).trans (aJ hhd _)
 have nsd:¬ o sd:=fun z=>by
  have:=hR.al sd z
  cases e:H sd with
  |none=>exact this e
  |some u=>rw[g1 _ _ e]at hsd;cases hsd
 have nhd:¬ o hd:=fun z=>by
  have:=hR.al hd z
  cases e:H hd with
  |none=>exact this e
  |some u=>rw[g3 _ _ ((g1.trans g2) _ _ e)]at hhd;cases hhd
 generalize upd H3 hd _=H4 at hR3 esd4 ehd gs
 obtain⟨HS,eHS⟩:∃HS,HS=(List.range R.ps.length).map (hs b):=⟨_,rfl⟩
 rw[<-eHS]at ehd q
 have hsi:∀i,i<R.ps.length->HS[i]? =some (hs b i):=fun i hi=>by rw[eHS,Yl,Xh hi];rfl
 refine⟨w.dx,_,.ref w.PL,hR3.er,rfl,⟨_,SqL.of hR3.ePL⟩,wX (xs:=w.ps.map V.ref) (a:=w.PL) (fun i σ H'=>∃(o' op:Own)(evs:List V)(x5 x6 x7:Option V),σ= [some (.ref r),some (.ref f),some (.ref sd),some (.int b),some (.ref hd),x5,x6,x7]/\cF Zn CA H' r (bG R HS i) o' { w with op:=op,evs:=evs }/\Mv o H4 o' H') ⟨o,w.op,w.evs,_,_,_,rfl,hR3,Mv.refl⟩ ?_ ?_ ?_⟩
 ·rintro i σ H' hi ⟨o',op,evs,x5,x6,x7,rfl,hRi,m⟩
  exact SqL.of hRi.ePL
 ·rintro i x σ H' pr hx ⟨o',op,evs,x5,x6,x7,rfl,hRi,m⟩ hpr
  rw[Yl]at hx
  obtain⟨p,hp,rfl⟩:=YH.mp hx
  have hil:i<R.ps.length:=by rw[<-hR.pl];exact(Yf.mp hp).1
  obtain⟨h1,h2,h3,h4,h5,h6,h7⟩:=gK R HS i
  obtain⟨h6a,h6b,h6c⟩:=h6 i (Yd _)
  have hsl:=hR.l2
  have hhl:=hR.l4
  have eS:R.ps[i]? =some R.ps[i]:=Yb hil
  have eX:R.sa[i]? =some (R.sa[i]'(by omega)):=Yb (by omega)
  have eY:R.he[i]? =some (R.he[i]'(by omega)):=Yb (by omega)
  have zX:=sz.sa _ (YR (show i<R.sa.length by omega))
  have zY:=sz.he _ (YR (show i<R.he.length by omega))
  have zU:=sz.up _ (YR hil)
  have zE:=sz.ev
  have zB:=sz.bo
  have hsuc:=jV eS (hsi i hil) eX eY
  generalize R.ps[i]=S at eS hsuc zU
  generalize R.sa[i]'(by omega)=X at eX hsuc zX
  generalize R.he[i]'(by omega)=Y at eY hsuc zY
  have hRp:=hRi.same (aJ hpr (.tup [.int ((i:Nat):Int),.ref p]))
  have mp:=m.trans (Mv.of (aJ hpr (.tup [.int ((i:Nat):Int),.ref p])))
  refine⟨_,_,SqT.of aB,?_⟩
  generalize upd H' pr _=H5 at hRp mp
  obtain⟨a1,ha1,ka1⟩:=hRp.sa_at (h6b.trans eX)
  have ea1:=hRp.cs.at_ _ _ ka1
  have ks:∀{o1:Own}{H1:Hp},Mv o H4 o1 H1->¬ o1 sd/\¬ o1 hd/\H1 sd=some (.lst ((R.ps.map bC).map V.int))/\H1 hd=some (.lst (HS.map V.int)):=fun mm=>⟨fun z=>(mm.2 _ z).elim nsd fun y=>(by rw[esd4]at y;cases y),fun z=>(mm.2 _ z).elim nhd fun y=>(by rw[ehd]at y;cases y),mm.1 _ _ esd4 (.inl nsd),mm.1 _ _ ehd (.inl nhd)⟩
  have sdi:atI ((R.ps.map bC).map V.int) ((i:Nat):Int)=some (.int (bC S)):=fB (by rw[Yl,Yl,eS];rfl)
  have hdi:atI (HS.map V.int) ((i:Nat):Int)=some (.int (hs b i)):=fB (by rw[Yl,hsi i hil];rfl)
  refine⟨w.dx,_,.ref w.SA,hRp.er,rfl,_,.ref a1,SqL.of hRp.eSA,fB (by rw[Yl,ha1];rfl),⟨_,SqL.of ea1⟩,_,_,SqL.of (ks mp).2.2.1,sdi,_,ea1,bR (by rw[Ya];omega),?_⟩
  obtain⟨hR6,m6⟩:=hRp.say (b:=bC S) (h6b.trans eX) ha1
  have mq:=mp.trans m6
  generalize upd H5 a1 _=H6 at hR6 m6 mq
  obtain⟨b1,hb1,kb1⟩:=hR6.he_at (i:=i) (xs:=Y) (h6c.trans eY)
  have eb1:=hR6.cs.at_ _ _ kb1
  refine⟨w.dx,_,.ref w.HE,hR6.er,rfl,_,.ref b1,SqL.of hR6.eHE,fB (by rw[Yl,hb1];rfl),⟨_,SqL.of eb1⟩,_,_,SqL.of (ks mq).2.2.2,hdi,_,eb1,bR (by rw[Ya];omega),?_⟩
  obtain⟨hR7,m7⟩:=hR6.hrd (i:=i) (xs:=Y) (b:=hs b i) (h6c.trans eY) hb1
  have mr:=mq.trans m7
  generalize upd H6 b1 _=H7 at hR7 m7 mr
  obtain⟨S',oi,eS',hP,_,back⟩:=hR7.step hp
  have es:S'=S:=Yo (eS'.symm.trans (h6a.trans eS))
  subst es
  obtain⟨dq,ch,vt',wl_,ul,cc,nw,ep⟩:=hP.cell
  refine⟨⟨dq,_,ep,rfl⟩,_,_,SqL.of (ks mr).2.2.2,hdi,p,S',oi,_,rfl,hP,h01 i,zU,fun H8 oi' hP8 m8=>?_⟩
  obtain⟨o8,op8,hR8,m8'⟩:=back H8 oi' _ m8 hP8
  have ms:=mr.trans m8'
  have eR:bG R HS (i+1)={ ({ bG R HS i with ps:=(bG R HS i).ps.set i (aY S' (hs b i)).2,sa:=(bG R HS i).sa.set i (X++[bC S']),he:=(bG R HS i).he.set i (Y++[hs b i]) }:RS) with ev:=(bG R HS i).ev++evt R.bo.length i (aY S' (hs b i)).1 }:=hsuc
  obtain⟨wd,ewd⟩:∃wd,wd=(aY S' (hs b i)).1:=⟨_,rfl⟩
  rw[<-ewd]at eR ⊢
  conv=>whnf
  refine bL (fun c=>?_) (fun c=>?_)
  ·have c1:wd≠"":=fun z=>by
    have c2:(!decide (wd=""))=true:=c
    rw[Ye z]at c2
    cases c2
   refine⟨w.dx,_,.ref w.EV,hR8.er,rfl,⟨_,SqL.of hR8.eEV⟩,w.dx,_,.ref w.BO,hR8.er,rfl,_,.inl (SqL.of hR8.eBO),?_⟩
   refine⟨aL rfl,fun t ht=>?_⟩
   have hR9:=hR8.same (aJ ht (.tup [.int ((((bG R HS i).bo.map V.int).length:Nat):Int),.int ((i:Nat):Int),.str wd]))
   have mt:=ms.trans (Mv.of (aJ ht (.tup [.int ((((bG R HS i).bo.map V.int).length:Nat):Int),.int ((i:Nat):Int),.str wd])))
   have et:=aB (H:=H8) (a:=t) (o:= .tup [.int ((((bG R HS i).bo.map V.int).length:Nat):Int),.int ((i:Nat):Int),.str wd])
   refine⟨_,hR9.eEV,bR (by have:=hR9.ev.len;have h7':evs.length=(bG R HS i).ev.length:=this;show evs.length<=1000;omega),?_⟩
   rw[Ya,h1]at et
   obtain⟨hR10,m10⟩:=hR9.happen (e:=(R.bo.length,i,wd)) (by rw[Ya,h1];exact et)
   refine⟨o8,op8,evs++[.ref t],_,_,_,rfl,?_,mt.trans m10⟩
   rw[eR,show evt R.bo.length i wd= [(R.bo.length,i,wd)] from if_neg c1]
   exact hR10
  ·have c1:wd="":=YD fun z=>c (by
    show (!decide (wd=""))=true
    rw[Yi z];rfl)
   refine⟨o8,op8,evs,_,_,_,rfl,?_,ms⟩
   rw[eR,show evt R.bo.length i wd= [] from if_pos c1,YS]
   exact hR8
 rintro σ H5 ⟨o5,op,evs,x5,x6,x7,rfl,hR5,m5⟩
 rw[Ya,hR.pl]at hR5
 have zB:=sz.bo
 obtain⟨h1,_⟩:=gK R HS R.ps.length
 refine⟨w.dx,_,.ref w.BO,hR5.er,rfl,⟨_,SqL.of hR5.eBO⟩,_,hR5.eBO,bR (by rw[Ya,h1];omega),?_⟩
 obtain⟨hR6,m6⟩:=hR5.bear (b:=b)
 refine q _ o5 ⟨{ w with op:=op,evs:=evs },?_⟩ ((Mv.of gs).trans (m5.trans m6))
 have eT:iC R HS b={ bG R HS R.ps.length with bo:=(bG R HS R.ps.length).bo++[b] }:=by unfold iC;rw[h1]
 rw[eT]
 exact hR6
variable (Zdm:MB P w K mg base (CX0) 13 Zff Zhb ["self","wrong_posts"] (a5U Zn CA ZbV 1012))
include ZZ ZaI ZaM Zb Zs Zac ZfQ ZfR hc_Rail_turn ZA Zan in
theorem ZlX (F0:Fun K "turn" "Rail.turn" Zdo Zff Zhb):type_of% Zdm:=by
 refine mbM ["self","wrong_posts","wrong","post"] F0 fun Sc0=>F0.okL hc_Rail_turn Sc0 (fun vs H Q E h=>?_) fun A outer s H vs Q E hr h=>?_
 ·obtain⟨r,R,o,w,wl,ws,ox,rfl,_⟩:=h
  rfl
 obtain⟨r,R,o,w,wl,ws,ox,rfl,ewl,wsl,hR,ne,sz,hT,hox,q1,q2⟩:=h
 have nd:=Sc0.nd
 refine⟨_,(a0Q (aX (i:=2) nd rfl (Or.inr rfl) (bT (cH (aW b3A (dv 1) nW (aR _)) (cW aD) (fU iB rfl ZaM iR (aA (dv 1) aD))))) (a0Q (eV PassesOwn.leaving rfl (cM (dv 2)) (cQ (i:=3) nd rfl (Or.inl rfl)) (aF (bB (cB Zb Zs ZA.1 (hr.mono (by decide)) ZA.2 .nil aK (dv 0) (aA (dv 3) aD))))) (b6D (P:=1012) (bm:=4) (iq:=iqT) (y:="wrong") (iy:=2) (Q:=Q) (dv 0) Zb Zac Zan.1 (hr.mono (by decide)) Zan.2 rfl ZfR ZfQ (fun c hc=>clT hc) rfl rfl rfl rfl rfl))),?_⟩
 refine⟨fun v H'=>∃l,v= .ref l/\H l=none/\H'=upd H l (.lst (ws.map V.int)),?_,?_⟩
 ·conv=>whnf
  exact⟨_,.inl (SqL.of ewl),fun l hl=>⟨l,rfl,hl,rfl⟩⟩
 rintro v H1 ⟨l,rfl,hl,eH⟩
 have g1:Same H H1:=by rw[eH];exact aJ hl _
 have el:H1 l=some (.lst (ws.map V.int)):=by rw[eH];exact aB
 clear eH
 have hR1:=hR.same g1
 have hT1:=hT.same g1
 have nl:∀i:Nat,i<R.ps.length->∃p,w.ps[i]? =some p:=fun i hi=>⟨_,Yb (by rw[hR.pl];exact hi)⟩
 refine⟨⟨_,SqL.of el⟩,gM (xs:=ws.map V.int) (fun i σ H'=>(∃x,σ= [some (.ref r),some (.ref wl),some (.ref l),x])/\H'=H1/\∀x∈ws.take i,0<=x/\x<((R.ps.length:Nat):Int)) ⟨⟨_,rfl⟩,rfl,fun x hx=>by simp at hx⟩ ?_ ?_ ?_⟩
 ·rintro i σ H' hi ⟨_,rfl,_⟩
  exact SqL.of el
 ·rintro i v σ H' hv ⟨⟨x,rfl⟩,rfl,hall⟩
  rw[Yl]at hv
  obtain⟨k,hk,rfl⟩:=YH.mp hv
  obtain⟨hil,ek⟩:=Yf.mp hk
  refine⟨⟨w.dx,_,hR1.er,rfl⟩,r,R,o,w,k,rfl,hR1,fun i' p e hp=>⟨⟨_,rfl⟩,rfl,?_⟩,fun no H2 g2=>q2 (fun z=>no (z k (ek▸YR hil))) H2 (g1.trans g2)⟩
  have hi':i'<R.ps.length:=by rw[<-hR.pl];exact(Yf.mp hp).1
  rw[Yg hil]
  intro z hz
  rcases YI.mp hz with hz | hz
  ·exact hall z hz
  ·rw[Yn,ek,e]at hz
   rw[hz]
   exact⟨by omega,by omega⟩
 rintro σ H2 ⟨⟨x,rfl⟩,rfl,hall⟩
 rw[Ya,Yk (Yd _)]at hall
 refine⟨r,w.dx,_,.ref l,rfl,hR1.er,rfl,rfl,hT1.tabP,fun f c c' H3 hf hc hsm hC3 hor hc' hcell hlam=>?_⟩
 obtain⟨nP2,qs,t1,t2,t3⟩:=hT1
 have nP:¬ o 1012:=fun z=>nP2 (.inl z)
 have nPx:∀x v,H2 x=some v->(o x\/isT v)->x≠1012:=fun x v e z y=>by
  rcases z with z | z
  ·exact nP (y▸z)
  ·rw[y,t1]at e;cases e;exact b3X z
 have hR3:cF Zn CA H3 r R o w:=hR1.move fun x v e z=>hsm x v (nPx x v e z) e
 have lP:l≠1012:=fun y=>by rw[y,t1]at el;cases el
 have hL:xR H3 f ws:=⟨c,c',l,hlam,hc',hcell,hsm l _ lP el⟩
 have nc:¬ Or2 o ox c':=by
  rcases hor with z | ⟨qs',u1,_,u3⟩
  ·rintro (y | y)
   ·exact hR1.al c' y z
   ·cases e:H c' with
    |none=>exact hox c' y e
    |some u=>rw[g1 _ _ e]at z;cases z
  ·rw[t1]at u1
   cases u1
   rcases t3 with t3 | ⟨d,d1,d2,d3⟩
   ·cases t3.symm.trans u3
   ·cases (show codeAmong a7B _=_ from u3).symm.trans d1;exact d3
 have hT3:jX 1012 (Or2 o ox) H3:=by
  obtain⟨qs',u1,u2,u3⟩:=hC3
  exact⟨nP2,qs',u1,u2,.inr ⟨c',u3,hc',nc⟩⟩
 have m3:MvP 1012 o H2 o H3:=⟨fun x v e z=>hsm x v (fun y=>z.elim (fun z=>z (.inr y)) fun z=>(by rw[y,t1]at e;cases e;exact b3X z)) e,fun x hx=> .inl hx⟩
 refine⟨r,R,o,w,f,fun b i=>wrB ws ((i:Nat):Int) b,rfl,hR3,ne,sz,fun b hb=>⟨fun i hi H4 g4=>⟨FnE.lam (g4 _ _ hlam),fun Q1 k=> .inl ⟨ws,_,_,_,rfl,hL.same g4,k⟩⟩,fun i=>b9B (hR3.says hb.1),fun H' o' hR' m'=>q1 hall b H' o' hb hR' (hT3.mv2 m') ?_⟩⟩
 refine(Mv.of g1).trans (m3.trans ⟨fun x v e z=>m'.1 x v e (z.imp_left fun y q=>y (.inl q)),fun x hx=>?_⟩)
 rcases hx with hx | hx
 ·exact(m'.2 x hx).imp .inl id
 ·exact .inl (.inr hx)
variable (ZdD:MB P w K mg base (CX0) 13 ZfO Zkl ["self","turns","hearing"] (b0N Zn CA))
include ZaI ZR ZeI Zb Zac Zbe Zan in
theorem Zmj (F0:Fun K "run" "Rail.run" ZkG ZfO Zkl):type_of% ZdD:=by
 refine mbM ["self","turns","hearing","asked"] F0 fun Sc0=>F0.ok Sc0 (fun vs H Q E h=>?_) fun cdv A outer s H vs Q E hr h=>?_
 ·obtain⟨r,R,o,w,n,rfl,_⟩:=h
  rfl
 obtain⟨r,R,o,w,n,rfl,hR,ne,n5,sz,q⟩:=h
 have nd:=Sc0.nd
 refine⟨_,(aC (aX (i:=3) nd rfl (Or.inr rfl) (bT (cH (aW b3A (dv 2) nW (aR _)) (bA (v:= .ref ZbD) rfl Zbe.2.2.2 rfl) (dv 2)))) (aF (aM (dN rfl (ix:=[0,3]) (dO rfl ZR (aA (dv 1) aD)) (fun C fp s0 H0 at0=>cZ) (fun C fp s0 H0 at0=>(cB Zb Zac Zan.1 (hr.mono (by decide)) Zan.2 .nil aK (dv 1) (aA (dv 2) aD))) rfl rfl (by rfl) (show ([".0","turn","self","asked"]:List Str).Nodup by decide +kernel))))),?_⟩
 refine⟨fun v H'=>v= .ref ZbD/\H=H',?_,?_⟩
 ·conv=>whnf
  exact⟨rfl,rfl⟩
 rintro v H1 ⟨rfl,rfl⟩
 refine⟨⟨by omega,by omega⟩,?_⟩
 rw[YB]
 refine gB (lo:=0) (n:=n) (fun i ys H'=>∃o',jA Zn CA H' r (gA R i) o'/\Mv o H o' H'/\ys=((List.range i).map fun k=>xN (gA R k)).map V.int) ?_ ?_ ?_ ?_
 ·rintro i ys H' hi ⟨o',_,_,rfl⟩
  rw[Ya,Ya,YN]
  exact bR (by omega)
 ·exact⟨o,⟨w,hR⟩,Mv.refl,rfl⟩
 ·rintro i ys H' hi ⟨o',⟨w',hR'⟩,mv,rfl⟩
  conv=>whnf
  refine⟨⟨w'.dx,_,hR'.er,rfl⟩,r,gA R i,o',w',ZbD,fun b _=>b,rfl,hR',fun z=>ne (List.length_eq_zero_iff.mp (by rw[<-vX R i,z];rfl)),sz i (by omega),fun b hb=>⟨fun j hj H2 g2=>⟨.inl ZeI,fun Q1 k=> .inr ⟨rfl,_,_,_,rfl,k _ (Same.refl _)⟩⟩,fun _=>hR'.says54 hb.1,fun H3 o3 hR3 m3=>?_⟩⟩
  have eb:b=xN (gA R i):=a3R (fun z hz=>hR'.says54 hz) hb
  subst eb
  refine⟨o3,hR3,mv.trans m3,?_⟩
  rw[Xr,Ym,Ym]
  rfl
 rintro ys H' ⟨o',hR',mv,rfl⟩ l hl
 exact q l H' o' hR' mv hl
variable (Zcx:MB P w K mg base (CX0) 1 Zd1 ZhY ["self"] (yF Zn CA))
include ZaI ZaM Zb ZP in
theorem ZkS (F0:Fun K "events" "Rail.events" Zif Zd1 ZhY):type_of% Zcx:=by
 refine mbM ["self"] F0 fun Sc0=>F0.ok Sc0 (fun vs H Q E h=>?_) fun cdv A outer s H vs Q E hr h=>?_
 ·obtain⟨r,R,o,w,rfl,_⟩:=h
  rfl
 obtain⟨r,R,o,w,rfl,hR,q⟩:=h
 have nd:=Sc0.nd
 refine⟨_,(aF (aM (fU iB rfl ZaM iR (aA (aN Zb ZP (dv 0)) aD)))),?_⟩
 exact⟨w.dx,_,.ref w.EV,hR.er,rfl,_,.inl (SqL.of hR.eEV),q⟩
variable (ZdC:MB P w K mg base (CX0) 9 ZfN Zkk ["self","post"] (a6M Zn CA ZbV c3F))
include ZZ ZaI Za Zb Zs ZcH ZdB ZA in
theorem Zmi (F0:Fun K "got" "Rail.got" ZkF ZfN Zkk):type_of% ZdC:=by
 refine mbM ["self","post"] F0 fun Sc0=>F0.ok Sc0 (fun vs H Q E h=>?_) fun cdv A outer s H vs Q E hr h=>?_
 ·obtain⟨r,R,o,w,k,rfl,_⟩:=h
  rfl
 obtain⟨r,R,o,w,k,rfl,hR,q1,q2⟩:=h
 have nd:=Sc0.nd
 refine⟨_,(aF (aM (bW Za ZcH ZdB.1 (hr.mono (by decide)) ZdB.2 .nil aK (cB Zb Zs ZA.1 (hr.mono (by decide)) ZA.2 .nil aK (dv 0) (aA (dv 1) aD))))),?_⟩
 refine⟨⟨w.dx,_,hR.er,rfl⟩,r,R,o,w,k,rfl,hR,fun i p e hp=>?_,fun no H1 g1=>q2 no H1 g1⟩
 obtain⟨S,oi,eS,hP,_⟩:=hR.step hp
 have q:=q1 i S e eS
 obtain⟨dq,ch,vt',wl_,ul,cc,nw,ep⟩:=hP.cell
 obtain⟨nwb,ob,bd⟩:=hP.bd
 exact⟨⟨dq,_,ep,rfl⟩,p,nwb,S,ob,rfl,bd,q⟩
variable (ZcU:MB P w K mg base (CX0) 9 Zey ZiK ["self","post"] (a6M Zn CA ZbV b7M))
include ZZ ZaI Za Zb Zs Zb3 ZcT ZA in
theorem Zlm (F0:Fun K "waits" "Rail.waits" Zi7 Zey ZiK):type_of% ZcU:=by
 refine mbM ["self","post"] F0 fun Sc0=>F0.ok Sc0 (fun vs H Q E h=>?_) fun cdv A outer s H vs Q E hr h=>?_
 ·obtain⟨r,R,o,w,k,rfl,_⟩:=h
  rfl
 obtain⟨r,R,o,w,k,rfl,hR,q1,q2⟩:=h
 have nd:=Sc0.nd
 refine⟨_,(aF (aM (bW Za Zb3 ZcT.1 (hr.mono (by decide)) ZcT.2 .nil aK (cB Zb Zs ZA.1 (hr.mono (by decide)) ZA.2 .nil aK (dv 0) (aA (dv 1) aD))))),?_⟩
 refine⟨⟨w.dx,_,hR.er,rfl⟩,r,R,o,w,k,rfl,hR,fun i p e hp=>?_,fun no H1 g1=>q2 no H1 g1⟩
 obtain⟨S,oi,eS,hP,_⟩:=hR.step hp
 have q:=q1 i S e eS
 obtain⟨dq,ch,vt',wl_,ul,cc,nw,ep⟩:=hP.cell
 obtain⟨nwb,ob,bd⟩:=hP.bd
 exact⟨⟨dq,_,ep,rfl⟩,p,nwb,S,ob,rfl,bd,q⟩
variable (Zby:FB P w K mg base (CX0) 2 "check_tail" Zgg ZiT ["many","votes","pairs"] (a2Z K ZbV))
include ZaZ ZbU ZZ Zd9 ZbT Zaa in
theorem Zlv (F0:GFm K mg "check_tail" Zjg Zgg ZiT):type_of% Zby:=by
 refine fbM ["many","votes","pairs","post","place"] F0 fun Sc0=>F0.F.ok Sc0 (fun vs H Q E h=>?_) fun cdv A outer s H vs Q E hr h=>?_
 ·obtain⟨m,v,l,qs,ps,rfl,_⟩:=h
  rfl
 obtain⟨m,v,l,qs,ps,rfl,hS,hP,q1,q2⟩:=h
 have nd:=Sc0.nd
 refine⟨_,(aC (bJ (fL (kY pW pW (bA (v:= .int 2) rfl Zd9 ⟨_,rfl⟩) (dv 0) (bA (v:= .int 5) rfl ZbT ⟨_,rfl⟩))) (aF dM) aV) (aC (bB (aQ Zaa.1 (hr.mono (by decide)) rfl Zaa.2.2.2 Zaa.2.2.1 Zaa.2.1 .nil aK (aA (dv 1) aD))) (aF (eV YV rfl (cM (dv 2)) (mg2 (yQ rfl (jE (cQ (i:=3) nd rfl (Or.inl rfl)) (jE (cQ (i:=4) nd rfl (Or.inl rfl)) uC)))) (aC (bJ (fL (kY pW xV aG (dv 3) (dv 0))) (aF dM) aV) (aF (bJ (fL (kY pW xV aG (dv 4) (aU cG (bA (v:= .int 9) rfl ZaZ ⟨_,rfl⟩) (dv 1)))) (aF dM) aV))))))),?_⟩
 conv=>whnf
 refine bL (fun c1=>?_) (fun c1=>?_)
 rotate_left
 ·have c1':¬ (2:Int)<=m:=dec_false c1
  exact(q2 fun z=>c1' z.1)
 have c1':(2:Int)<=m:=dec_true c1
 conv=>whnf
 refine bL (fun c2=>?_) (fun c2=>?_)
 ·have c2':¬ m<=(5:Int):=fun z=>by
   have:(!decide (m<=(5:Int)))=true:=c2
   rw[Ye z]at this;cases this
  exact(q2 fun z=>c2' z.2.1)
 have c2':m<=(5:Int):=YD fun z=>c2 (by
  show (!decide (m<=(5:Int)))=true
  rw[Yi z];rfl)
 refine⟨v,rfl,fun hv=>?_,fun hv=>q2 fun z=>hv z.2.2.1⟩
 refine⟨⟨_,hS⟩,gM (xs:=qs.map V.ref) (fun i σ H'=>(∃x y,σ= [some (.int m),some (.int v),some (.ref l),x,y])/\H'=H/\∀p∈ps.take i,0<=p.1/\p.1<m/\0<=p.2/\p.2<9+v) ⟨⟨_,_,rfl⟩,rfl,fun _ z=>nomatch z⟩ (fun i σ H' _ z=>z.2.1▸hS) ?_ ?_⟩
 ·rintro i x σ H' hx ⟨⟨y,z,rfl⟩,rfl,hps⟩
  rw[Yl]at hx
  obtain⟨w,hw,rfl⟩:=YH.mp hx
  obtain⟨p,hp,hT⟩:=hP.get hw
  have hm:p∈ps:=Yx hp
  refine⟨_,_,hT,?_⟩
  conv=>whnf
  refine bL (fun d1=>?_) (fun d1=>?_)
  rotate_left
  ·have d1':¬ (0:Int)<=p.1:=dec_false d1
   exact(q2 fun z=>d1' (z.2.2.2 p hm).1)
  have d1':(0:Int)<=p.1:=dec_true d1
  conv=>whnf
  refine bL (fun d2=>?_) (fun d2=>?_)
  ·have d2':¬ p.1<m:=fun z=>by
    have:(!decide (p.1<m))=true:=d2
    rw[Ye z]at this;cases this
   exact(q2 fun z=>d2' (z.2.2.2 p hm).2.1)
  have d2':p.1<m:=YD fun z=>d2 (by
   show (!decide (p.1<m))=true
   rw[Yi z];rfl)
  conv=>whnf
  refine bL (fun d3=>?_) (fun d3=>?_)
  rotate_left
  ·have d3':¬ (0:Int)<=p.2:=dec_false d3
   exact(q2 fun z=>d3' (z.2.2.2 p hm).2.2.1)
  have d3':(0:Int)<=p.2:=dec_true d3
  conv=>whnf
  refine bL (fun d4=>?_) (fun d4=>?_)
  ·have d4':¬ p.2<9+v:=fun z=>by
    have:(!decide (p.2<9+v))=true:=d4
    rw[Ye z]at this;cases this
   exact(q2 fun z=>d4' (z.2.2.2 p hm).2.2.2)
  have d4':p.2<9+v:=YD fun z=>d4 (by
   show (!decide (p.2<9+v))=true
   rw[Yi z];rfl)
  refine⟨⟨_,_,rfl⟩,rfl,fun z hz=>?_⟩
  obtain⟨hi,e⟩:=Yf.mp hp
  rw[Yg hi,YI]at hz
  rcases hz with hz | hz
  ·exact hps z hz
  ·rw[Yn.mp hz,e]
   exact⟨d1',d2',d3',d4'⟩
 rintro σ H' ⟨⟨y,z,rfl⟩,rfl,hps⟩
 rw[Ya,hP.len,Yk (Yd _)]at hps
 exact q1 ⟨c1',c2',hv,hps⟩
variable (Zbw:MB P w K mg base (CX0) 1 Zev ZiH ["self","tail"] (a6E Zaj))
include Zcj Zm Z5 Zq Zy in
theorem Zlj (F0:Fun K "__init__" "Judge.__init__" Zi4 Zev ZiH):type_of% Zbw:=by
 refine mbM ["self","tail"] F0 fun Sc0=>F0.ok Sc0 (fun vs H Q E h=>?_) fun cdv A outer s H vs Q E hr h=>?_
 ·obtain⟨j,t,dx,rfl,_⟩:=h
  rfl
 obtain⟨j,t,dx,rfl,e,q⟩:=h
 have nd:=Sc0.nd
 refine⟨_,(aC (bM Zm Z5 (dv 0) (dv 1)) (aC (bM Zm Zq (dv 0) bD) (aF (bM Zm Zy (dv 0) aG)))),?_⟩
 refine⟨dx,_,e,by decide,?_⟩
 refine⟨dx,_,aB,(show 1<1000 by decide),?_⟩
 refine⟨dx,_,aB,(show 2<1000 by decide),?_⟩
 have eu:∀(H:Hp)(a:Addr)(x y:HO),upd (upd H a x) a y=upd H a y:=fun H a x y=>by
  funext z
  by_cases h:z=a
  ·rw[h,aB,aB]
  ·rw[aH h,aH h,aH h]
 rw[eu,eu]
 exact q _ rfl
variable (ZcS:MB P w K mg base (CX0) 2 Zew ZiI ["self"] (a6D CA.rtail CA.stail Zaj))
include Zcj Ze Zd Zm Zah Z8 Z5 Zq Zy Zbc in
theorem Zlk (F0:Fun K "says" "Judge.says" Zi5 Zew ZiI):type_of% ZcS:=by
 refine mbM ["self"] F0 fun Sc0=>F0.ok Sc0 (fun vs H Q E h=>?_) fun cdv A outer s H vs Q E hr h=>?_
 ·obtain⟨j,t,v,i,p,s,w,n,rfl,_⟩:=h
  rfl
 obtain⟨j,t,v,i,p,s,w,n,rfl,hJ,hp,hf,q⟩:=h
 have nd:=Sc0.nd
 refine⟨_,(aC (bJ (aW cV (aN Zm Zq (dv 0)) bD (aR _)) (aF (aM (sV Zbc.1 (hr.mono (by decide)) Zbc.2 .nil aK (aN Zm Z5 (dv 0))))) aV) (aF (aM (bT (cH (aW tV (aN Zm Zy (dv 0)) aG (aR _)) aG aG))))),?_⟩
 obtain⟨dx,e⟩:=hJ.jd
 obtain⟨o,k,⟨C,dy,hC,et⟩,ho⟩:=hJ.tl
 have hc:=iM Ze Zd hC
 have hms:=oN Zah Z8 hC
 refine⟨dx,_,_,e,rfl,?_⟩
 by_cases c:s.1=0
 ·have ew:=hJ.w0 c
  rw[if_pos hp]at ew
  subst ew
  obtain⟨rfl,rfl⟩:=ho c
  refine⟨dx,_,_,e,rfl,⟨C,dy,_,et,hc.cls,hms,rfl⟩,t,v,_,_,_,rfl,⟨C,dy,hC,et⟩,?_⟩
  have es:eQ (decide (i=0)) o=bI (sdB s.1 i o):=by
   unfold eQ sdB bI
   rw[if_pos c]
   by_cases h1:o=1 <;> by_cases h2:i=0
   ·subst h1 h2;rfl
   ·subst h1
    have:0<i:=by omega
    simp[h2,this]
   ·subst h2
    simp[h1]
   ·simp[h1]
  rw[es]
  exact q
 ·obtain ⟨rfl,rfl⟩:=hJ.w1 c
  refine⟨fun x H'=>x= .int (bI (sdB s.1 i p))/\H'=H,?_,?_⟩
  ·refine⟨dx,_,_,e,rfl,?_⟩
   conv=>whnf
   refine bL (fun z=>?_) (fun z=>?_)
   ·have z1:(0:Int)<7-(((p:Nat):Int)+1-((s.1:Nat):Int)):=dec_true z
    have:sdB s.1 i p=false:=by
     unfold sdB
     rw[if_neg c]
     exact Yi (by omega)
    rw[this]
    exact⟨rfl,rfl⟩
   ·have z1:¬ (0:Int)<7-(((p:Nat):Int)+1-((s.1:Nat):Int)):=dec_false z
    have:sdB s.1 i p=true:=by
     unfold sdB
     rw[if_neg c]
     exact Ye (by omega)
    rw[this]
    exact⟨rfl,rfl⟩
  rintro x H' ⟨rfl,rfl⟩
  exact q
variable (ZcR:MB P w K mg base (CX0) 3 Zeu ZiG ["self","bit"] (a6F CA.rtail CA.stail Zaj))
include Zcj Zb9 Ze Zd Zm Zag Z7 Z5 Zq Zy Zba in
theorem Zli (F0:Fun K "hear" "Judge.hear" Zi3 Zeu ZiG):type_of% ZcR:=by
 refine mbM ["self","bit"] F0 fun Sc0=>F0.ok Sc0 (fun vs H Q E h=>?_) fun cdv A outer s H vs Q E hr h=>?_
 ·obtain⟨j,t,v,i,p,s,w,n,b,rfl,_⟩:=h
  rfl
 obtain⟨j,t,v,i,p,s,w,n,b,rfl,hJ,hv1,hp,hf,q⟩:=h
 have nd:=Sc0.nd
 refine⟨_,(aF (bJ (aW cV (aN Zm Zq (dv 0)) bD (aR _)) (aC (bM Zm Zq (dv 0) (mR Zba.1 (hr.mono (by decide)) Zba.2 .nil aK (aN Zm Z5 (dv 0)) (aA (dv 1) aD))) (aF (bM Zm Zy (dv 0) (bT (cH (aW cV (aN Zm Zq (dv 0)) bD (aR _)) (bA (v:= .int 6) rfl Zb9 ⟨_,rfl⟩) aG))))) (aF (bM Zm Zy (dv 0) (aU gZ (aN Zm Zy (dv 0)) aG))))),?_⟩
 obtain⟨dx,e⟩:=hJ.jd
 obtain⟨o,k,⟨C,dy,hC,et⟩,ho⟩:=hJ.tl
 have hc:=iM Ze Zd hC
 have hmh:=oN Zag Z7 hC
 have hjt:=hJ.ne ⟨C,dy,hC,et⟩
 refine⟨dx,_,_,e,rfl,?_⟩
 by_cases c:s.1=0
 ·have ew:=hJ.w0 c
  rw[if_pos hp]at ew
  subst ew
  obtain⟨rfl,rfl⟩:=ho c
  refine⟨dx,_,_,e,rfl,⟨C,dy,_,et,hc.cls,hmh,rfl⟩,t,v,_,o,s.2,bI b,rfl,⟨C,dy,hC,et⟩,fun H1 h1 b1=>?_⟩
  have e1:=b1 j _ hjt e
  have hn2:tlN o (bI b) s.2=(nx1 i o b s).2:=by
   show (if 9<=o/\bI b=0 then s.2+1 else s.2)=(if 9<=o/\b=false then s.2+1 else s.2)
   cases b <;> simp[bI]
  rw[hn2]at h1
  have hfl:o<9->fJ (decide (i=0)) o (bI b)=flB i o b:=fun h9=>by
   unfold fJ flB
   by_cases z:o=1
   ·rw[if_pos z,if_pos z]
    cases b <;> rfl
   ·rw[if_neg z,if_neg z,Ye h9]
    cases b <;> rfl
  have hw:(aZ v (decide (i=0)) o s.2 (bI b)="fault"/\(nx1 i o b s).1=o+1)\/(aZ v (decide (i=0)) o s.2 (bI b)≠"fault"/\(nx1 i o b s).1=0/\aZ v (decide (i=0)) o s.2 (bI b)=(if o+1<9+v then ("more":Str) else fK v (o+1) (nx1 i o b s).2)):=by
   have ex:(nx1 i o b s).1=if s.1=0/\flB i o b=true then o+1 else s.1:=rfl
   by_cases h9:9<=o
   ·have ew:aZ v (decide (i=0)) o s.2 (bI b)=fK v (o+1) (nx1 i o b s).2:=by
     unfold aZ
     rw[if_pos h9,hn2]
    have ef:flB i o b=false:=by
     unfold flB
     rw[if_neg (by omega),Yi (by omega)]
     rfl
    rw[ew,ex,ef]
    refine .inr ⟨b0C _ _ _,by rw[if_neg fun z=>nomatch z.2];exact c,?_⟩
    by_cases hl:o+1<9+v
    ·rw[if_pos hl]
     exact if_pos hl
    ·rw[if_neg hl]
   ·have ew:aZ v (decide (i=0)) o s.2 (bI b)=(if flB i o b=true then ("fault":Str) else ("more":Str)):=by
     unfold aZ
     rw[if_neg h9,hfl (by omega)]
    rw[ew,ex]
    cases ef:flB i o b
    ·refine .inr ⟨by decide,by rw[if_neg fun z=>nomatch z.2];exact c,?_⟩
     rw[if_pos (show o+1<9+v by omega)]
     rfl
    ·exact .inl ⟨rfl,if_pos ⟨c,rfl⟩⟩
  generalize aZ v (decide (i=0)) o s.2 (bI b)=w' at hw
  refine⟨dx,_,e1,(show 3<1000 by decide),?_⟩
  have e2:upd H1 j (.ins Zaj dx (dZ "verdict" (.str w') (jdF t "more" n))) j=some (.ins Zaj dx (jdF t w' n)):=aB
  have b2:b8Q H (upd H1 j (.ins Zaj dx (dZ "verdict" (.str w') (jdF t "more" n)))) j t:=fun x u hx hy ex=>by rw[aH hx];exact b1 x u hy ex
  have t2:=h1.at_ (H':=upd H1 j (.ins Zaj dx (dZ "verdict" (.str w') (jdF t "more" n)))) (aH (Ne.symm hjt))
  generalize upd H1 j (.ins Zaj dx (dZ "verdict" (.str w') (jdF t "more" n)))=H2 at e2 b2 t2
  refine⟨fun x H3=>x= .int (if w'="fault" then 6 else 0)/\H3=H2,?_,?_⟩
  ·refine⟨dx,_,_,e2,rfl,?_⟩
   conv=>whnf
   refine bL (fun z=>?_) (fun z=>?_)
   ·have z1:w'="fault":=YK z
    rw[if_pos z1]
    exact⟨rfl,rfl⟩
   ·have z1:¬ w'="fault":=fun y=>z (Ye y)
    rw[if_neg z1]
    exact⟨rfl,rfl⟩
  rintro x H3 ⟨rfl,rfl⟩
  refine⟨dx,_,e2,(show 3<1000 by decide),?_⟩
  refine q _ w' _ ⟨⟨dx,aB⟩,⟨_,_,t2.at_ (aH (Ne.symm hjt)),fun _=>⟨rfl,rfl⟩⟩,fun z=>?_,fun z=>?_⟩ fun x u hx hy ex=>by rw[aH hx];exact b2 x u hx hy ex
  ·rcases hw with ⟨_,h⟩ | ⟨_,_,h⟩
   ·omega
   ·exact h
  ·rcases hw with ⟨h,h'⟩ | ⟨_,h,_⟩
   ·rw[if_pos h,h']
    exact⟨h,by omega⟩
   ·exact absurd h z
 ·obtain⟨rfl,rfl⟩:=hJ.w1 c
  refine⟨dx,_,_,e,rfl,dx,_,e,(show 3<1000 by decide),?_⟩
  have ex:nx1 i p b s=(s.1,if 9<=p/\b=false then s.2+1 else s.2):=by
   unfold nx1
   rw[if_neg fun z=>c z.1]
  refine q _ "fault" _ ⟨⟨dx,aB⟩,⟨o,k,iJ.at_ ⟨C,dy,hC,et⟩ (aH (Ne.symm hjt)),fun z=>?_⟩,fun z=>?_,fun z=>?_⟩ fun x u hx hy ex=>by rw[aH hx];exact ex
  ·rw[ex]at z;exact absurd z c
  ·rw[ex]at z;exact absurd z c
  ·rw[ex]
   refine⟨rfl,?_⟩
   show _=7-(((p+1:Nat):Int)+1-((s.1:Nat):Int))
   omega
variable (ZcD:FB P w K mg base (CX0) 6 "verdicts" ZhP Zkp ["many","votes","wrong"] (yE K ZbV))
include ZaZ Zc0 ZbU ZZ Zdd ZcM Zcj ZR Zfk ZcN Ze Zd Za5 Za0 Zm Zde Zb2 Zb1 Zq Zax Zao Zby Zbw ZcS ZcR in
theorem Zmn (F0:GFm K mg "verdicts" ZkK ZhP Zkp):type_of% ZcD:=by
 refine fbM ["many","votes","wrong","judges","place","bit","post","judge"] F0 fun Sc0=>F0.F.ok Sc0 (fun vs H Q E h=>?_) fun cdv A outer s H vs Q E hr h=>?_
 ·obtain⟨m,v,l,qs,ps,rfl,_⟩:=h
  rfl
 obtain⟨m,v,l,qs,ps,rfl,hS,hP,q1,q2⟩:=h
 have nd:=Sc0.nd
 refine⟨_,(aC (bB (aQ Zby.1 (hr.mono (by decide)) rfl Zby.2.2.2 Zby.2.2.1 Zby.2.1 .nil aK (aA (dv 0) (aA (dv 1) (aA (dv 2) aD))))) (aC (aX (i:=3) nd rfl (Or.inl rfl) (aU rR (cW (aA (bV Zde Zbw.1 (hr.mono (by decide)) rfl Zcj Zbw.2 .nil aK (aA (bV Za0 Zao.1 (hr.mono (by decide)) rfl ZcM Zao.2 .nil aK (aA (dv 1) aD)) aD)) aD)) (dN rfl (ix:=[1]) (dO rfl ZR (aA (aU gZ (dv 0) aG) aD)) (fun C fp s0 H0 at0=>cZ) (fun C fp s0 H0 at0=>(bV Zde Zbw.1 (hr.mono (by decide)) rfl Zcj Zbw.2 .nil aK (aA (bV Za5 Zax.1 (hr.mono (by decide)) rfl Zdd Zax.2 .nil aK (aA (dv 1) aD)) aD))) rfl rfl (by rfl) (show ([".0","reader","votes"]:List Str).Nodup by decide +kernel)))) (aC (eV YV rfl (dO rfl ZR (aA (aU cG (bA (v:= .int 9) rfl ZaZ ⟨_,rfl⟩) (dv 1)) aD)) (cQ (i:=4) nd rfl (Or.inl rfl)) (aC (aX (i:=5) nd rfl (Or.inl rfl) (bK (xU rfl) rfl Zfk zO (aA (dN rfl (ix:=[]) (cM (dv 3)) (fun C fp s0 H0 at0=>cZ) (fun C fp s0 H0 at0=>(bW Zm Zb2 ZcS.1 (hr.mono (by decide)) ZcS.2 .nil aK (dv 0))) rfl rfl (by rfl) (show ([".0","judge"]:List Str).Nodup by decide +kernel)) aD))) (aF (eV YV rfl (a1C rfl ZcN (aA (dv 3) aD)) (mg2 (yQ rfl (jE (cQ (i:=6) nd rfl (Or.inl rfl)) (jE (cQ (i:=7) nd rfl (Or.inl rfl)) uC)))) (aF (bB (cB Zm Zb1 ZcR.1 (hr.mono (by decide)) ZcR.2 .nil aK (dv 7) (aA (bT (cH (aW (b8Y hr.units1) (bU (aA (dv 6) (aA (dv 4) aD))) (dv 2) rfl) (aU gZ aG (dv 5)) (dv 5))) aD)))))))) (aF (aM (dN rfl (ix:=[]) (cM (dv 3)) (fun C fp s0 H0 at0=>cZ) (fun C fp s0 H0 at0=>(aN Zm Zq (dv 0))) rfl rfl (by rfl) (show ([".0","judge"]:List Str).Nodup by decide +kernel))))))),?_⟩
 refine⟨m,v,l,qs,ps,rfl,hS,hP,fun ok=>?_,fun no=>q2 no H (Same.refl _)⟩
 have hm2:=ok.1
 have hm5:=ok.2.1
 obtain⟨mm,rfl⟩:=YX (show 0<=m by omega)
 obtain⟨vv,rfl⟩:=YX (show 0<=v by have:=ok.2.2.1;omega)
 have hv1:1<=vv:=by have:=ok.2.2.1;omega
 have hv5:vv<=5:=by have:=ok.2.2.1;omega
 replace q1:=q1 mm vv rfl rfl ok
 refine fun t0 dt ht0 hdt _=>⟨t0,dt,vv,rfl,aB,fun H1 e1=>⟨rfl,?_⟩⟩
 have g1:Same H H1:=by rw[e1];exact bF ht0 hdt
 have l1:iJ CA.rtail CA.stail H1 t0 vv true 0 0:=by rw[e1];exact⟨_,dt,.inr rfl,aB⟩
 clear e1
 refine fun j0 dj hj0 hdj _=>⟨j0,t0,dj,rfl,aB,fun H2 e2=>⟨rfl,?_⟩⟩
 have g2:Same H1 H2:=by rw[e2];exact bF hj0 hdj
 have l2:H2 j0=some (.ins Zaj dj (jdF t0 "more" 0)):=by rw[e2];exact aB
 clear e2
 refine⟨aL rfl,fun pl hpl=>?_⟩
 have g3:=aJ hpl (.lst [.ref j0])
 have e3:=aB (H:=H2) (a:=pl) (o:= .lst [.ref j0])
 generalize upd H2 pl (.lst [.ref j0])=H3 at g3 e3
 have J3:Jds CA.rtail CA.stail Zaj H3 [j0] [t0] vv (fun _=>0) (fun _=>(0,0)):=⟨fun i j t a b=>by
  have hi:i=0:=by
   have:=(Yf.mp a).1
   rw[Yt]at this
   omega
  subst hi
  cases (Yo a)
  cases (Yo b)
  exact⟨_,_,lV.new (g3 _ _ l2) (l1.same (g2.trans g3))⟩⟩
 have em:(((mm:Nat):Int)-1).toNat=mm-1:=by omega
 have gs3:=g1.trans (g2.trans g3)
 refine⟨⟨by omega,by omega⟩,gB (fun i ys H'=>Same H H'/\Same H3 H'/\∃js ts:List Addr,js.length=i/\ts.length=i/\ys=js.map V.ref/\Jds CA.rtail CA.stail Zaj H' (j0::js) (t0::ts) vv (fun _=>0) (fun _=>(0,0))/\(j0::js).Nodup/\(t0::ts).Nodup/\(∀x∈j0::js,H x=none/\H' x≠none)/\∀x∈t0::ts,H x=none/\H' x≠none) ?_ ⟨gs3,Same.refl _, [], [],rfl,rfl,rfl,J3,?_,?_,?_,?_⟩ ?_ ?_⟩
 ·rintro i ys H' hi ⟨_,_,js,ts,hl,_,rfl,_⟩
  refine bR ?_
  rw[Ya]
  omega
 ·exact Y0.mpr ⟨Xd,List.nodup_nil⟩
 ·exact Y0.mpr ⟨Xd,List.nodup_nil⟩
 ·intro x hx
  rw[Yn.mp hx]
  exact⟨g1.none hj0,pD (g3 _ _ l2)⟩
 ·intro x hx
  rw[Yn.mp hx]
  obtain⟨C,dx,_,e⟩:=l1.same (g2.trans g3)
  exact⟨ht0,pD e⟩
 ·rintro i ys H' hi ⟨gH,gH3,js,ts,hl,hl',rfl,J,nj,nt,fj,ft⟩
  refine fun t dt ht hdt _=>⟨t,dt,vv,rfl,aB,fun H4 e4=>⟨rfl,?_⟩⟩
  have g4:Same H' H4:=by rw[e4];exact bF ht hdt
  have l4:iJ CA.rtail CA.stail H4 t vv false 0 0:=by rw[e4];exact⟨_,dt,.inl rfl,aB⟩
  clear e4
  refine fun j dj hj hdj _=>⟨j,t,dj,rfl,aB,fun H5 e5=>⟨rfl,?_⟩⟩
  have g5:Same H4 H5:=by rw[e5];exact bF hj hdj
  have l5:H5 j=some (.ins Zaj dj (jdF t "more" 0)):=by rw[e5];exact aB
  clear e5
  have g45:=g4.trans g5
  have l4':=l4.same g5
  obtain⟨C,dx,hC,et⟩:=id l4'
  refine⟨gH.trans g45,gH3.trans g45,js++[j],ts++[t],by rw[Yc,hl];rfl,by rw[Yc,hl'];rfl,by rw[Ym];rfl,?_,?_,?_,?_,?_⟩
  ·exact Jds.snoc (js:=j0::js) (ts:=t0::ts) J (by rw[Yz,Yz,hl,hl']) g45 l5 (by rw[Yi (by rw[Yz];omega)];exact l4')
  ·exact qK (l:=j0::js) nj (oX fj g4 hj)
  ·exact qK (l:=t0::ts) nt (oX ft (Same.refl _) ht)
  ·exact qU (l:=j0::js) fj g45 (gH.none (g4.none hj)) (pD l5)
  ·exact qU (l:=t0::ts) ft g45 (gH.none ht) (pD et)
 rintro ys H4 ⟨g4,g34,js',ts',hjl,htl,rfl,J4,nj,nt,fj,ft⟩ pc hpc
 have g5:=aJ hpc (.lst (js'.map V.ref))
 have e5:=aB (H:=H4) (a:=pc) (o:= .lst (js'.map V.ref))
 generalize upd H4 pc (.lst (js'.map V.ref))=H5 at g5 e5
 refine⟨_,_,(g34.trans g5) _ _ e3,e5,small (by rw[Ya,Yt];omega),fun jl hjl'=>?_⟩
 have g6:=aJ hjl' (.lst ([.ref j0]++js'.map V.ref))
 have e6:upd H5 jl (.lst ([.ref j0]++js'.map V.ref)) jl=some (.lst ((j0::js').map V.ref)):=aB
 generalize upd H5 jl (.lst ([.ref j0]++js'.map V.ref))=H6 at g6 e6
 have J6:=J4.same (g5.trans g6)
 have gs6:=g4.trans (g5.trans g6)
 have jlen:(j0::js').length=mm:=by rw[Yz];omega
 have tlen:(t0::ts').length=mm:=by rw[Yz];omega
 have fj':∀x∈j0::js',H x=none:=fun x hx=>(fj x hx).1
 have ft':∀x∈t0::ts',H x=none:=fun x hx=>(ft x hx).1
 clear J3 J4 g1 g2 g3 g4 g5 g6 g34 gs3 e3 e5 l1 l2 fj ft hj0 hdj ht0 hdt hpl hpc hjl'
 generalize j0::js'=js at e6 J6 nj jlen fj'
 generalize t0::ts'=ts at J6 nt tlen ft'
 have ek:(9+((vv:Nat):Int)).toNat=9+vv:=by omega
 have look:∀k,k<mm->∃j t,js[k]? =some j/\ts[k]? =some t:=fun k hk=>⟨js[k]'(by omega),ts[k]'(by omega),Yb _,Yb _⟩
 have lk:∀(i:Nat)(x:V),(js.map V.ref)[i]? =some x->∃j t,x= .ref j/\i<mm/\js[i]? =some j/\ts[i]? =some t:=fun i x hx=>by
  rw[Yl]at hx
  obtain⟨j,hj,rfl⟩:=YH.mp hx
  have hi:i<mm:=by
   have:=(Yf.mp hj).1
   omega
  obtain⟨j',t,h1,h2⟩:=look i hi
  exact⟨j,t,rfl,hi,hj,h2⟩
 refine⟨⟨by omega,by omega⟩,jG (fun p σ H'=>(∃x y z u,σ= [some (.int mm),some (.int vv),some (.ref l),some (.ref jl),x,y,z,u])/\Same H H'/\H' jl=some (.lst (js.map V.ref))/\Jds CA.rtail CA.stail Zaj H' js ts vv (fun _=>p) (St mm (wrP ps) p)) ⟨⟨_,_,_,_,rfl⟩,gs6,e6,J6⟩ ?_ ?_⟩
 ·rintro p σ H' hp ⟨⟨x,y,z,u,rfl⟩,g,ej,J⟩
  rw[ek]at hp
  have e0:(0:Int)+(p:Int)=((p:Nat):Int):=XM _
  rw[e0]
  refine⟨⟨_,SqL.of ej⟩,cR (xs:=js.map V.ref) (fun i ys H''=>ys=((List.range i).map fun k=>bI (sdB (St mm (wrP ps) p k).1 k p)).map V.int/\H''=H') ?_ ⟨rfl,rfl⟩ (fun i ys H'' _ z=>z.2▸SqL.of ej) ?_ ?_⟩
  ·rintro i ys H'' hi ⟨rfl,_⟩
   rw[Ya]at hi
   refine bR ?_
   rw[Ya,Ya,YN]
   omega
  ·rintro i x ys H'' hx ⟨rfl,rfl⟩
   obtain⟨j,t,rfl,hi,hj,ht⟩:=lk i x hx
   obtain⟨w,n,hJ⟩:=J.at_ i j t hj ht
   obtain⟨dx,e⟩:=hJ.jd
   refine⟨⟨dx,_,e,rfl⟩,j,t,vv,i,p,_,w,n,rfl,hJ,hp,a9Q p i,?_,rfl⟩
   rw[Xr,Ym,Ym]
   rfl
  rintro ys H'' ⟨rfl,rfl⟩ pm hpm
  rw[Ya,jlen]
  refine⟨_,SqL.of aB,fun z=>?_,fun b hb1 hb2=>?_⟩
  ·have:=YT List.length z
   rw[Ya,YN]at this
   exact absurd this (by show ¬ mm=0;omega)
  have eb:=a7W hb1 hb2
  have g7:=aJ hpm (.lst (((List.range mm).map fun k=>bI (sdB (St mm (wrP ps) p k).1 k p)).map V.int))
  generalize upd H'' pm (.lst (((List.range mm).map fun k=>bI (sdB (St mm (wrP ps) p k).1 k p)).map V.int))=H7 at g7
  subst eb
  have eL:(List.range mm).all (fun k=>sdB (St mm (wrP ps) p k).1 k p)=least mm p (St mm (wrP ps) p):=rfl
  rw[eL]
  generalize hL:least mm p (St mm (wrP ps) p)=L
  refine⟨⟨_,SqL.of (g7 _ _ ej)⟩,wX (xs:=js.map V.ref) (fun k σ H'=>(∃z u,σ= [some (.int mm),some (.int vv),some (.ref l),some (.ref jl),some (.int p),some (.int (bI L)),z,u])/\Same H H'/\H' jl=some (.lst (js.map V.ref))/\Jds CA.rtail CA.stail Zaj H' js ts vv (fun i=>if i<k then p+1 else p) (fun i=>if i<k then St mm (wrP ps) (p+1) i else St mm (wrP ps) p i)) ⟨⟨_,_,rfl⟩,g.trans g7,g7 _ _ ej,J.same g7⟩ (fun i σ H' _ z=>SqL.of z.2.2.1) ?_ ?_⟩
  ·rintro k x σ H8 pp hx ⟨⟨z,u,rfl⟩,g8,ej8,J8⟩ hpp
   obtain⟨j,t,rfl,hk,hj,ht⟩:=lk k x hx
   refine⟨_,_,SqT.of aB,?_⟩
   have g9:=aJ hpp (.tup [.int ((k:Nat):Int),.ref j])
   generalize upd H8 pp (.tup [.int ((k:Nat):Int),.ref j])=H9 at g9
   have J9:=J8.same g9
   obtain⟨w,n,hJ⟩:=J9.at_ k j t hj ht
   rw[if_neg (Y3 _),if_neg (Y3 _)]at hJ
   obtain⟨dx,e⟩:=hJ.jd
   have gs9:=g8.trans g9
   refine⟨⟨dx,_,e,rfl⟩,fun x H10=>x= .int (bI (Vd.hd L (wrP ps k p)))/\Same H9 H10,?_,?_⟩
   ·refine⟨aL rfl,fun pt hpt=>?_⟩
    have g10:=aJ hpt (.tup [.int ((k:Nat):Int),.int ((p:Nat):Int)])
    have e10:=aB (H:=H9) (a:=pt) (o:= .tup [.int ((k:Nat):Int),.int ((p:Nat):Int)])
    generalize upd H9 pt (.tup [.int ((k:Nat):Int),.int ((p:Nat):Int)])=H10 at g10 e10
    refine⟨(((k:Nat):Int),((p:Nat):Int)),ps,qs,SqT.of e10,(gs9.trans g10).seq hS,hP.same (gs9.trans g10),?_⟩
    have ew:wrP ps k p=decide ((((k:Nat):Int),((p:Nat):Int))∈ps):=rfl
    rw[<-b2K,ew]
    conv=>whnf
    refine bL (fun c=>?_) (fun c=>?_)
    ·have c1:decide ((((k:Nat):Int),((p:Nat):Int))∈ps)=true:=c
     rw[c1]
     exact⟨rfl,g10⟩
    ·have c1:decide ((((k:Nat):Int),((p:Nat):Int))∈ps)=false:=by
      cases e:decide ((((k:Nat):Int),((p:Nat):Int))∈ps) with
      |false=>rfl
      |true=>exact absurd e c
     rw[c1]
     exact⟨rfl,g10⟩
   rintro x H10 ⟨rfl,g10⟩
   have J10:=J9.same g10
   refine⟨j,t,vv,k,p,_,w,n,_,rfl,hJ.same g10,hv1,hp,a9Q p k,fun H11 w' n' h11 b11=>?_⟩
   have gs10:=gs9.trans g10
   have ej10:=(g9.trans g10) _ _ ej8
   have n1:jl≠j:=fun z=>by
    obtain⟨d,e⟩:=(hJ.same g10).jd
    rw[<-z,ej10]at e;cases e
   have n2:jl≠t:=fun z=>by
    obtain⟨_,_,⟨C,d,_,e⟩,_⟩:=(hJ.same g10).tl
    rw[<-z,ej10]at e;cases e
   refine⟨⟨_,_,rfl⟩,fun x o e=>b11 x o (aP e (fj' j (Yx hj))) (aP e (ft' t (Yx ht))) (gs10 x o e),b11 jl _ n1 n2 ej10,?_⟩
   refine J10.hear nj nt hj ht b11 (P':=fun i=>if i<k+1 then p+1 else p) (F':=fun i=>if i<k+1 then St mm (wrP ps) (p+1) i else St mm (wrP ps) p i) (w:=w') (n:=n') ?_ fun i hi=>?_
   ·rw[if_pos (YW _),if_pos (YW _)]
    have:St mm (wrP ps) (p+1) k=nx1 k p (Vd.hd L (wrP ps k p)) (St mm (wrP ps) p k):=by rw[<-hL];rfl
    rw[this]
    exact h11
   ·by_cases d:i<k
    ·rw[if_pos d,if_pos d,if_pos (by omega),if_pos (by omega)]
     exact⟨rfl,rfl⟩
    ·rw[if_neg d,if_neg d,if_neg (by omega),if_neg (by omega)]
     exact⟨rfl,rfl⟩
  rintro σ H8 ⟨⟨z,u,rfl⟩,g8,ej8,J8⟩
  refine⟨⟨_,_,_,_,rfl⟩,g8,ej8,J8.ext fun i hi=>?_⟩
  rw[Ya,if_pos hi,if_pos hi]
  exact⟨rfl,rfl⟩
 rintro σ H' ⟨⟨x,y,z,u,rfl⟩,g,ej,J⟩
 rw[ek]at J
 refine⟨⟨_,SqL.of ej⟩,cR (xs:=js.map V.ref) (fun i ys H''=>ys=(List.range i).map (fun k=>V.str (wdS (wd vv (St mm (wrP ps) (9+vv) k))))/\H''=H') ?_ ⟨rfl,rfl⟩ (fun i ys H'' _ z=>z.2▸SqL.of ej) ?_ ?_⟩
 ·rintro i ys H'' hi ⟨rfl,_⟩
  rw[Ya]at hi
  refine bR ?_
  rw[Ya,YN]
  omega
 ·rintro i x ys H'' hx ⟨rfl,rfl⟩
  obtain⟨j,t,rfl,hi,hj,ht⟩:=lk i x hx
  obtain⟨w,n,hJ⟩:=J.at_ i j t hj ht
  have ew:=hJ.word
  obtain⟨dx,e⟩:=hJ.jd
  refine⟨dx,_,_,e,rfl,?_,rfl⟩
  rw[Xr,Ym,ew]
  rfl
 rintro ys H'' ⟨rfl,rfl⟩ pf hpf
 refine q1 pf _ (g.none hpf) (g.trans (aJ hpf _)) ?_
 rw[aB,Ya,jlen]
 unfold vd
 rw[List.map_map]
 rfl
structure Row where
 (st:Str) (k:Nat) (said bit:Int) (w:Str) (c:Int)
structure Tn (S:PS)(r:Row)(S':PS):Prop where
 sh:S.now.shown=(r.st,r.k)
 sa:bC S=r.said
 bt:r.bit=0\/r.bit=1
 hr:aY S r.bit=(r.w,S')
 ct:S'.tot=r.c
inductive Go:PS->List Row->PS->Prop
 |nil {S:PS}:Go S [] S
 |cons {S S1 S2:PS} {r:Row} {rs:List Row}:Tn S r S1->Go S1 rs S2->Go S (r::rs) S2
theorem Go.app {b:List Row}{S2:PS}(h:Go S1 b S2):∀{a:List Row}{S:PS},Go S a S1->Go S (a++b) S2
 |_,_,.nil=>h
 |_,_,.cons t r=> .cons t (Go.app h r)
theorem Go.to {a b:List Row}{S2:PS}(h:Go S a S1)(k:Go S1 b S2):Go S (a++b) S2:=k.app h
theorem Go.one {r:Row}(t:Tn S r S1):Go S [r] S1:= .cons t .nil
theorem Go.range {f:Nat->Row}{s:Nat->PS}:∀m,(∀i,i<m->Tn (s i) (f i) (s (i+1)))->Go (s 0) ((List.range m).map f) (s m)
 |0,_=> .nil
 | m+1,h=>by
  rw[Xr,Ym]
  exact(Go.range m fun i hi=>h i (by omega)).to (.one (h m (by omega)))
theorem vK {f:Fr}{r:List Fr}(e:S.now= .free k)(h:S.wt=f::r)(hs:12<=S.tot->8<=k):Tn S ⟨"free",k,0,0,"begins",S.tot⟩ { S with now:= .speaks f.1 f.2 1 }:=by
 have sa:bC S=0:=by rw[mF e,if_neg (by rw[h];intro z;cases z),if_neg (by intro z;have:=hs z.1;omega)]
 refine⟨by rw[e];rfl,sa,.inl rfl,?_,rfl⟩
 show aY S 0=_
 rw[lL e,if_pos sa,if_pos rfl,h]
 rfl
theorem vJ (e:S.now= .speaks n ds k)(hf:FrN (n,ds))(hk:k<(wr n ds).length):Tn S ⟨"speaks",k,(wr n ds).getD k 0,(wr n ds).getD k 0,"",S.tot⟩ { S with now:=if k+1=(wr n ds).length then .tlS 0 0 else .speaks n ds (k+1) }:=by
 have W:=lW hf
 have hg:(wr n ds).getD k 0=(wr n ds)[k]:=getD_get hk
 have et:(wr n ds).take k++[(wr n ds).getD k 0]=(wr n ds).take (k+1):=by rw[hg,Yg hk]
 refine⟨by rw[e];rfl,by unfold bC;rw[e],?_,?_,rfl⟩
 ·show (wr n ds).getD k 0=0\/(wr n ds).getD k 0=1
  rw[hg]
  exact W.wbits _ (YR hk)
 show aY S ((wr n ds).getD k 0)=_
 rw[iQ e,et]
 have h6:¬ ans ((wr n ds).take (k+1))="six":=by
  by_cases c:k+1=(wr n ds).length
  ·rw[c,Yk (Yd _),W.whole];decide +kernel
  ·rw[W.more (by omega)];decide +kernel
 rw[if_neg h6,if_neg (by rintro ⟨z1,z2,_⟩;rw[z1]at z2;exact absurd z2 (by decide)),if_pos rfl]
 by_cases c:k+1=(wr n ds).length
 ·rw[if_pos c,if_pos c]
 ·rw[if_neg c,if_neg c]
abbrev hd9 (l:List Int):List Int:=[1,0]++List.replicate 7 1++l
def nz (h:List Int):Nat->Nat
 |0=>0
 |i+1=>tlN i (h.getD i 0) (nz h i)
structure TL (s:Bool)(h:List Int)(vt:Nat):Prop where
 len:h.length=9+vt
 bits:bO h
 one:∀i,i<9->i≠1->h.getD i 0=1
 ans:s=true->h.getD 1 0=0
theorem TL.more {s:Bool}(t:TL s h vt)(hi:i<8+vt):aZ vt s i (nz h i) (h.getD i 0)="more":=by
 unfold aZ
 by_cases c:9<=i
 ·rw[if_pos c]
  unfold fK
  exact if_pos (by omega)
 ·rw [if_neg c]
  refine if_neg ?_
  unfold fJ
  by_cases d:i=1
  ·rw[if_pos d]
   cases s with
   |false=>rw[Jc];decide
   |true=>rw[d,t.ans rfl];decide
  ·rw[if_neg d,t.one i (by omega) d]
   decide
theorem TL.last {s:Bool}(t:TL s h vt)(hv:1<=vt):aZ vt s (8+vt) (nz h (8+vt)) (h.getD (8+vt) 0)=if vt / 2<nz h (9+vt) then ("refused":Str) else ("taken":Str):=by
 unfold aZ
 rw[if_pos (by omega)]
 unfold fK
 rw[if_neg (by omega),show 9+vt=8+vt+1 by omega]
 rfl
theorem wV (l:List Int)(j:Nat):(hd9 l).getD (9+j) 0=l.getD j 0:=by
 rw[Yh,Yh]
 rw[Yv (by show 9<=9+j;omega)]
 show (l[9+j-9]?).getD 0=_
 rw[show 9+j-9=j by omega]
theorem zG (l:List Int):∀i,i<9->(hd9 l).getD i 0=if i=1 then 0 else 1:=by
 intro i hi
 have:(hd9 l).getD i 0=(hd9 []).getD i 0:=by
  rw[Yh,Yh,YF (by exact hi)]
  rfl
 rw[this]
 have h:∀i,i<9->(hd9 []).getD i 0=if i=1 then (0:Int) else 1:=by decide +kernel
 exact h i hi
theorem TL.of9 (s:Bool)(hl:l.length=vt)(hb:bO l):TL s (hd9 l) vt:=by
 refine⟨by rw[Yc,hl];rfl,lB ?_ hb,fun i hi h1=>by rw[zG l i hi,if_neg h1],fun _=>by rw[zG l 1 (by decide)];rfl⟩
 have h:∀z∈ [(1:Int),0]++List.replicate 7 1,z=0\/z=1:=by decide +kernel
 exact h
theorem nz9 (l:List Int):nz (hd9 l) 9=0:=by
 have h:∀i,i<=9->nz (hd9 l) i=0:=by
  intro i
  induction i with
  |zero=>intro _;rfl
  | succ i ih=>
   intro hi
   show tlN i _ (nz (hd9 l) i)=0
   rw[ih (by omega)]
   unfold tlN
   rw[if_neg (by rintro ⟨z,_⟩;omega)]
 exact h 9 (Yd _)
theorem wC (l:List Int):∀j,j<=l.length->nz (hd9 l) (9+j)=(l.take j).count 0
 |0,_=>by rw[Jf];exact nz9 l
 | j+1,h=>by
  have ih:=wC l j (by omega)
  show tlN (9+j) ((hd9 l).getD (9+j) 0) (nz (hd9 l) (9+j))=_
  rw[ih,wV,getD_get (by omega),Yg (by omega),List.count_append]
  unfold tlN
  by_cases c:l[j]=0
  ·rw[if_pos ⟨by omega,c⟩,c];rfl
  ·rw[if_neg (by rintro ⟨_,z⟩;exact c z),List.count_singleton,if_neg (by rw[XH];exact c)];rfl
theorem b6S (hl:l.length=vt):nz (hd9 l) (9+vt)=l.count 0:=by
 rw[<-hl,wC l _ (Yd _),Yk (Yd _)]
theorem b8R (e:S.now= .tlS (8+S.vt) (nz h (8+S.vt)))(t:TL true h S.vt)(hv:1<=S.vt)(hn:S.vt / 2<nz h (9+S.vt)):aY S (h.getD (8+S.vt) 0)=dF S 8 "refuses" (.settles false):=by
 have w:=t.last hv
 rw[if_pos hn]at w
 rw[iH e,w,if_neg (by decide +kernel),if_neg (by decide +kernel),if_pos rfl]
 rfl
theorem a0H (hf:FrN (n,ds))(h1:1<=k)(hk:k<(wr n ds).length)(e:S.now= .reads ((wr n ds).take k)):Tn S ⟨"reads",k,1,(wr n ds).getD k 0,"",S.tot⟩ { S with now:=if k+1=(wr n ds).length then .tlR (nmB (kp (wr n ds))) (daB (kp (wr n ds))) 0 0 else .reads ((wr n ds).take (k+1)) }:=by
 have W:=lW hf
 have hg:(wr n ds).getD k 0=(wr n ds)[k]:=getD_get hk
 have et:(wr n ds).take k++[(wr n ds).getD k 0]=(wr n ds).take (k+1):=by rw[hg,Yg hk]
 refine⟨?_,by unfold bC;rw[e],?_,?_,rfl⟩
 ·rw[e]
  show (("reads",((wr n ds).take k).length):Str×Nat)=_
  rw[Yr,Nat.min_eq_left (by omega)]
 ·show (wr n ds).getD k 0=0\/(wr n ds).getD k 0=1
  rw[hg]
  exact W.wbits _ (YR hk)
 show aY S ((wr n ds).getD k 0)=_
 rw[lZ e,et]
 by_cases c:k+1=(wr n ds).length
 ·rw[c,Yk (Yd _),W.whole,if_neg (by decide +kernel),if_pos rfl,if_pos rfl]
 ·rw[W.more (by omega),if_pos rfl,if_neg c]
structure Part (w1 w2:List Int)(k:Nat):Prop where
 tk:w1.take k=w2.take k
 h1:k<w1.length
 one:w1.getD k 0=1
 zero:w2.getD k 0=0
 k1:1<=k
 k16:k<=16
 nine:(kp (w1.take k)).length<9
theorem a7K {c r1 r2:List Int}(h0:c≠ [])(h8:c.length<=8):Part (put (c++1::r1)) (put (c++0::r2)) (put c).length:=by
 obtain⟨s1,e1⟩:=Wm.put_pre c 1 r1
 obtain⟨s2,e2⟩:=Wm.put_pre c 0 r2
 have l:=mH c
 have c1:1<=c.length:=List.length_pos_iff.mpr h0
 have t:∀(b:Int)(s:List Int),(put c++b::s).take (put c).length=put c:=fun b s=>by rw[Y6 (Yd _),Yk (Yd _)]
 have g:∀(b:Int)(s:List Int),(put c++b::s).getD (put c).length 0=b:=fun b s=>by rw[Yh,Yv (Yd _),Xz];rfl
 rw[e1,e2]
 refine⟨by rw[t,t],by rw[Yc];show _<_+(s1.length+1);omega,g _ _,g _ _,by omega,by omega,?_⟩
 rw[t,a8I]
 omega
theorem a9Y {n1 n2 s:Nat}{ds1 ds2:List Int}(hs:s<8)(h:∀j,s<j->n1.testBit j=n2.testBit j)(h1:n1.testBit s=true)(h2:n2.testBit s=false):∃k,Part (wr n1 ds1) (wr n2 ds2) k:=by
 obtain⟨c,t1,t2,e1,e2,hc⟩:=Wm.bitsI_split hs h h1 h2
 have f:∀(n:Nat)(ds:List Int)(b:Int)(t:List Int),bN n 8=c++b::t->∃r,fb (n:Int) ds=(0::c)++b::r:=fun n ds b t e=>by
  refine⟨t++bN ds.length 3++(ds.map b8).flatten++ck (hd (n:Int) ds),?_⟩
  have eh:hd (n:Int) ds= [0]++b8 (n:Int)++bN ds.length 3++(ds.map b8).flatten:=rfl
  have e8:b8 (n:Int)=c++b::t:=by unfold b8;rw[YB];exact e
  show hd (n:Int) ds++ck (hd (n:Int) ds)=_
  generalize ck (hd (n:Int) ds)=z
  rw[eh,e8]
  simp only[YJ,List.cons_append,List.nil_append]
 obtain⟨r1,q1⟩:=f n1 ds1 1 t1 e1
 obtain⟨r2,q2⟩:=f n2 ds2 0 t2 e2
 refine⟨(put (0::c)).length,?_⟩
 show Part (put (fb (n1:Int) ds1)) (put (fb (n2:Int) ds2)) _
 rw[q1,q2]
 exact a7K (by intro z;cases z) (by rw[Yz];omega)
theorem a0W (s:Bool)(vt:Nat):TL s (hd9 (List.replicate vt 1)) vt:=TL.of9 s Yu fun z hz=> .inr (YY hz)
theorem a0V (vt:Nat):nz (hd9 (List.replicate vt 1)) (9+vt)=0:=by
 rw[b6S Yu]
 exact List.count_eq_zero.mpr fun h=>by have:=YY h;cases this
theorem b4A:mvd 0 (-1)=0:=by decide
theorem a8C {v:HO}(hp:H1 p=none)(hdp:H1 dp=none)(hin:∀x,o x->x=p\/upd (upd H1 dp (.own p)) p v x=none)(hk:∀x u,x≠p->upd (upd H1 dp (.own p)) p v x=some u->H' x=some u):(∀x,o x->H1 x=none)/\Same H1 H':=by
 refine⟨fun x hx=>?_,fun x u e=>hk x u (aP e hp) (by rw[aH (aP e hp),aH (aP e hdp)];exact e)⟩
 rcases hin x hx with h | h
 ·rw[h];exact hp
 ·by_cases c:x=p
  ·rw[c];exact hp
  ·rw[aH c]at h
   by_cases d:x=dp
   ·rw[d];exact hdp
   ·rw[aH d]at h;exact h
theorem SqL.keepT {P:Addr}{xs:List V}{pos:Pos}{q:Str}(h:SqL K H a xs)(hT:a4M P pos q H)(g:∀x u,H x=some u->x≠P->H' x=some u):SqL K H' a xs:=by
 obtain⟨ps,e,_⟩:=hT
 rcases h with (h | ⟨o,h⟩) | h
 ·exact .inl (.inl (g _ _ h fun z=>by rw[z,e]at h;cases h))
 ·exact .inl (.inr ⟨o,g _ _ h fun z=>by rw[z,e]at h;cases h⟩)
 ·exact .inr h
theorem a2L (e:S.now= .free 0)(hw:S.wt= []):Tn S ⟨"free",0,1,0,"",S.tot⟩ { S with now:= .reads [0] }:=by
 have sa:bC S=1:=by rw[mF e];exact if_pos hw
 exact⟨by rw[e];rfl,sa,.inl rfl,by show aY S 0=_;rw[lL e,if_neg (by rw[sa];decide),if_pos rfl],rfl⟩
abbrev hd1 (vt:Nat):List Int:=hd9 (List.replicate vt 1)
def jW (w:List Int)(vt t:Nat):Int:=(w++hd1 vt).getD t 0
theorem oY {w:List Int}{t:Nat}(h:t<w.length):jW w vt t=w.getD t 0:=by
 unfold jW
 rw[Yh,Yh,YF h]
theorem a9L {w:List Int}{t:Nat}(h:¬ t<w.length):jW w vt t=(hd1 vt).getD (t-w.length) 0:=by
 unfold jW
 rw[Yh,Yh,Yv (by omega)]
theorem on9 (h:j<9+vt):(hd1 vt).getD j 0=if j=1 then 0 else 1:=by
 by_cases c:j<9
 ·exact zG _ j c
 ·rw[show j=9+(j-9) by omega,wV,getD_get (by rw[Yu];omega),List.getElem_replicate,if_neg (by omega)]
theorem b8H {t:Nat}(hf:FrN (n,ds))(h:t<(wr n ds).length+(9+vt)):jW (wr n ds) vt t=0\/jW (wr n ds) vt t=1:=by
 by_cases c:t<(wr n ds).length
 ·rw[oY c,getD_get c]
  exact(lW hf).wbits _ (YR c)
 ·rw[a9L c,on9 (by omega)]
  by_cases d:t-(wr n ds).length=1
  ·exact .inl (if_pos d)
  ·exact .inr (if_neg d)
def stQ (S:PS)(n1:Nat)(ds1:List Int)(n:Nat)(ds:List Int)(k t:Nat):PS:=
 if t=0 then S else if t<=k then { S with now:= .speaks n1 ds1 t } else if t<(wr n ds).length then { S with now:= .reads ((wr n ds).take t) } else if t<(wr n ds).length+(9+S.vt) then { S with now:= .tlR n ds (t-(wr n ds).length) (nz (hd1 S.vt) (t-(wr n ds).length)) } else { S with up:=if jC S n=true then S.up++[(n,ds)] else S.up,now:= .rests 3 }
def wdQ (k e t:Nat):Str:=if t=0 then "begins" else if t=k then "loses" else if t=e then "takes" else ""
theorem b5J {n1:Nat}{ds1:List Int}{t:Nat}(e:S.now= .free 0)(hw:S.wt= [(n1,ds1)])(h0:S.tot=0)(hf1:FrN (n1,ds1))(hf:FrN (n,ds))(hv:1<=S.vt)(p:Part (wr n1 ds1) (wr n ds) k)(ht:t<(wr n ds).length+(9+S.vt)):
  jW (wr n ds) S.vt t<=bC (stQ S n1 ds1 n ds k t)/\(t=(wr n ds).length+1->bC (stQ S n1 ds1 n ds k t)=0)/\aY (stQ S n1 ds1 n ds k t) (jW (wr n ds) S.vt t)=(wdQ k ((wr n ds).length+(8+S.vt)) t,stQ S n1 ds1 n ds k (t+1)):=by
 have l2:=jZ hf
 have hk2:k<(wr n ds).length:=by have:=p.k16;omega
 have k1:=p.k1
 have hb:=b8H hf ht
 by_cases c0:t=0
 ·subst c0
  have T:=vK (S:=S) e hw fun c=>by rw[h0]at c;exact absurd c (by decide)
  have b0:jW (wr n ds) S.vt 0=0:=by
   rw[oY (by omega)]
   have:=tW (n:=n) (ds:=ds)
   cases q:wr n ds with
   |nil=>rw[q]at l2;exact absurd l2.1 (by decide)
   |cons x xs=>rw[q]at this;cases this;rfl
  rw[b0]
  unfold stQ wdQ
  rw[if_pos rfl,if_pos rfl,if_neg (by omega),if_pos (by omega)]
  exact⟨Int.le_of_eq T.sa.symm,fun z=>by omega,T.hr⟩
 by_cases c1:t<k
 ·have T:=vJ (S:={ S with now:= .speaks n1 ds1 t }) rfl hf1 (by have:=p.h1;omega)
  have eb:(wr n1 ds1).getD t 0=(wr n ds).getD t 0:=by
   have a:∀w:List Int,w.getD t 0=(w.take k).getD t 0:=fun w=>by rw[Yh,Yh,List.getElem?_take,if_pos c1]
   rw[a,p.tk,<-a]
  have T2:=T.hr
  have T1:=T.sa
  dsimp only at T1 T2
  rw[if_neg (by have:=p.h1;omega)]at T2
  rw[eb]at T1 T2
  rw[oY (by omega)]
  unfold stQ wdQ
  rw[if_neg c0,if_pos (by omega),if_neg c0,if_neg (by omega),if_neg (by omega),if_neg (by omega),if_pos (by omega)]
  exact⟨Int.le_of_eq T1.symm,fun z=>by omega,T2⟩
 by_cases c2:t=k
 ·subst c2
  have e2:(wr n1 ds1).take t++[0]=(wr n ds).take (t+1):=by
   rw[p.tk,Yg hk2,<-getD_get hk2,p.zero]
  rw[oY (by omega),p.zero]
  unfold stQ wdQ
  rw[if_neg c0,if_pos (Yd _),if_neg c0,if_pos rfl,if_neg (by omega),if_neg (by omega),if_pos (by have:=p.k16;omega)]
  refine⟨?_,fun z=>by omega,?_⟩
  ·show 0<=(wr n1 ds1).getD t 0
   rw[p.one];decide
  ·rw[iQ rfl,e2,(lW hf).more (by have:=p.k16;omega),if_neg (by decide +kernel),if_pos ⟨p.one,rfl,p.nine⟩]
 have le1:jW (wr n ds) S.vt t<=1:=by rcases hb with z | z <;> rw[z] <;> decide
 by_cases c3:t<(wr n ds).length
 ·have T:=a0H (S:={ S with now:= .reads ((wr n ds).take t) }) hf (by omega) c3 rfl
  have T2:=T.hr
  dsimp only at T2
  rw[oY c3]at le1 ⊢
  unfold stQ wdQ
  rw[if_neg c0,if_neg (by omega),if_pos c3,if_neg c0,if_neg c2,if_neg (by omega),if_neg (by omega),if_neg (by omega)]
  refine⟨le1,fun z=>by omega,?_⟩
  rw[T2]
  have hkp:kp (wr n ds)=fb (n:Int) ds:=(lW hf).kp
  by_cases c4:t+1=(wr n ds).length
  ·rw[if_pos c4,if_neg (by omega),if_pos (by omega),hkp,a1N hf.1,a1O hf.1 hf.2.1 hf.2.2,c4,Xz]
   rfl
  ·rw[if_neg c4,if_pos (by omega)]
 have tl:=a0W false S.vt
 rw[a9L c3]at le1 ⊢
 unfold stQ wdQ
 rw[if_neg c0,if_neg (by omega),if_neg c3,if_pos ht,if_neg c0,if_neg c2,if_neg (show ¬ t+1=0 by omega),if_neg (show ¬ t+1<=k by omega),if_neg (show ¬ t+1<(wr n ds).length by omega)]
 obtain⟨j,ej⟩:∃j,t-(wr n ds).length=j:=⟨_,rfl⟩
 have hj:j<9+S.vt:=by omega
 rw[ej]
 have hs:bC { S with now:= .tlR n ds j (nz (hd1 S.vt) j) }=(hd1 S.vt).getD j 0:=by
  show eQ false j=_
  rw[on9 hj]
  unfold eQ
  by_cases d:j=1
  ·rw[if_pos ⟨d,rfl⟩,if_pos d]
  ·rw[if_neg fun z=>d z.1,if_neg d]
 refine⟨by rw[hs];exact Int.le_refl _,fun z=>?_,?_⟩
 ·rw[hs,show j=1 by omega];rfl
 by_cases c4:j<8+S.vt
 ·rw[if_neg (by omega),if_pos (by omega),show t+1-(wr n ds).length=j+1 by omega,jF rfl]
  show (if aZ S.vt false j (nz (hd1 S.vt) j) ((hd1 S.vt).getD j 0)="more" then _ else _)=_
  rw[if_pos (tl.more c4)]
  rfl
 ·have ej8:j=8+S.vt:=by omega
  subst ej8
  rw[if_pos (by omega),if_neg (by omega)]
  have w:=tl.last hv
  rw[a0V,if_neg (Xi _)]at w
  rw[jF rfl]
  show (if aZ S.vt false (8+S.vt) (nz (hd1 S.vt) (8+S.vt)) ((hd1 S.vt).getD (8+S.vt) 0)="more" then _ else _)=_
  rw[if_neg (by rw[w];decide +kernel)]
  show (if aZ S.vt false (8+S.vt) (nz (hd1 S.vt) (8+S.vt)) ((hd1 S.vt).getD (8+S.vt) 0)="fault" then _ else _)=_
  rw[if_neg (by rw[w];decide +kernel)]
  show (if aZ S.vt false (8+S.vt) (nz (hd1 S.vt) (8+S.vt)) ((hd1 S.vt).getD (8+S.vt) 0)="refused" then _ else _)=_
  rw[if_neg (by rw[w];decide +kernel)]
  show (("takes",{ S with tot:=mvd S.tot (-1),up:=if jC S n=true then S.up++[(n,ds)] else S.up,now:= .rests 3 }):Str×PS)=_
  rw[h0,b4A,<-h0]
def stN (S:PS)(n:Nat)(ds:List Int)(t:Nat):PS:=
 if t=0 then S else if t<(wr n ds).length then { S with now:= .speaks n ds t } else if t<(wr n ds).length+(9+S.vt) then { S with now:= .tlS (t-(wr n ds).length) (nz (hd1 S.vt) (t-(wr n ds).length)) } else { S with wt:=[],now:= .rests 3 }
def wdN (e t:Nat):Str:=if t=0 then "begins" else if t=e then "done" else ""
theorem b5K {t:Nat}(e:S.now= .free 0)(hw:S.wt= [(n,ds)])(h0:S.tot=0)(hf:FrN (n,ds))(hv:1<=S.vt)(ht:t<(wr n ds).length+(9+S.vt)):
  bC (stN S n ds t)=(if t<(wr n ds).length then jW (wr n ds) S.vt t else 1)/\aY (stN S n ds t) (jW (wr n ds) S.vt t)=(wdN ((wr n ds).length+(8+S.vt)) t,stN S n ds (t+1)):=by
 have l2:=jZ hf
 by_cases c0:t=0
 ·subst c0
  have T:=vK (S:=S) e hw fun c=>by rw[h0]at c;exact absurd c (by decide)
  have b0:jW (wr n ds) S.vt 0=0:=by
   rw[oY (by omega)]
   have:=tW (n:=n) (ds:=ds)
   cases q:wr n ds with
   |nil=>rw[q]at l2;exact absurd l2.1 (by decide)
   |cons x xs=>rw[q]at this;cases this;rfl
  rw[b0]
  unfold stN wdN
  rw[if_pos rfl,if_pos rfl,if_pos (by omega),if_neg (by omega),if_pos (by omega)]
  exact⟨T.sa,T.hr⟩
 by_cases c3:t<(wr n ds).length
 ·have T:=vJ (S:={ S with now:= .speaks n ds t }) rfl hf c3
  have T2:=T.hr
  dsimp only at T2
  rw[oY c3]
  unfold stN wdN
  rw[if_neg c0,if_pos c3,if_pos c3,if_neg c0,if_neg (by omega),if_neg (by omega)]
  refine⟨T.sa,?_⟩
  rw[T2]
  by_cases c4:t+1=(wr n ds).length
  ·rw[if_pos c4,if_neg (by omega),if_pos (by omega),c4,Xz]
   rfl
  ·rw[if_neg c4,if_pos (by omega)]
 have tl:=a0W true S.vt
 rw[a9L c3]
 unfold stN wdN
 rw[if_neg c0,if_neg c3,if_pos ht,if_neg c3,if_neg c0,if_neg (show ¬ t+1=0 by omega),if_neg (show ¬ t+1<(wr n ds).length by omega)]
 obtain⟨j,ej⟩:∃j,t-(wr n ds).length=j:=⟨_,rfl⟩
 have hj:j<9+S.vt:=by omega
 rw[ej]
 refine⟨if_neg fun z=>(by cases z.2),?_⟩
 by_cases c4:j<8+S.vt
 ·rw[if_neg (by omega),if_pos (by omega),show t+1-(wr n ds).length=j+1 by omega,iH rfl]
  show (if aZ S.vt true j (nz (hd1 S.vt) j) ((hd1 S.vt).getD j 0)="more" then _ else _)=_
  rw[if_pos (tl.more c4)]
  rfl
 ·have ej8:j=8+S.vt:=by omega
  subst ej8
  rw[if_pos (by omega),if_neg (by omega)]
  have w:=tl.last hv
  rw[a0V,if_neg (Xi _)]at w
  rw[iH rfl]
  show (if aZ S.vt true (8+S.vt) (nz (hd1 S.vt) (8+S.vt)) ((hd1 S.vt).getD (8+S.vt) 0)="more" then _ else _)=_
  rw[if_neg (by rw[w];decide +kernel)]
  show (if aZ S.vt true (8+S.vt) (nz (hd1 S.vt) (8+S.vt)) ((hd1 S.vt).getD (8+S.vt) 0)="fault" then _ else _)=_
  rw[if_neg (by rw[w];decide +kernel)]
  show (if aZ S.vt true (8+S.vt) (nz (hd1 S.vt) (8+S.vt)) ((hd1 S.vt).getD (8+S.vt) 0)="refused" then _ else _)=_
  rw[if_neg (by rw[w];decide +kernel)]
  show (("done",{ S with tot:=mvd S.tot (-1),wt:=S.wt.tail,now:= .rests 3 }):Str×PS)=_
  rw[h0,b4A,<-h0,hw]
  rfl
def evA (wd:Nat->Nat->Str)(t:Nat):Nat->List (Nat×Nat×Str)
 |0=>[]
 |n+1=>evA wd t n++evt t n (wd n t)
def evR (wd:Nat->Nat->Str)(m:Nat):Nat->List (Nat×Nat×Str)
 |0=>[]
 |t+1=>evR wd m t++evA wd t m
structure b2Z (R0 R:RS)(m:Nat)(tr:Nat->Nat->PS)(bs:Nat->Int)(wd:Nat->Nat->Str)(t:Nat):Prop where
 ln:R.ps.length=m
 ps:∀i,i<m->R.ps[i]? =some (tr i t)
 bo:R.bo=(List.range t).map bs
 ev:R.ev=evR wd m t
 ow:R.ow=R0.ow
 l2:R.sa.length=m
 l4:R.he.length=m
 sa:∀x∈R.sa,x.length<=t
 he:∀x∈R.he,x.length<=t
theorem jQ {t:Nat}(h:∀x∈xs,x.length<=t)(hy:y.length<=t):∀x∈xs.set i y,x.length<=t:=fun x hx=>(List.mem_or_eq_of_mem_set hx).elim (h x) fun z=>z▸hy
theorem a8P {R:RS}{t:Nat}{tr:Nat->Nat->PS}{bs:Nat->Int}{wd:Nat->Nat->Str}(hl:R.ps.length=m)(hp:∀i,i<m->R.ps[i]? =some (tr i t))(l2:R.sa.length=m)(l4:R.he.length=m)(hb:R.bo.length=t)(st:∀i,i<m->aY (tr i t) (bs t)=(wd i t,tr i (t+1)))(sa:∀x∈R.sa,x.length<=t)(he:∀x∈R.he,x.length<=t):
  ∀n:Nat,n<=m->(∀i,i<n->(bG R ((List.range m).map fun _=>bs t) n).ps[i]? =some (tr i (t+1)))/\(bG R ((List.range m).map fun _=>bs t) n).ev=R.ev++evA wd t n/\(∀x∈(bG R ((List.range m).map fun _=>bs t) n).sa,x.length<=t+1)/\∀x∈(bG R ((List.range m).map fun _=>bs t) n).he,x.length<=t+1
 |0,_=>⟨fun i hi=>absurd hi (Xi _),(YS _).symm,fun x hx=>Xo (sa x hx),fun x hx=>Xo (he x hx)⟩
 | n + 1,h=>by
  obtain⟨h1,h2,h3,h4⟩:=a8P hl hp l2 l4 hb st sa he n (by omega)
  have e1:=hp n (by omega)
  have e2:((List.range m).map fun _=>bs t)[n]? =some (bs t):=by rw[Yl,Xh (by omega)];rfl
  obtain⟨x,e3⟩:∃x,R.sa[n]? =some x:=⟨_,Yb (by omega)⟩
  obtain⟨y,e4⟩:∃y,R.he[n]? =some y:=⟨_,Yb (by omega)⟩
  have hx:=sa x (Yx e3)
  have hy:=he y (Yx e4)
  rw[jV e1 e2 e3 e4]
  unfold rK
  rw[st n (by omega)]
  refine⟨fun i hi=>?_,?_,jQ h3 (by rw[Yc];exact Xk hx),jQ h4 (by rw[Yc];exact Xk hy)⟩
  ·show ((bG R _ n).ps.set n (tr n (t+1)))[i]? =_
   rw[XB]
   by_cases c:n=i
   ·subst c
    rw[if_pos rfl,if_pos (by rw[(gK R _ n).2.2.1];omega)]
   ·rw[if_neg c]
    exact h1 i (by omega)
  ·show (bG R _ n).ev++evt R.bo.length n (wd n t)=_
   rw[h2,hb,YJ]
   rfl
theorem b3T {R:RS}{e:Nat}{tr:Nat->Nat->PS}{bs:Nat->Int}{wd:Nat->Nat->Str}(h0:b2Z R R m tr bs wd 0)(st:∀t,t<e->∀i,i<m->aY (tr i t) (bs t)=(wd i t,tr i (t+1)))(b01:∀t,t<e->bs t=0\/bs t=1)(le:∀t,t<e->∀i,i<m->bs t<=bC (tr i t))(at_:∀t,t<e->∃i,i<m/\bC (tr i t)=bs t):∀t,t<=e->b2Z R (gA R t) m tr bs wd t/\(t<e->xN (gA R t)=bs t)
 | t, ht =>by
  have A :b2Z R (gA R t) m tr bs wd t:=by
   cases t with
   |zero=>exact h0
   | succ t=>
    obtain⟨a,ab⟩:=b3T h0 st b01 le at_ t (by omega)
    have eb:=ab (by omega)
    have g:=gK (gA R t) ((List.range m).map fun _=>bs t) m
    obtain⟨x1,x2,x3,x4⟩:=a8P a.ln a.ps a.l2 a.l4 (by rw[a.bo,Ya,YN]) (fun i hi=>st t (by omega) i hi) a.sa a.he m (Yd _)
    have es:gA R (t+1)={ bG (gA R t) ((List.range m).map fun _=>bs t) m with bo:=(gA R t).bo++[bs t] }:=by
     show iC (gA R t) _ _=_
     unfold iC
     rw[eb,a.ln]
    rw[es]
    exact⟨g.2.2.1.trans a.ln,x1,by show (gA R t).bo++[bs t]=_;rw[a.bo,Xr,Ym];rfl,by show (bG _ _ m).ev=_;rw[x2,a.ev];rfl,g.2.1.trans a.ow,g.2.2.2.1.trans a.l2,g.2.2.2.2.1.trans a.l4,x3,x4⟩
  refine⟨A,fun h=>?_⟩
  have mem:∀z,z∈(gA R t).ps.map bC↔∃i,i<m/\bC (tr i t)=z:=fun z=>by
   rw[YA]
   constructor
   ·rintro ⟨S,hS,rfl⟩
    obtain⟨i,hi,ei⟩:=Y5 hS
    have hi':i<m:=A.ln▸hi
    have:=A.ps i hi'
    rw[Yb hi,ei]at this
    cases this
    exact⟨i,hi',rfl⟩
   ·rintro ⟨i,hi,rfl⟩
    exact⟨_,Yx (A.ps i hi),rfl⟩
  unfold xN
  obtain⟨i,hi,ei⟩:=at_ t h
  rcases b01 t h with z | z
  ·rw[if_pos ((mem 0).mpr ⟨i,hi,ei.trans z⟩),z]
  ·rw[if_neg fun q=>?_,z]
   obtain⟨j,hj,ej⟩:=(mem 0).mp q
   have:=le t h j hj
   rw[ej,z]at this
   exact absurd this (by decide)
theorem b2M (t n:Nat)(w:Str):(evt t n w).length<=1:=by unfold evt;split <;> simp
theorem uN (wd:Nat->Nat->Str)(t:Nat):∀n,(evA wd t n).length<=n
 |0=>Yd _
 |n+1=>by show (evA wd t n++_).length<=_;rw[Yc];have:=uN wd t n;have:=b2M t n (wd n t);omega
theorem a1Q (wd:Nat->Nat->Str)(h:m<=5):∀t,(evR wd m t).length<=5*t
 |0=>Yd _
 |t+1=>by show (evR wd m t++_).length<=_;rw[Yc];have:=a1Q wd h t;have:=uN wd t m;omega
abbrev nI (xs:List Nat):List Int:=xs.map fun n=>((n:Nat):Int)
theorem tH:∀(N:Nat)(xs:List Nat),xs.length<N->∃y,y<N/\¬ y∈xs
 |0,_,h=>absurd h (Xi _)
 | N +1,xs,h=>by
  by_cases c:N∈xs
  ·obtain⟨y,hy,ny⟩:=tH N (xs.erase N) (by rw[List.length_erase_of_mem c];have:=List.length_pos_of_mem c;omega)
   exact⟨y,by omega,fun z=>ny ((List.mem_erase_of_ne (by omega)).mpr z)⟩
  ·exact⟨N,YW _,c⟩
theorem a7X {x:Nat}{xs:List Nat}:((x:Nat):Int)∈nI xs↔x∈xs:=by
 constructor
 ·intro h
  obtain⟨y,hy,e⟩:=YA.mp h
  rw[show x=y by omega];exact hy
 ·exact fun h=>YA.mpr ⟨x,h,rfl⟩
theorem a0G:∀(k a b:Nat),a<2 ^ k->b<a->∃s,s<k/\(∀j,s<j->a.testBit j=b.testBit j)/\a.testBit s=true/\b.testBit s=false
 |0,a,b,h,h2=>by rw[Nat.pow_zero]at h;omega
 | k + 1,a,b,h,h2=>by
  rw[XI]at h
  by_cases c:b / 2<a / 2
  ·obtain⟨s,s1,s2,s3,s4⟩:=a0G k (a / 2) (b / 2) (by omega) c
   refine⟨s+1,by omega,fun j hj=>?_,by rw[XF];exact s3,by rw[XF];exact s4⟩
   cases j with
   |zero=>omega
   |succ j=>rw[XF,XF];exact s2 j (by omega)
  ·have e:a / 2=b / 2:=by omega
   refine⟨0,by omega,fun j hj=>?_,?_,?_⟩
   ·cases j with
    |zero=>omega
    |succ j=>rw[XF,XF,e]
   ·rw[Nat.testBit_zero];exact Ye (by omega)
   ·rw[Nat.testBit_zero];exact Yi (by omega)
theorem a8E {x:Nat}(h:x<2 ^ (k+1))(t:x.testBit k=false):x<2 ^ k:=by
 rcases Nat.lt_or_ge x (2 ^ k) with z | z
 ·exact z
 ·have p:=XY k
  have h1:x / 2 ^ k=1:=by
   have a:1<=x / 2 ^ k:=(Nat.le_div_iff_mul_le p).mpr (by omega)
   have b:x / 2 ^ k<2:=Nat.div_lt_of_lt_mul (by rw[XI]at h;exact h)
   omega
  rw[Y2,h1]at t
  exact absurd t (by decide)
def dvS (x k:Nat):Nat:=if x.testBit k=true then x ^^^ 64647 <<< (k-15) else x
theorem b7S {x N:Nat}(hk:15<=k)(h9:k<=90)(h:x<2 ^ (k+1))(e:R x=N):dvS x k<2 ^ k/\R (dvS x k)=N:=by
 unfold dvS
 by_cases c:x.testBit k=true
 ·rw [if_pos c]
  refine⟨a8E ?_ ?_,by rw[a9R (by omega)];exact e⟩
  ·refine Jg h ?_
   rw[Xl,show k+1=16+(k-15) by omega,Nat.pow_add]
   exact Nat.mul_lt_mul_of_pos_right (by decide) (XY _)
  ·rw[XW,c,X3,show k-(k-15)=15 by omega,Ye (by omega)]
   decide
 ·rw[if_neg c]
  exact⟨a8E h (Bool.not_eq_true _▸c),e⟩
def dvN (x:Nat):Nat->Nat
 |0=>x
 |i+1=>dvS (dvN x i) (90-i)
theorem zK {x:Nat}(h:x<2 ^ 91):∀i,i<=76->dvN x i<2 ^ (91-i)/\R (dvN x i)=R x
 |0,_=>⟨h,rfl⟩
 | i+1,hi=>by
  obtain⟨a,b⟩:=zK h i (by omega)
  have:=b7S (x:=dvN x i) (k:=90-i) (by omega) (by omega) (by rw[show 90-i+1=91-i by omega];exact a) b
  rw[show 91-(i+1)=90-i by omega]
  exact this
theorem b3Z {d:Int}(h:byt d=true):nm (b8 d)=d.toNat:=by
 have:=fY.mp h
 exact fV (by show d.toNat<256;omega)
theorem b6W (hn:n<256)(hk:k<8):nm (hdD ((n:Nat):Int) k [])=n*8+k:=by
 unfold hdD
 rw[List.map_nil,List.flatten_nil,YS,qL (fZ (fun b hb=> .inl (Yn.mp hb)) (nH _)) (gC _ _),cC,fV (show k<2 ^ 3 from hk),qL (fun b hb=> .inl (Yn.mp hb)) (nH _),b3Z (fY.mpr ⟨by omega,by omega⟩),YB]
 have:nm [0]=0:=rfl
 rw[this]
 omega
theorem b6V {n:Int}{d:Int}(h:byt d=true):nm (hdD n k (ds++[d]))=nm (hdD n k ds)*256+d.toNat:=by
 rw[wU,qL (nA _ _ _) (nH _),iZ,b3Z h,Nat.mul_comm]
theorem b4F {n:Int}(hl:ds.length<=7):nm (hd n ds)*32768<2 ^ 91:=by
 have h:=lX (nA n ds.length ds)
 rw[pN]at h
 have h2:2 ^ (12+8*ds.length)<=2 ^ 68:=Yy (by decide) (by omega)
 show nm (hdD n ds.length ds)*32768<2 ^ 91
 omega
theorem b7R {n:Int}(hl:ds.length<=7):dvN (nm (hd n ds)*32768) 76=ckn (hd n ds):=by
 obtain⟨a,b⟩:=zK (b4F (n:=n) hl) 76 (by decide)
 have e:ckn (hd n ds)=R (nm (hd n ds)*32768):=by
  unfold ckn rst
  rw[qL (mZ _ _) (tU 15),b3Y,Nat.add_zero,show (zs 15).length=15 from rfl,Nat.mul_comm]
 rw[e,<-b,pU a]
theorem c0F {n:Int}:nm (fb n ds)=nm (hd n ds)*32768+ckn (hd n ds):=by
 unfold fb
 rw[qL (mZ _ _) (a1Z _),zN,Nat.mul_comm]
 unfold ck
 rw[fV (yO _)]
theorem b7P {n:Int}(h:i<27+8*ds.length):(fb n ds)[i]? =some (fG (nm (fb n ds)) (26+8*ds.length-i)):=by
 have e:=a9N (pO n ds)
 have hl:=oH n ds
 rw[hl]at e
 rw[<-e,fV (by have:=lX (pO n ds);rw[hl]at this;exact this)]
 unfold bN
 rw[Yl,Xh h,X8,show 27+8*ds.length-1-i=26+8*ds.length-i by omega]
theorem rC (x k:Nat):Builtin.bitAnd (((x:Nat):Int) / 2 ^ ((k:Nat):Int).toNat) 1=fG x k:=b4J x k
theorem a3A {l:Nat}(h:l<=7):Builtin.Range.rangeSize ((26:Int)+8*((l:Nat):Int)) (-1) (-1)=((27+8*l:Nat):Int):=by
 have:l=0\/l=1\/l=2\/l=3\/l=4\/l=5\/l=6\/l=7:=by omega
 rcases this with rfl | rfl | rfl | rfl | rfl | rfl | rfl | rfl <;> decide
theorem b0X {l:Nat}(h:l<=7):Builtin.divisionGoesByPylong (-1-((26:Int)+8*((l:Nat):Int))) (-1)=false:=by
 have:l=0\/l=1\/l=2\/l=3\/l=4\/l=5\/l=6\/l=7:=by omega
 rcases this with rfl | rfl | rfl | rfl | rfl | rfl | rfl | rfl <;> decide
theorem yM {l:Nat}(h:l<=7):Builtin.Range.small ((26:Int)+8*((l:Nat):Int)) (-1) (-1)=true:=by
 have:l=0\/l=1\/l=2\/l=3\/l=4\/l=5\/l=6\/l=7:=by omega
 rcases this with rfl | rfl | rfl | rfl | rfl | rfl | rfl | rfl <;> decide
structure J95 (C:Addr)(A:Cs)(P:Addr)(F H:Hp)(r:Addr)(R:RS)(o:Own):Prop where
 rl:jA C A H r R o
 tb:jX P o H
 kp:∀x u,F x=some u->H x=some u/\¬ o x/\x≠P
section
variable {P:Addr}{F F':Hp}{l l':Addr}{R R':RS}{vs':List V}
theorem J95.sm (h:J95 C A P F H r R o):Same F H:=fun x u e=>(h.kp x u e).1
theorem J95.same (h:J95 C A P F H r R o)(g:Same H H'):J95 C A P F H' r R o:=⟨let ⟨w,x⟩:=h.rl;⟨w,x.same g⟩,h.tb.same g,fun x u e=>⟨g _ _ (h.kp x u e).1,(h.kp x u e).2⟩⟩
theorem J95.mv (h:J95 C A P F H r R o)(hR:jA C A H' r R' o')(m:Mv o H o' H'):J95 C A P F H' r R' o':=⟨hR,h.tb.mv m,fun x u e=>let ⟨a,b,c⟩:=h.kp x u e;⟨m.1 _ _ a (.inl b),m.out a b,c⟩⟩
theorem J95.turn (h:J95 C A P F H r R o)(hR:jA C A H' r R' o')(t:jX P o' H')(m:MvP P o H o' H'):J95 C A P F H' r R' o':=⟨hR,t,fun x u e=>let ⟨a,b,c⟩:=h.kp x u e;⟨m.1 _ _ a (.inl fun z=>z.elim b c),fun z=>m.out a (fun z=>z.elim b c) (.inl z),c⟩⟩
end
theorem gP.get:∀{vs:List V}{es:List (Nat×Nat×Str)},gP H vs es->∀{i:Nat}{v:V},vs[i]? =some v->∃t e,v= .ref t/\es[i]? =some e/\H t=some (.tup [.int ((e.1:Nat):Int),.int ((e.2.1:Nat):Int),.str e.2.2])
 |_,_,.cons a _,0,_,rfl=>⟨_,_,rfl,rfl,a⟩
 |_,_,.cons _ q,i+1,_,h=>q.get (i:=i) h
theorem pR {wr:Nat->Nat->Bool}{p:Nat}(h:(St m wr p i).1≠0):(St m wr (p+1) i).1=(St m wr p i).1:=by
 show (if (St m wr p i).1=0/\_ then p+1 else (St m wr p i).1)=_
 rw[if_neg fun z=>h z.1]
theorem a9P {wr:Nat->Nat->Bool}{p:Nat}(h:(St m wr p i).1=0):(St m wr (p+1) i).1=if flB i p (Vd.hd (least m p (St m wr p)) (wr i p))=true then p+1 else 0:=by
 show (if (St m wr p i).1=0/\flB i p (Vd.hd (least m p (St m wr p)) (wr i p))=true then p+1 else (St m wr p i).1)=_
 by_cases c:flB i p (Vd.hd (least m p (St m wr p)) (wr i p))=true
 ·rw[if_pos ⟨h,c⟩,if_pos c]
 ·rw[if_neg fun z=>c z.2,if_neg c,h]
theorem vA {wr:Nat->Nat->Bool}{f:Nat}:∀p,(St m wr p i).1=f+1->∀r,f+1<=r->r<=p->(St m wr r i).1=f+1
 |0,h,_,_,_=>by cases h
 | p + 1,h,r,h1,h2=>by
  by_cases c:r=p+1
  ·rw[c];exact h
  ·by_cases d:(St m wr p i).1=0
   ·rw[a9P d]at h
    split at h
    ·omega
    ·cases h
   ·rw[pR d]at h
    exact vA p h r h1 (by omega)
theorem a2C {wr:Nat->Nat->Bool}:∀p,(St m wr p j).1=0->∀r,r<p->(St m wr r j).1=0/\flB j r (Vd.hd (least m r (St m wr r)) (wr j r))=false
 |0,_,_,h=>absurd h (Xi _)
 | p + 1,h,r,hr=>by
  have d:(St m wr p j).1=0:=YD fun d=>d ((pR d).symm.trans h)
  by_cases c:r=p
  ·subst c
   refine⟨d,?_⟩
   rw[a9P d]at h
   split at h
   ·cases h
   ·rename_i z
    exact Bool.not_eq_true _▸z
  ·exact a2C p d r (by omega)
theorem wQ {p:Nat}(hi:i<m)(h:sdB (F i).1 i p=false):least m p F=false:=by
 unfold least
 exact List.all_eq_false.mpr ⟨i,YU.mpr hi,by rw[h];decide⟩
theorem a9Z {wr:Nat->Nat->Bool}{p f r:Nat}(hi:i<m)(hf:(St m wr p i).1=f+1)(hj:(St m wr p j).1=0)(h1:f+1<=r)(h2:r<=f+6)(hp:r<p)(h3:r≠1)(h4:r<9):wr j r=true:=by
 have e:=vA p hf r h1 (by omega)
 have l:least m r (St m wr r)=false:=wQ hi (by
  rw[e]
  unfold sdB
  rw[if_neg (by omega)]
  exact Yi (by omega))
 have z:=(a2C p hj r hp).2
 rw[l]at z
 unfold flB at z
 rw[if_neg h3,Ye h4]at z
 cases w:wr j r with
 |true=>rfl
 |false=>rw[w]at z;cases z
theorem a2D {wr:Nat->Nat->Bool}{p0:Nat}(m2:2<=m)(h:∀i r,r<p0->wr i r=false):∀p,p<=p0->p<=9->∀i,St m wr p i=(0,0)
 |0,_,_,_=>rfl
 | p + 1,h1,h2,i=>by
  have ih:=a2D m2 h p (by omega) (by omega)
  have e:St m wr (p+1) i=nx1 i p (Vd.hd (least m p (St m wr p)) (wr i p)) (St m wr p i):=rfl
  have hl:least m p (St m wr p)= !decide (p=1):=by
   by_cases c:p=1
   ·rw[Ye c]
    exact wQ (i:=1) (by omega) (by rw[ih,c];rfl)
   ·rw[Yi c]
    refine YQ.mpr fun k _=>?_
    rw[ih]
    unfold sdB
    rw[if_pos rfl,Yi c]
    rfl
  rw[e,ih,hl,h i p (by omega)]
  have e2:Vd.hd (!decide (p=1)) false= !decide (p=1):=rfl
  rw[e2]
  unfold nx1 flB
  by_cases c:p=1
  ·rw[if_pos c,Ye c,Bool.not_true,Jd,if_neg (by simp),if_neg (by omega)]
  ·rw[if_neg c,Yi c,Bool.not_false,Bool.not_true,Jd,if_neg (by simp),if_neg (by simp)]
theorem sub_len {α:Type}[DecidableEq α]:∀{l ps:List α},l.Nodup->(∀x∈l,x∈ps)->l.length<=ps.length
 |[],_,_,_=>Xu _
 | a::t,ps,nd,h=>by
  obtain⟨n1,n2⟩:=Y0.mp nd
  have ha:=h a YC
  have:=sub_len (l:=t) (ps:=ps.erase a) n2 fun x hx=>(List.mem_erase_of_ne fun (z:x=a)=>n1 (z▸hx)).mpr (h x (Yw _ hx))
  rw[List.length_erase_of_mem ha]at this
  have:=List.length_pos_of_mem ha
  show t.length+1<=_
  omega
def sG (j a k:Nat):List (Int×Int):=(List.range k).map fun i=>(((j:Nat):Int),((a+i:Nat):Int))
theorem a6T (j a:Nat):∀k,(sG j a k).Nodup:=fun k=>by
 unfold sG
 refine(List.pairwise_map.mpr ?_:List.Pairwise _ _)
 refine List.Pairwise.imp (R:=fun x y=>x<y) (fun {x y} h z=>?_) List.pairwise_lt_range
 have:=(Prod.mk.inj z).2
 omega
theorem a4K {wr:Nat->Nat->Bool}(l4:ps.length<=4)(m2:2<=m)(hw:∀i r,wr i r=true->(((i:Nat):Int),((r:Nat):Int))∈ps){p i j f:Nat}(hi:i<m)(hf:(St m wr p i).1=f+1)(hp:f+9<=p)(p13:p<=13):(St m wr p j).1≠0:=by
 intro hj
 have need:∀r,f+1<=r->r<=f+6->r≠1->r<9->(((j:Nat):Int),((r:Nat):Int))∈ps:=fun r h1 h2 h3 h4=>hw j r (a9Z hi hf hj h1 h2 (by omega) h3 h4)
 have rows:∀a k,(∀r,a<=r->r<a+k->f+1<=r/\r<=f+6/\r≠1/\r<9)->∀x∈sG j a k,x∈ps:=fun a k h x hx=>by
  obtain⟨i,hi,rfl⟩:=YA.mp hx
  have:=YU.mp hi
  obtain⟨a1,a2,a3,a4⟩:=h (a+i) (by omega) (by omega)
  exact need _ a1 a2 a3 a4
 have five:∀a,(∀r,a<=r->r<a+5->f+1<=r/\r<=f+6/\r≠1/\r<9)->False:=fun a h=>by
  have:=sub_len (a6T j a 5) (rows a 5 h)
  have:(sG j a 5).length=5:=rfl
  omega
 have fc:f=0\/f=1\/f=2\/f=3\/f=4:=by omega
 rcases fc with rfl | rfl | rfl | rfl | rfl
 ·exact five 2 fun r _ _=>by omega
 ·exact five 3 fun r _ _=>by omega
 ·exact five 4 fun r _ _=>by omega
 ·exact five 4 fun r _ _=>by omega
 have four:=rows 5 4 fun r _ _=>by omega
 have calm:=a2D (wr:=wr) (p0:=5) m2 (fun i' r' hr=>by
  cases w:wr i' r' with
  |false=>rfl
  | true =>
   have h5:=sub_len (l:=(((i':Nat):Int),((r':Nat):Int))::sG j 5 4) (ps:=ps) (Y0.mpr ⟨fun z=>by
    obtain⟨k,_,e⟩:=YA.mp z
    have:=(Prod.mk.inj e).2
    omega,a6T j 5 4⟩) fun x hx=>by
     rcases YG.mp hx with z | z
     ·rw[z];exact hw _ _ w
     ·exact four x z
   have:((((i':Nat):Int),((r':Nat):Int))::sG j 5 4).length=5:=rfl
   omega) 5 (Yd _) (by decide) i
 have:=vA p hf 5 (Yd _) (by omega)
 rw[calm]at this
 cases this
theorem b3D:("off":Str)≠"takes"/\("off":Str)≠"done":=by decide +kernel
theorem b3H:("begins":Str)≠"takes"/\("begins":Str)≠"done":=by decide +kernel
theorem b3F:("loses":Str)≠"takes"/\("loses":Str)≠"done":=by decide +kernel
theorem b3G:("fault":Str)≠"takes"/\("fault":Str)≠"done":=by decide +kernel
theorem b3E:("":Str)≠"takes"/\("":Str)≠"done":=by decide +kernel
def vC (p:Nat)(S:PS):Prop:=match S.now with
 |.speaks n ds k=>FrN (n,ds)/\k<=p
 |.reads h=>h.length<=p
 |.tlS _ _=>False
 |.tlR _ _ _ _=>False
 |_=>True
theorem a2I {w:List Int}(h:ans w="whole"):27<=w.length:=by
 have h1:=(nM h).1.2
 have h2:=uI w
 omega
structure b8P (S:PS)(r:Str×PS)(p:Nat):Prop where
 dd:vC p r.2
 up:r.2.up=S.up
 wt:r.2.wt=S.wt
 vt:r.2.vt=S.vt
 w1:r.1≠"takes"
 w2:r.1≠"done"
theorem tE {st:Int}{w:Str}{nx:Stc}{p:Nat}(h:vC p { S with tot:=mvd S.tot st,now:=nx })(w1:w≠"takes")(w2:w≠"done"):b8P S (dF S st w nx) p:=by
 unfold dF
 split
 ·exact⟨trivial,rfl,rfl,rfl,b3D.1,b3D.2⟩
 ·exact⟨h,rfl,rfl,rfl,w1,w2⟩
theorem iI {p:Nat}:b8P S (cT S sp) p:=tE (show True from trivial) (by decide +kernel) (by decide +kernel)
theorem a4F {p:Nat}(h:vC p S)(hp:p<=14)(hf:∀f∈S.wt,FrN f):b8P S (aY S b) (p+1):=by
 have no:("":Str)≠"takes":=by decide +kernel
 have no2:("":Str)≠"done":=by decide +kernel
 unfold vC at h
 cases en:S.now with
 | free k =>
  rw[lL en]
  by_cases c:bC S=0
  ·rw [if_pos c]
   by_cases d:b=0
   ·rw [if_pos d]
    refine⟨⟨?_,by omega⟩,rfl,rfl,rfl,b3H.1,b3H.2⟩
    cases e:S.wt with
    | nil=>
     unfold bC at c
     rw[en]at c
     dsimp only at c
     rw[if_pos e]at c
     cases c
    |cons f r=>exact hf f (by rw[e];exact YC)
   ·rw[if_neg d];exact iI
  ·rw[if_neg c]
   by_cases d:b=0
   ·rw[if_pos d];exact⟨(show 1<=p+1 by omega),rfl,rfl,rfl,no,no2⟩
   ·rw[if_neg d];exact⟨trivial,rfl,rfl,rfl,no,no2⟩
 | speaks n ds k=>
  rw[en]at h
  obtain⟨h1,h2⟩:=h
  have l:=jZ h1
  rw[iQ en]
  split
  ·exact iI
  split
  ·refine⟨?_,rfl,rfl,rfl,b3F.1,b3F.2⟩
   show ((wr n ds).take k++[b]).length<=p+1
   rw[Yc,Yr,Yt]
   omega
  split
  ·rw[if_neg (by omega)]
   exact⟨⟨h1,by omega⟩,rfl,rfl,rfl,no,no2⟩
  ·exact iI
 | reads u=>
  rw[en]at h
  have hl:u.length<=p:=h
  have el:(u++[b]).length=u.length+1:=by rw[Yc];rfl
  rw[lZ en]
  split
  ·exact⟨(show (u++[b]).length<=p+1 by omega),rfl,rfl,rfl,no,no2⟩
  split
  ·rename_i z
   have:=a2I z
   omega
  ·exact iI
 |tlS v c=>rw[en]at h;exact h.elim
 |tlR n ds v c=>rw[en]at h;exact h.elim
 |flag l m=>rw[lM en];split <;> exact⟨trivial,rfl,rfl,rfl,no,no2⟩
 | settles m=>
  rw[jU en]
  split
  ·exact⟨trivial,rfl,rfl,rfl,no,no2⟩
  split
  ·exact tE (show True from trivial) no no2
  ·exact⟨(by show vC (p+1) S;unfold vC;rw[en];trivial),rfl,rfl,rfl,no,no2⟩
 | rests l=>
  rw[qP en]
  split
  ·exact iI
  ·refine⟨?_,rfl,rfl,rfl,no,no2⟩
   by_cases c:l=1
   ·rw[if_pos c];exact trivial
   ·rw[if_neg c];exact trivial
 |off=>rw[wR en];exact⟨(by show vC (p+1) S;unfold vC;rw[en];trivial),rfl,rfl,rfl,no,no2⟩
structure jJ (T:PS)(sp:Bool)(n:Nat)(ds:List Int)(p:Nat)(s:Nat×Nat)(S:PS):Prop where
 ok:s.1=0->S={ T with now:=if sp=true then .tlS p s.2 else .tlR n ds p s.2 }
 no:∀f,s.1=f+1->vC p S/\S.up=T.up/\S.wt=T.wt/\S.vt=T.vt/\f+1<=p/\(p<=f+6->∃m,S.now= .flag (f+7-p) m)/\(p=f+7->∃m,S.now= .settles m)/\(p=f+8->(∃m,S.now= .settles m)\/S.now= .rests 3\/S.now= .off)
theorem a9O (b:Bool):(bI b=0)=(b=false):=by cases b <;> simp[bI]
theorem a5D {p:Nat}{b:Bool}:tlN p (bI b) s.2=(nx1 i p b s).2:=by
 unfold tlN nx1
 dsimp only
 by_cases c:9<=p/\b=false
 ·rw[if_pos c,if_pos ⟨c.1,Eq.mpr (a9O b) c.2⟩]
 ·rw[if_neg c,if_neg fun z=>c ⟨z.1,Eq.mp (a9O b) z.2⟩]
theorem jJ.says {p:Nat}(h:jJ T sp n ds p s S)(hi:sp=decide (i=0))(hp:∀f,s.1=f+1->p<=f+8):bC S=bI (sdB s.1 i p):=by
 cases e:s.1 with
 | zero=>
  rw[h.ok e]
  have e1:bC { T with now:=if sp=true then .tlS p s.2 else .tlR n ds p s.2 }=eQ sp p:=by cases sp <;> rfl
  rw[e1,hi]
  unfold eQ sdB
  rw[if_pos rfl]
  by_cases c:p=1
  ·by_cases d:i=0
   ·rw[Ye c,Ye d,d,if_neg (by simp)];rfl
   ·rw[Ye c,Yi d,if_pos ⟨c,rfl⟩,Ye (by omega)];rfl
  ·rw[if_neg fun z=>c z.1,Yi c];rfl
 | succ f=>
  obtain⟨_,_,_,_,h0,h1,h2,h3⟩:=h.no f e
  have h8:=hp f e
  unfold sdB
  rw[if_neg (by omega)]
  by_cases c:p<=f+6
  ·obtain⟨m,en⟩:=h1 c
   rw[Yi (by omega)]
   unfold bC
   rw[en]
   rfl
  ·rw [Ye (by omega)]
   have one:∀x,S.now=x->((∃m,x= .settles m)\/x= .rests 3\/x= .off)->bC S=1:=fun x e1 e2=>by
    unfold bC
    rw[e1]
    rcases e2 with ⟨m,rfl⟩ | rfl | rfl <;> rfl
   by_cases d:p=f+7
   ·obtain⟨m,en⟩:=h2 d
    exact one _ en (.inl ⟨m,rfl⟩)
   ·rcases h3 (by omega) with ⟨m,en⟩ | en | en
    ·exact one _ en (.inl ⟨m,rfl⟩)
    ·exact one _ en (.inr (.inl rfl))
    ·exact one _ en (.inr (.inr rfl))
theorem jJ.fault {p f:Nat}(h:jJ T sp n ds p s S)(e:s.1=f+1)(hp:p<=14)(hf:∀f∈T.wt,FrN f){s':Nat×Nat}(e':s'.1=f+1):jJ T sp n ds (p+1) s' (aY S b).2/\(aY S b).1≠"takes"/\(aY S b).1≠"done":=by
 obtain⟨h0,hu,hw,hv,hp1,h1,h2,h3⟩:=h.no f e
 have d:=a4F (b:=b) h0 hp (by rw[hw];exact hf)
 refine⟨⟨fun z=>(by rw[e']at z;cases z),fun g eg=>?_⟩,d.w1,d.w2⟩
 have eg':g=f:=by rw[e']at eg;omega
 subst eg'
 refine⟨d.dd,d.up.trans hu,d.wt.trans hw,d.vt.trans hv,by omega,fun c=>?_,fun c=>?_,fun c=>?_⟩
 ·obtain⟨m,en⟩:=h1 (by omega)
  rw[lM en,if_neg (by omega)]
  exact⟨m,YT (fun x=>Stc.flag x m) (by omega)⟩
 ·obtain⟨m,en⟩:=h1 (by omega)
  rw[lM en,if_pos (by omega)]
  exact⟨m,rfl⟩
 ·obtain⟨m,en⟩:=h2 (by omega)
  rw[jU en]
  split
  ·exact .inr (.inl rfl)
  split
  ·unfold iY dF
   split
   ·exact .inr (.inr rfl)
   ·exact .inl ⟨_,rfl⟩
  ·exact .inl ⟨m,en⟩
theorem a8V {sp:Bool}{st:Stc}(h0:T.tot=0):cT { T with now:=st } sp=(("fault",{ T with tot:=if sp=true then 8 else 1,now:= .flag 6 (!sp) }):Str×PS):=by
 unfold cT dF
 dsimp only
 rw[h0]
 cases sp
 ·rw[if_neg (by decide)];rfl
 ·rw[if_neg (by decide)];rfl
theorem jJ.go {b:Bool}{p:Nat}(h:jJ T sp n ds p s S)(e:s.1=0)(hi:sp=decide (i=0))(h0:T.tot=0)(hp:p<8+T.vt):jJ T sp n ds (p+1) (nx1 i p b s) (aY S (bI b)).2/\(aY S (bI b)).1≠"takes"/\(aY S (bI b)).1≠"done":=by
 have hS:=h.ok e
 have eN:tlN p (bI b) s.2=(nx1 i p b s).2:=a5D
 have eF:p<9->fJ sp p (bI b)=flB i p b:=fun c=>by
  unfold fJ flB
  rw[hi,Ye c,Bool.true_and]
  by_cases d:p=1
  ·rw[if_pos d,if_pos d];cases b <;> rfl
  ·rw[if_neg d,if_neg d];cases b <;> rfl
 have e1:(nx1 i p b s).1=if flB i p b=true then p+1 else 0:=by
  unfold nx1
  dsimp only
  rw[e]
  by_cases c:flB i p b=true
  ·rw[if_pos ⟨rfl,c⟩,if_pos c]
  ·rw[if_neg fun z=>c z.2,if_neg c]
 have more:flB i p b=false->aZ T.vt sp p s.2 (bI b)="more":=fun c=>by
  unfold aZ
  by_cases d:9<=p
  ·rw[if_pos d];unfold fK;rw[if_pos (by omega)]
  ·rw[if_neg d,eF (by omega),c,if_neg (by decide)]
 have faul:flB i p b=true->aZ T.vt sp p s.2 (bI b)="fault":=fun c=>by
  have d:¬ 9<=p:=fun d=>by
   unfold flB at c
   rw[if_neg (by omega),Yi (by omega)]at c
   cases c
  unfold aZ
  rw[if_neg d,eF (by omega),c,if_pos rfl]
 have hear:aY S (bI b)=if flB i p b=true then (("fault",{ T with tot:=if sp=true then 8 else 1,now:= .flag 6 (!sp) }):Str×PS) else ("",{ T with now:=if sp=true then .tlS (p+1) (nx1 i p b s).2 else .tlR n ds (p+1) (nx1 i p b s).2 }):=by
  rw[hS]
  cases sp with
  | true=>
   rw[iH (v:=p) (c:=s.2) rfl]
   by_cases c:flB i p b=true
   ·have:=faul c
    rw[if_neg (by show ¬ aZ T.vt true p s.2 (bI b)="more";rw[this];decide +kernel),if_pos (show aZ T.vt true p s.2 (bI b)="fault" from this),if_pos c]
    exact a8V h0
   ·have:=more (Bool.not_eq_true _▸c)
    rw[if_pos (show aZ T.vt true p s.2 (bI b)="more" from this),if_neg c,eN]
    rfl
  | false=>
   rw[jF (n:=n) (ds:=ds) (v:=p) (c:=s.2) rfl]
   by_cases c:flB i p b=true
   ·have:=faul c
    rw[if_neg (by show ¬ aZ T.vt false p s.2 (bI b)="more";rw[this];decide +kernel),if_pos (show aZ T.vt false p s.2 (bI b)="fault" from this),if_pos c]
    exact a8V h0
   ·have:=more (Bool.not_eq_true _▸c)
    rw[if_pos (show aZ T.vt false p s.2 (bI b)="more" from this),if_neg c,eN]
    rfl
 rw[hear]
 by_cases c:flB i p b=true
 ·rw[if_pos c]at e1 ⊢
  refine⟨⟨fun z=>(by rw[e1]at z;cases z),fun f ef=>?_⟩,b3G.1,b3G.2⟩
  have ep:f=p:=by rw[e1]at ef;omega
  subst ep
  exact⟨trivial,rfl,rfl,rfl,Yd _,fun _=>⟨!sp,YT (fun x=>Stc.flag x (!sp)) (by omega)⟩,fun z=>by omega,fun z=>by omega⟩
 ·rw[if_neg c]at e1 ⊢
  exact⟨⟨fun _=>rfl,fun f ef=>by rw[e1]at ef;cases ef⟩,b3E.1,b3E.2⟩
theorem jJ.last {b:Bool}{p:Nat}(h:jJ T sp n ds p s S)(e:s.1=0)(h0:T.tot=0)(hv:1<=T.vt)(hp:p=8+T.vt):(nx1 i p b s).1=0/\(T.vt / 2<(nx1 i p b s).2->(aY S (bI b)).1="refuses"/\(aY S (bI b)).2.up=T.up/\(aY S (bI b)).2.wt=T.wt)/\(¬ T.vt / 2<(nx1 i p b s).2->(aY S (bI b)).1=(if sp=true then ("done":Str) else ("takes":Str))/\(aY S (bI b)).2.up=(if sp=false/\jC T n=true then T.up++[(n,ds)] else T.up)/\(aY S (bI b)).2.wt=(if sp=true then T.wt.tail else T.wt)):=by
 have hS:=h.ok e
 have eN:tlN p (bI b) s.2=(nx1 i p b s).2:=a5D
 have e1:(nx1 i p b s).1=0:=by
  unfold nx1 flB
  dsimp only
  rw[if_neg (show ¬ p=1 by omega),Yi (show ¬ p<9 by omega),Jc,if_neg (by simp),e]
 have word:aZ T.vt sp p s.2 (bI b)=if T.vt / 2<(nx1 i p b s).2 then ("refused":Str) else ("taken":Str):=by
  unfold aZ fK
  rw[if_pos (by omega),eN,if_neg (by omega)]
 generalize (nx1 i p b s).2=c at eN word
 have ref:∀st:Stc,(dJ { T with now:=st } sp).1="refuses"/\(dJ { T with now:=st } sp).2.up=T.up/\(dJ { T with now:=st } sp).2.wt=T.wt:=fun st=>by
  unfold dJ dF
  dsimp only
  rw[h0]
  cases sp
  ·rw[if_neg (by decide)];exact⟨rfl,rfl,rfl⟩
  ·rw[if_neg (by decide)];exact⟨rfl,rfl,rfl⟩
 refine⟨e1,fun d=>?_,fun d=>?_⟩
 ·rw [if_pos d]at word
  rw[hS]
  cases sp with
  | true=>
   rw[iH (v:=p) (c:=s.2) rfl,if_neg (by show ¬ aZ T.vt true p s.2 (bI b)="more";rw[word];decide +kernel),if_neg (by show ¬ aZ T.vt true p s.2 (bI b)="fault";rw[word];decide +kernel),if_pos (show aZ T.vt true p s.2 (bI b)="refused" from word)]
   exact ref _
  | false=>
   rw[jF (n:=n) (ds:=ds) (v:=p) (c:=s.2) rfl,if_neg (by show ¬ aZ T.vt false p s.2 (bI b)="more";rw[word];decide +kernel),if_neg (by show ¬ aZ T.vt false p s.2 (bI b)="fault";rw[word];decide +kernel),if_pos (show aZ T.vt false p s.2 (bI b)="refused" from word)]
   exact ref _
 ·rw [if_neg d]at word
  rw[hS]
  cases sp with
  | true=>
   rw[iH (v:=p) (c:=s.2) rfl,if_neg (by show ¬ aZ T.vt true p s.2 (bI b)="more";rw[word];decide +kernel),if_neg (by show ¬ aZ T.vt true p s.2 (bI b)="fault";rw[word];decide +kernel),if_neg (by show ¬ aZ T.vt true p s.2 (bI b)="refused";rw[word];decide +kernel)]
   exact⟨rfl,(if_neg (by simp)).symm,rfl⟩
  | false=>
   rw[jF (n:=n) (ds:=ds) (v:=p) (c:=s.2) rfl,if_neg (by show ¬ aZ T.vt false p s.2 (bI b)="more";rw[word];decide +kernel),if_neg (by show ¬ aZ T.vt false p s.2 (bI b)="fault";rw[word];decide +kernel),if_neg (by show ¬ aZ T.vt false p s.2 (bI b)="refused";rw[word];decide +kernel)]
   refine⟨rfl,?_,rfl⟩
   show (if jC T n=true then T.up++[(n,ds)] else T.up)=_
   by_cases c:jC T n=true
   ·rw[if_pos c,if_pos ⟨rfl,c⟩]
   ·rw[if_neg c,if_neg fun z=>c z.2]
theorem b5L {t:Nat}:(stN S n ds t).up=S.up:=by
 unfold stN
 split
 ·rfl
 split
 ·rfl
 split
 ·rfl
 ·rfl
def stZ (S:PS)(n:Nat)(ds:List Int)(t:Nat):PS:=if t=0 then S else if t<(wr n ds).length then { S with now:= .reads ((wr n ds).take t) } else { S with now:= .tlR n ds 0 0 }
theorem b5I {t:Nat}(e:S.now= .free 0)(hw:S.wt= [])(hf:FrN (n,ds))(ht:t<(wr n ds).length):bC (stZ S n ds t)=1/\aY (stZ S n ds t) (jW (wr n ds) S.vt t)=(("",stZ S n ds (t+1)):Str×PS):=by
 have l2:=jZ hf
 rw[oY ht]
 by_cases c0:t=0
 ·subst c0
  have T:=a2L (S:=S) e hw
  have b0:(wr n ds).getD 0 0=0/\(wr n ds).take 1= [0]:=by
   have:=tW (n:=n) (ds:=ds)
   cases q:wr n ds with
   |nil=>rw[q]at l2;exact absurd l2.1 (by decide)
   |cons x xs=>rw[q]at this;cases this;exact⟨rfl,rfl⟩
  unfold stZ
  rw[if_pos rfl,if_neg (by omega),if_pos (by omega),b0.1,b0.2]
  exact⟨T.sa,T.hr⟩
 ·have T:=a0H (S:={ S with now:= .reads ((wr n ds).take t) }) hf (by omega) ht rfl
  have T2:=T.hr
  dsimp only at T2
  unfold stZ
  rw[if_neg c0,if_pos ht,if_neg (by omega)]
  refine⟨T.sa,?_⟩
  rw[T2]
  have hkp:kp (wr n ds)=fb (n:Int) ds:=(lW hf).kp
  by_cases c4:t+1=(wr n ds).length
  ·rw[if_pos c4,if_neg (by omega),hkp,a1N hf.1,a1O hf.1 hf.2.1 hf.2.2]
  ·rw[if_neg c4,if_pos (by omega)]
def T93 (v:Nat)(g:Nat->Option Fr)(i:Nat):PS:={ S0 0 0 v with wt:=(g i).toList }
structure H93 (m v:Nat)(g:Nat->Option Fr)(R:RS):Prop where
 ln:R.ps.length=m
 ps:∀i,i<m->R.ps[i]? =some (T93 v g i)
 bo:R.bo= []
 ev:R.ev= []
 l2:R.sa.length=m
 sa:∀x∈R.sa,x.length<=0
 l4:R.he.length=m
 he:∀x∈R.he,x.length<=0
structure G93 (m q:Nat)(g:Nat->Option Fr)(fq:Fr):Prop where
 hq:q<m
 eq:g q=some fq
 ok:∀i f,g i=some f->FrN f
 le:∀j f,j≠q->g j=some f->fq.1<f.1
structure zT (m t:Nat)(R:RS):Prop where
 bo:R.bo.length=t
 sa:∀x∈R.sa,x.length<=t
 he:∀x∈R.he,x.length<=t
 l2:R.sa.length=m
 l4:R.he.length=m
 evl:R.ev.length<=5*t
 evt:∀e∈R.ev,e.1<t
theorem pP {wd:Nat->Nat->Str}{t:Nat}:∀{n:Nat}{e:Nat×Nat×Str},e∈evA wd t n->e.1=t/\e.2.1<n/\e.2.2=wd e.2.1 t
 |0,_,h=>by cases h
 | n + 1,e,h=>by
  rcases YI.mp h with z | z
  ·obtain⟨a,b,c⟩:=pP z
   exact⟨a,by omega,c⟩
  ·unfold evt at z
   split at z
   ·cases z
   ·rw[Yn.mp z]
    exact⟨rfl,YW _,rfl⟩
theorem a1P {wd:Nat->Nat->Str}:∀{t:Nat}{e:Nat×Nat×Str},e∈evR wd m t->e.1<t
 |0,_,h=>by cases h
 | t+1,e,h=>by
  rcases YI.mp h with z | z
  ·exact Nat.lt_succ_of_lt (a1P z)
  ·rw[(pP z).1];exact YW _
theorem b4U {fq:Fr}{R:RS}(h:H93 m v g R)(k:G93 m q g fq)(m2:2<=m)(m5:m<=5)(v1:1<=v):
  (∀t,t<=(wr fq.1 fq.2).length->zT m t (gA R t)/\(∀S∈(gA R t).ps,S.up.length=0))/\(gA R (wr fq.1 fq.2).length).ps.length=m/\∀i,i<m->(gA R (wr fq.1 fq.2).length).ps[i]? =some { T93 v g i with now:=if decide (i=q)=true then .tlS 0 0 else .tlR fq.1 fq.2 0 0 }:=by
 have fqo:=k.ok q fq k.eq
 have hL:=jZ fqo
 have ex:∀j,∃kj,kj<(wr fq.1 fq.2).length/\∀f:Fr,j≠q->g j=some f->Part (wr f.1 f.2) (wr fq.1 fq.2) kj:=fun j=>by
  by_cases c:j≠q
  ·cases e:g j with
   |none=>exact⟨0,by omega,fun f _ z=>by cases z⟩
   | some fj=>
    have fo:=k.ok j fj e
    obtain⟨s,s1,s2,s3,s4⟩:=a0G 8 fj.1 fq.1 fo.1 (k.le j _ c e)
    obtain⟨kj,p⟩:=a9Y (ds1:=fj.2) (ds2:=fq.2) s1 s2 s3 s4
    exact⟨kj,by have:=p.k16;omega,fun f _ z=>by cases z;exact p⟩
  ·exact⟨0,by omega,fun f z=>absurd z c⟩
 obtain⟨kk,hkk⟩:=Classical.axiomOfChoice ex
 have hv:∀i,(T93 v g i).vt=v:=fun i=>rfl
 obtain⟨tr,htr⟩:∃tr:Nat->Nat->PS,∀i t,tr i t=if i=q then stN (T93 v g i) fq.1 fq.2 t else match g i with | some f=>stQ (T93 v g i) f.1 f.2 fq.1 fq.2 (kk i) t | none=>stZ (T93 v g i) fq.1 fq.2 t:=⟨_,fun _ _=>rfl⟩
 obtain⟨wd,hwd⟩:∃wd:Nat->Nat->Str,∀i t,wd i t=if i=q then wdN ((wr fq.1 fq.2).length+(8+v)) t else match g i with | some f=>wdQ (kk i) ((wr fq.1 fq.2).length+(8+v)) t | none=>("":Str):=⟨_,fun _ _=>rfl⟩
 have tq:∀t,tr q t=stN (T93 v g q) fq.1 fq.2 t:=fun t=>by rw[htr,if_pos rfl]
 have tf:∀i f t,i≠q->g i=some f->tr i t=stQ (T93 v g i) f.1 f.2 fq.1 fq.2 (kk i) t/\wd i t=wdQ (kk i) ((wr fq.1 fq.2).length+(8+v)) t:=fun i f t c e=>by rw[htr,hwd,if_neg c,if_neg c,e];exact⟨rfl,rfl⟩
 have tn:∀i t,i≠q->g i=none->tr i t=stZ (T93 v g i) fq.1 fq.2 t/\wd i t="":=fun i t c e=>by rw[htr,hwd,if_neg c,if_neg c,e];exact⟨rfl,rfl⟩
 have wt1:∀i f,g i=some f->(T93 v g i).wt= [f]:=fun i f e=>by show (g i).toList= [f];rw[e];rfl
 have wt0:∀i,g i=none->(T93 v g i).wt= []:=fun i e=>by show (g i).toList= [];rw[e];rfl
 have stp:∀t,t<(wr fq.1 fq.2).length->∀i,i<m->jW (wr fq.1 fq.2) v t<=bC (tr i t)/\(i=q->bC (tr i t)=jW (wr fq.1 fq.2) v t)/\aY (tr i t) (jW (wr fq.1 fq.2) v t)=(wd i t,tr i (t+1)):=fun t ht i hi=>by
  have b01:=b8H (vt:=v) fqo (show t<(wr fq.1 fq.2).length+(9+v) by omega)
  have le1:jW (wr fq.1 fq.2) v t<=1:=by rcases b01 with z | z <;> rw[z] <;> decide
  by_cases c:i=q
  ·subst c
   obtain⟨a1,a2⟩:=b5K (S:=T93 v g i) (n:=fq.1) (ds:=fq.2) (t:=t) rfl (wt1 i fq k.eq) rfl fqo v1 (by rw[hv];omega)
   rw[hv,if_pos ht]at a1
   rw[hv]at a2
   rw[tq,tq,hwd,if_pos rfl]
   exact⟨Int.le_of_eq a1.symm,fun _=>a1,a2⟩
  ·cases e:g i with
   | some f=>
    obtain⟨a1,_,a3⟩:=b5J (S:=T93 v g i) (n1:=f.1) (ds1:=f.2) (n:=fq.1) (ds:=fq.2) (k:=kk i) (t:=t) rfl (wt1 i f e) rfl (k.ok i f e) fqo v1 ((hkk i).2 f c e) (by rw[hv];omega)
    rw[hv]at a1 a3
    rw[(tf i f t c e).1,(tf i f (t+1) c e).1,(tf i f t c e).2]
    exact⟨a1,fun z=>absurd z c,a3⟩
   | none=>
    obtain⟨a1,a2⟩:=b5I (S:=T93 v g i) (n:=fq.1) (ds:=fq.2) (t:=t) rfl (wt0 i e) fqo ht
    rw[hv]at a2
    rw[(tn i t c e).1,(tn i (t+1) c e).1,(tn i t c e).2]
    exact⟨by rw[a1];exact le1,fun z=>absurd z c,a2⟩
 have A0:b2Z R R m tr (jW (wr fq.1 fq.2) v) wd 0:=by
  refine⟨h.ln,fun i hi=>?_,h.bo,h.ev,rfl,h.l2,h.l4,h.sa,h.he⟩
  rw[h.ps i hi]
  refine YT some ?_
  by_cases c:i=q
  ·subst c;rw[tq];unfold stN;rw[if_pos rfl]
  ·cases e:g i with
   |some f=>rw[(tf i f 0 c e).1];unfold stQ;rw[if_pos rfl]
   |none=>rw[(tn i 0 c e).1];unfold stZ;rw[if_pos rfl]
 have run:=b3T (e:=(wr fq.1 fq.2).length) A0 (fun t ht i hi=>(stp t ht i hi).2.2) (fun t ht=>b8H fqo (by omega)) (fun t ht i hi=>(stp t ht i hi).1) fun t ht=>⟨q,k.hq,(stp t ht q k.hq).2.1 rfl⟩
 have up0:∀t,t<=(wr fq.1 fq.2).length->∀i,(tr i t).up= []:=fun t ht i=>by
  by_cases c:i=q
  ·subst c;rw[tq,b5L];rfl
  ·cases e:g i with
   | some f=>
    rw[(tf i f t c e).1]
    unfold stQ
    have:=(hkk i).1
    split
    ·rfl
    split
    ·rfl
    split
    ·rfl
    rw[if_pos (by rw[hv];omega)]
    rfl
   | none=>
    rw[(tn i t c e).1]
    unfold stZ
    split
    ·rfl
    split
    ·rfl
    ·rfl
 refine⟨fun t ht=>?_,(run _ (Yd _)).1.ln,fun i hi=>?_⟩
 ·obtain⟨B,_⟩:=run t ht
  refine⟨⟨by rw[B.bo,Ya,YN],B.sa,B.he,B.l2,B.l4,by rw[B.ev];exact a1Q wd m5 t,fun e he=>by rw[B.ev]at he;exact a1P he⟩,fun S hS=>?_⟩
  obtain⟨i,hi,e⟩:=Y5 hS
  have hi':i<m:=B.ln▸hi
  have:=B.ps i hi'
  rw[Yb hi,e]at this
  cases this
  rw[up0 t ht i]
  rfl
 ·rw [(run _ (Yd _)).1.ps i hi]
  refine YT some ?_
  by_cases c:i=q
  ·subst c
   rw[tq,Ye rfl,if_pos rfl]
   unfold stN
   rw[if_neg (by omega),if_neg (by omega),if_pos (by rw[hv];omega),Xz]
   rfl
  ·rw [Yi c,if_neg (by decide)]
   cases e:g i with
   | some f=>
    rw[(tf i f _ c e).1]
    unfold stQ
    have:=(hkk i).1
    rw[if_neg (by omega),if_neg (by omega),if_neg (by omega),if_pos (by rw[hv];omega),Xz]
    rfl
   | none=>
    rw[(tn i _ c e).1]
    unfold stZ
    rw[if_neg (by omega),if_neg (by omega)]
theorem a8O {R:RS}{Sf:Nat->PS}{hb:Nat->Int}{hs:List Int}(hl:R.ps.length=m)(hp:∀i,i<m->R.ps[i]? =some (Sf i))(hh:∀i,i<m->hs[i]? =some (hb i))(l2:R.sa.length=m)(l4:R.he.length=m)(sa:∀x∈R.sa,x.length<=k)(he:∀x∈R.he,x.length<=k):
  ∀n:Nat,n<=m->(∀i,i<n->(bG R hs n).ps[i]? =some (aY (Sf i) (hb i)).2)/\(bG R hs n).ev=R.ev++evA (fun i _=>(aY (Sf i) (hb i)).1) R.bo.length n/\(∀x∈(bG R hs n).sa,x.length<=k+1)/\∀x∈(bG R hs n).he,x.length<=k+1
 |0,_=>⟨fun i hi=>absurd hi (Xi _),(YS _).symm,fun x hx=>Xo (sa x hx),fun x hx=>Xo (he x hx)⟩
 | n + 1,h=>by
  obtain⟨h1,h2,h3,h4⟩:=a8O hl hp hh l2 l4 sa he n (by omega)
  have e1:=hp n (by omega)
  have e2:=hh n (by omega)
  obtain⟨x,e3⟩:∃x,R.sa[n]? =some x:=⟨_,Yb (by omega)⟩
  obtain⟨y,e4⟩:∃y,R.he[n]? =some y:=⟨_,Yb (by omega)⟩
  have hx:=sa x (Yx e3)
  have hy:=he y (Yx e4)
  rw[jV e1 e2 e3 e4]
  unfold rK
  refine⟨fun i hi=>?_,?_,jQ h3 (by rw[Yc];exact Xk hx),jQ h4 (by rw[Yc];exact Xk hy)⟩
  ·show ((bG R _ n).ps.set n _)[i]? =_
   rw[XB]
   by_cases c:n=i
   ·subst c
    rw[if_pos rfl,if_pos (by rw[(gK R _ n).2.2.1];omega)]
   ·rw[if_neg c]
    exact h1 i (by omega)
  ·show (bG R _ n).ev++evt R.bo.length n _=_
   rw[h2,YJ]
   rfl
theorem a5C {R:RS}{t:Nat}{Sf:Nat->PS}(hl:R.ps.length=m)(m5:m<=5)(hp:∀i,i<m->R.ps[i]? =some (Sf i))(z:zT m t R):
  (iC R (wrL ws R.ps.length b) b).ps.length=m/\(∀i,i<m->(iC R (wrL ws R.ps.length b) b).ps[i]? =some (aY (Sf i) (wrB ws ((i:Nat):Int) b)).2)/\(iC R (wrL ws R.ps.length b) b).ev=R.ev++evA (fun i _=>(aY (Sf i) (wrB ws ((i:Nat):Int) b)).1) t m/\zT m (t+1) (iC R (wrL ws R.ps.length b) b):=by
 have hh:∀i,i<m->(wrL ws R.ps.length b)[i]? =some (wrB ws ((i:Nat):Int) b):=fun i hi=>by
  unfold wrL
  rw[Yl,Xh (by omega)]
  rfl
 have gz:=gK R (wrL ws R.ps.length b) R.ps.length
 obtain⟨x1,x2,x3,x4⟩:=a8O hl hp hh z.l2 z.l4 z.sa z.he m (Yd _)
 rw[z.bo]at x2
 unfold iC
 rw[hl]at gz x1 x2 x3 x4 ⊢
 refine⟨gz.2.2.1,x1,x2,by show (R.bo++[b]).length=_;rw[Yc,z.bo];rfl,x3,x4,gz.2.2.2.1.trans z.l2,gz.2.2.2.2.1.trans z.l4,?_,fun e he=>?_⟩
 ·show (bG R _ m).ev.length<=_
  rw[x2,Yc]
  have:=uN (fun i _=>(aY (Sf i) (wrB ws ((i:Nat):Int) b)).1) t m
  have:=z.evl
  omega
 ·have he':e∈(bG R _ m).ev:=he
  rw[x2]at he'
  rcases YI.mp he' with y | y
  ·exact Nat.lt_succ_of_lt (z.evt e y)
  ·rw[(pP y).1];exact YW _
def bZ (q i:Nat):Nat:=if i=q then 0 else if i<q then i+1 else i
theorem pG (hq:q<m)(hi:i<m):bZ q i<m:=by unfold bZ;split <;> (try split) <;> omega
theorem a6N (h:bZ q i=bZ q j):i=j:=by unfold bZ at h;split at h <;> split at h <;> (try split at h) <;> (try split at h) <;> omega
theorem a0L (hq:q<m)(hk:k<m):∃i,i<m/\bZ q i=k:=by
 by_cases c:k=0
 ·exact⟨q,hq,by unfold bZ;rw[if_pos rfl,c]⟩
 ·by_cases d:k<=q
  ·exact⟨k-1,by omega,by unfold bZ;rw[if_neg (by omega),if_pos (by omega)];omega⟩
  ·exact⟨k,hk,by unfold bZ;rw[if_neg (by omega),if_neg (by omega)]⟩
theorem qF:(bZ q i=0)=(i=q):=by
 unfold bZ
 by_cases c:i=q
 ·rw[if_pos c];simp[c]
 ·rw[if_neg c]
  split
  ·simp[c]
  ·exact propext ⟨fun z=>by omega,fun z=>absurd z c⟩
structure W93 (m q:Nat)(ps:List (Int×Int))(wr:Nat->Nat->Bool)(W:Nat->List Int):Prop where
 l4:ps.length<=4
 hw:∀i r,wr i r=true->(((i:Nat):Int),((r:Nat):Int))∈ps
 hW:∀i p,i<m->(((i:Nat):Int)∈W p↔wr (bZ q i) p=true)
structure I93 (m v q L:Nat)(g:Nat->Option Fr)(fq:Fr)(wr:Nat->Nat->Bool)(p:Nat)(R:RS):Prop where
 ln:R.ps.length=m
 ps:∀i,i<m->∃S,R.ps[i]? =some S/\jJ (T93 v g i) (decide (i=q)) fq.1 fq.2 p (St m wr p (bZ q i)) S
 sz:zT m (L+p) R
 up:∀S∈R.ps,S.up.length=0
theorem a9X {ps:List PS}{p:Nat}(hl:ps.length=m)(hq:q<m)(hs:∀i S,ps[i]? =some S->bC S=bI (sdB (F (bZ q i)).1 (bZ q i) p))(hb:rE (ps.map bC) b):b=bI (least m p F):=by
 have at_:∀z∈ps.map bC,∃i,i<m/\z=bI (sdB (F (bZ q i)).1 (bZ q i) p):=fun z hz=>by
  obtain⟨S,hS,rfl⟩:=YA.mp hz
  obtain⟨i,hi,e⟩:=Y5 hS
  exact⟨i,by omega,hs i S (by rw[Yb hi,e])⟩
 obtain⟨i,hi,eb⟩:=at_ b hb.1
 cases e:least m p F with
 | true=>
  rw[eb,YQ.mp e _ (YU.mpr (pG hq hi))]
 | false=>
  obtain⟨k,hk,hf⟩:=List.all_eq_false.mp e
  obtain⟨j,hj,ej⟩:=a0L hq (YU.mp hk)
  have hk0:sdB (F k).1 k p=false:=by simpa using hf
  have:=hb.2 _ (YA.mpr ⟨ps[j]'(by omega),YR _,rfl⟩)
  rw[hs j _ (Yb (by omega)),ej,hk0]at this
  have h0:b<=0:=this
  rcases b4K (sdB (F (bZ q i)).1 (bZ q i) p) with z | z
  ·rw[eb,z];rfl
  ·rw[eb,z]at h0;exact absurd h0 (by decide)
section
variable {L:Nat}{fq:Fr}{wr:Nat->Nat->Bool}{W:Nat->List Int}{p:Nat}{R:RS}
theorem I93.bit (h:I93 m v q L g fq wr p R)(k:W93 m q ps wr W)(hq:q<m)(m2:2<=m)(hp:p<=13)(hb:rE (R.ps.map bC) b)(hi:i<m)(e:(St m wr p (bZ q i)).1=0):wrB (W p) ((i:Nat):Int) b=bI (Vd.hd (least m p (St m wr p)) (wr (bZ q i) p)):=by
 have le8:∀j,j<m->∀f,(St m wr p (bZ q j)).1=f+1->p<=f+8:=fun j hj f ef=>by
  rcases Nat.lt_or_ge p (f+9) with z | z
  ·omega
  ·exact absurd e (a4K k.l4 m2 k.hw (pG hq hj) ef z hp)
 have eb:=a9X (F:=St m wr p) h.ln hq (fun j S eS=>by
  have hj:j<m:=by rw[<-h.ln];exact(Yf.mp eS).1
  obtain⟨S',e',rel⟩:=h.ps j hj
  rw[eS]at e'
  cases e'
  exact rel.says (decide_eq_decide.mpr (by rw[qF])) (le8 j hj)) hb
 rw[eb]
 unfold wrB Vd.hd
 by_cases c:wr (bZ q i) p=true
 ·rw[if_pos ((k.hW i p hi).mpr c),if_pos c]
  cases least m p (St m wr p) <;> rfl
 ·rw[if_neg fun z=>c ((k.hW i p hi).mp z),if_neg c]
theorem I93.turn (h:I93 m v q L g fq wr p R)(k:W93 m q ps wr W)(gg:G93 m q g fq)(m2:2<=m)(m5:m<=5)(v5:v<=5)(hp:p<8+v)(hb:rE (R.ps.map bC) b):I93 m v q L g fq wr (p+1) (iC R (wrL (W p) R.ps.length b) b):=by
 have hS:∀i,i<m->R.ps[i]? =some ((R.ps[i]?).getD (S0 0 0 0)):=fun i hi=>by
  obtain⟨S,e,_⟩:=h.ps i hi
  rw[e];rfl
 obtain⟨t1,t2,t3,t4⟩:=a5C (ws:=W p) (b:=b) h.ln m5 hS h.sz
 have hfT:∀i,∀f∈(T93 v g i).wt,FrN f:=fun i f hf=>by
  have:f∈(g i).toList:=hf
  cases e:g i with
  |none=>rw[e]at this;cases this
  |some f'=>rw[e]at this;rw[Yn.mp this];exact gg.ok i f' e
 have key:∀i,i<m->∃S,(iC R (wrL (W p) R.ps.length b) b).ps[i]? =some S/\jJ (T93 v g i) (decide (i=q)) fq.1 fq.2 (p+1) (St m wr (p+1) (bZ q i)) S:=fun i hi=>by
  refine⟨_,t2 i hi,?_⟩
  obtain⟨S,eS,rel⟩:=h.ps i hi
  rw[eS]
  show jJ _ _ _ _ _ _ (aY S _).2
  cases e:(St m wr p (bZ q i)).1 with
  | zero=>
   rw[h.bit k gg.hq m2 (by omega) hb hi e]
   exact(rel.go e (decide_eq_decide.mpr (by rw[qF])) rfl hp).1
  |succ f=>exact(rel.fault e (by omega) (hfT i) ((pR (by omega)).trans e)).1
 refine⟨t1,key,t4,fun S hS=>?_⟩
 obtain⟨i,hi,e⟩:=Y5 hS
 obtain⟨S',e',rel⟩:=key i (by omega)
 rw[Yb hi,e]at e'
 cases e'
 cases z:(St m wr (p+1) (bZ q i)).1 with
 |zero=>rw[rel.ok z];rfl
 |succ f=>rw[(rel.no f z).2.1];rfl
structure E93 (m v q L:Nat)(g:Nat->Option Fr)(fq:Fr)(wr:Nat->Nat->Bool)(R:RS):Prop where
 ln:R.ps.length=m
 ps:∀i,i<m->∃S,R.ps[i]? =some S/\S.up=(if Vd.wd v (St m wr (9+v) (bZ q i))=2/\i≠q then [fq] else [])/\S.wt=(if Vd.wd v (St m wr (9+v) (bZ q i))=2/\i=q then [] else (g i).toList)
 ev:∃(es:List (Nat×Nat×Str))(wd:Nat->Str),R.ev=es++evA (fun i _=>wd i) (L+(8+v)) m/\(∀e∈es,e.1<L+(8+v))/\∀i,i<m->(Vd.wd v (St m wr (9+v) (bZ q i))=2->wd i=if i=q then ("done":Str) else ("takes":Str))/\(Vd.wd v (St m wr (9+v) (bZ q i))≠2->wd i≠"takes"/\wd i≠"done")
 sz:zT m (L+(9+v)) R
theorem b4V:Vd.wd v s=2↔s.1=0/\¬ v / 2<s.2:=by
 unfold Vd.wd
 by_cases c:s.1=0
 ·rw[if_neg fun z=>z c]
  by_cases d:v / 2<s.2
  ·rw[if_pos d];exact⟨fun z=>(by cases z),fun z=>absurd d z.2⟩
  ·rw[if_neg d];exact⟨fun _=>⟨c,d⟩,fun _=>rfl⟩
 ·rw[if_pos c];exact⟨fun z=>(by cases z),fun z=>absurd z.1 c⟩
theorem b9E:jC (T93 v g i) n=true:=by
 unfold jC
 refine Ye ?_
 show Builtin.bitAnd ((n:Nat):Int) ((0:Nat):Int)=((0:Nat):Int)
 rw[band,Nat.and_zero]
theorem I93.last (h:I93 m v q L g fq wr (8+v) R)(k:W93 m q ps wr W)(gg:G93 m q g fq)(m2:2<=m)(m5:m<=5)(v1:1<=v)(v5:v<=5)(hb:rE (R.ps.map bC) b):E93 m v q L g fq wr (iC R (wrL (W (8+v)) R.ps.length b) b):=by
 have hS:∀i,i<m->R.ps[i]? =some ((R.ps[i]?).getD (S0 0 0 0)):=fun i hi=>by
  obtain⟨S,e,_⟩:=h.ps i hi
  rw[e];rfl
 obtain⟨t1,t2,t3,t4⟩:=a5C (ws:=W (8+v)) (b:=b) h.ln m5 hS h.sz
 have hfT:∀i,∀f∈(T93 v g i).wt,FrN f:=fun i f hf=>by
  have:f∈(g i).toList:=hf
  cases e:g i with
  |none=>rw[e]at this;cases this
  |some f'=>rw[e]at this;rw[Yn.mp this];exact gg.ok i f' e
 have key : ∀i,i<m->(aY ((R.ps[i]?).getD (S0 0 0 0)) (wrB (W (8+v)) ((i:Nat):Int) b)).2.up=(if Vd.wd v (St m wr (9+v) (bZ q i))=2/\i≠q then [fq] else [])/\(aY ((R.ps[i]?).getD (S0 0 0 0)) (wrB (W (8+v)) ((i:Nat):Int) b)).2.wt=(if Vd.wd v (St m wr (9+v) (bZ q i))=2/\i=q then [] else (g i).toList)/\(Vd.wd v (St m wr (9+v) (bZ q i))=2->(aY ((R.ps[i]?).getD (S0 0 0 0)) (wrB (W (8+v)) ((i:Nat):Int) b)).1=if i=q then ("done":Str) else ("takes":Str))/\(Vd.wd v (St m wr (9+v) (bZ q i))≠2->(aY ((R.ps[i]?).getD (S0 0 0 0)) (wrB (W (8+v)) ((i:Nat):Int) b)).1≠"takes"/\(aY ((R.ps[i]?).getD (S0 0 0 0)) (wrB (W (8+v)) ((i:Nat):Int) b)).1≠"done"):=fun i hi=>by
  obtain⟨S,eS,rel⟩:=h.ps i hi
  rw[eS]
  show (aY S _).2.up=_/\(aY S _).2.wt=_/\(_->(aY S _).1=_)/\(_->(aY S _).1≠_/\(aY S _).1≠_)
  have e9:9+v=8+v+1:=by omega
  cases e:(St m wr (8+v) (bZ q i)).1 with
  | zero =>
   rw[h.bit k gg.hq m2 (by omega) hb hi e]
   obtain⟨a1,a2,a3⟩:=rel.last (i:=bZ q i) (b:=Vd.hd (least m (8+v) (St m wr (8+v))) (wr (bZ q i) (8+v))) e rfl v1 rfl
   have es:nx1 (bZ q i) (8+v) (Vd.hd (least m (8+v) (St m wr (8+v))) (wr (bZ q i) (8+v))) (St m wr (8+v) (bZ q i))=St m wr (9+v) (bZ q i):=by rw[e9];rfl
   rw[es]at a1 a2 a3
   by_cases c:v / 2<(St m wr (9+v) (bZ q i)).2
   ·have n2:¬ Vd.wd v (St m wr (9+v) (bZ q i))=2:=fun z=>(b4V.mp z).2 c
    obtain⟨b1,b2,b3⟩:=a2 c
    refine⟨?_,?_,fun z=>absurd z n2,fun _=>?_⟩
    ·rw[b2,if_neg fun z=>n2 z.1];rfl
    ·rw[b3,if_neg fun z=>n2 z.1];rfl
    ·rw[b1];exact(by decide +kernel:("refuses":Str)≠"takes"/\("refuses":Str)≠"done")
   ·have y2:Vd.wd v (St m wr (9+v) (bZ q i))=2:=b4V.mpr ⟨a1,c⟩
    obtain⟨b1,b2,b3⟩:=a3 c
    refine⟨?_,?_,fun _=>?_,fun z=>absurd y2 z⟩
    ·rw[b2]
     by_cases d:i=q
     ·rw[if_neg fun z=>absurd z.1 (by rw[Ye d];decide),if_neg fun z=>z.2 d];rfl
     ·rw[if_pos ⟨Yi d,b9E⟩,if_pos ⟨y2,d⟩];rfl
    ·rw [b3]
     by_cases d:i=q
     ·rw[if_pos (Ye d),if_pos ⟨y2,d⟩]
      show (g i).toList.tail= []
      rw[d,gg.eq];rfl
     ·rw[if_neg fun z=>d (YK z),if_neg fun z=>d z.2];rfl
    ·rw[b1]
     by_cases d:i=q
     ·rw[if_pos (Ye d),if_pos d]
     ·rw[if_neg fun z=>d (YK z),if_neg d]
  | succ f=>
   have ek:(St m wr (8+v+1) (bZ q i)).1=f+1:=(pR (by omega)).trans e
   obtain⟨r1,r2⟩:=rel.fault (b:=wrB (W (8+v)) ((i:Nat):Int) b) e (by omega) (hfT i) ek
   obtain⟨_,u1,u2,_⟩:=r1.no f ek
   have n2:¬ Vd.wd v (St m wr (9+v) (bZ q i))=2:=fun z=>by have:=(b4V.mp z).1;rw[e9,ek]at this;cases this
   exact⟨by rw[u1,if_neg fun z=>n2 z.1];rfl,by rw[u2,if_neg fun z=>n2 z.1];rfl,fun z=>absurd z n2,fun _=>r2⟩
 refine⟨t1,fun i hi=>⟨_,t2 i hi,(key i hi).1,(key i hi).2.1⟩,⟨R.ev,_,t3,h.sz.evt,fun i hi=>(key i hi).2.2⟩,?_⟩
 rw[show L+(9+v)=L+(8+v)+1 by omega]
 exact t4
theorem zT.szR {t:Nat}(h:zT m t R)(ht:t<=179)(u:∀S∈R.ps,S.up.length=0):SzR R:=⟨by rw[h.bo];omega,fun x hx=>by have:=h.sa x hx;omega,fun x hx=>(by have:=h.he x hx;omega),by have:=h.evl;omega,fun S hS=>by rw[u S hS];decide⟩
end
def b0M (K:W.Frag):Sp:=fun vs H Q _=>∃(d:Addr)(n:Nat)(ds:List Int),vs= [.int ((n:Nat):Int),.ref d]/\SqL K H d (ds.map V.int)/\n<256/\ds.length<=7/\ds.all byt=true/\∀H',Same H H'->Q (.int (((put (fb (n:Int) ds)).length:Nat):Int)) H'
structure F93 (i:Nat)(fs:List (Nat×Nat×List Int)):Prop where
 ok:∀f∈fs,f.1<i/\FrN (f.2.1,f.2.2)/\f.2.2.length<=1
 pw:fs.Pairwise fun f g=>f.1<g.1/\f.2.1≠g.2.1
 ln:fs.length<=i
theorem F93.more (h:F93 i fs):F93 (i+1) fs:=⟨fun f hf=>⟨Nat.lt_succ_of_lt (h.ok f hf).1,(h.ok f hf).2⟩,h.pw,Xo h.ln⟩
theorem F93.snoc (h:F93 i fs)(ho:FrN (n,ds))(h1:ds.length<=1)(hn:¬ n∈fs.map fun f=>f.2.1):F93 (i+1) (fs++[(i,n,ds)]):=by
 refine⟨fun f hf=>?_,List.pairwise_append.mpr ⟨h.pw,List.pairwise_singleton _ _,fun f hf g hg=>?_⟩,by rw[Yc];exact Xk h.ln⟩
 ·rcases YI.mp hf with z | z
  ·exact h.more.ok f z
  ·rw[Yn.mp z];exact⟨YW _,ho,h1⟩
 ·rw[Yn.mp hg]
  exact⟨(h.ok f hf).1,fun z=>hn (YA.mpr ⟨f,hf,z⟩)⟩
def frT (f:Nat×Nat×List Int)(d:Addr):HO:= .tup [.int ((f.1:Nat):Int),.int ((f.2.1:Nat):Int),.ref d]
def b0P (K:W.Frag):Sp:=fun vs H Q _=>∃(a:Addr)(ss:List Int)(m:Nat),vs= [.ref a,.int ((m:Nat):Int)]/\SqL K H a (ss.map V.int)/\ss.length<=63/\2<=m/\m<=5/\∀(fl:Addr)(ts:List Addr)(fs:List (Nat×Nat×List Int)) H',H fl=none->Same H H'->H' fl=some (.lst (ts.map V.ref))->ts.length=fs.length->(∀(i:Nat)(t:Addr)(f:Nat×Nat×List Int),ts[i]? =some t->fs[i]? =some f->∃d,H' t=some (frT f d)/\H' d=some (.lst (f.2.2.map V.int)))->F93 m fs->fs≠ []->Q (.ref fl) H'
def a2Q (K:W.Frag):Sp:=fun vs H Q _=>∃(a:Addr)(ss:List Int)(m v:Nat),vs= [.ref a,.int ((m:Nat):Int),.int ((v:Nat):Int)]/\SqL K H a (ss.map V.int)/\ss.length<=63/\2<=m/\m<=5/\1<=v/\v<=5/\∀(wl:Addr)(qs:List Addr)(ps:List (Int×Int)) H',H wl=none->Same H H'->H' wl=some (.lst (qs.map V.ref))->qs.length=ps.length->(∀(i:Nat)(t:Addr)(p:Int×Int),qs[i]? =some t->ps[i]? =some p->H' t=some (.tup [.int p.1,.int p.2]))->ps.length<=4->(∀p∈ps,0<=p.1/\p.1<((m:Nat):Int)/\0<=p.2/\p.2<9+((v:Nat):Int))->Q (.ref wl) H'
theorem gW.of:∀{qs:List Addr}{ps:List (Int×Int)},qs.length=ps.length->(∀(i:Nat)(t:Addr)(p:Int×Int),qs[i]? =some t->ps[i]? =some p->H t=some (.tup [.int p.1,.int p.2]))->gW K H qs ps
 |[], [],_,_=> .nil
 |q::qs,p::ps,h,k=> .cons (SqT.of (k 0 q p rfl rfl)) (gW.of (by simpa using h) fun i t p' h1 h2=>k (i+1) t p' h1 h2)
def tkV (wd:Nat->Str)(i:Nat):V:=if wd i="takes"\/wd i="done" then .str (wd i) else .bl false
def a5N (K:W.Frag)(C:Addr)(A:Cs):Sp:=fun vs H Q _=>∃(r:Addr)(R:RS)(o:Own)(w:Rw)(m t:Nat)(es:List (Nat×Nat×Str))(wd:Nat->Str),vs= [.ref r,.int ((m:Nat):Int),.int ((t:Nat):Int)]/\cF C A H r R o w/\m<=5/\R.ev=es++evA (fun i _=>wd i) t m/\(∀e∈es,e.1<t)/\∀(l:Addr) H',H l=none->Same H H'->H' l=some (.lst ((List.range m).map (tkV wd)))->Q (.ref l) H'
def a3X (w:Str):Prop:=w="takes"\/w="done"
instance (w:Str):Decidable (a3X w):=inferInstanceAs (Decidable (w="takes"\/w="done"))
def tkS (t:Nat)(L:List V)(e:Nat×Nat×Str):List V:=if e.1=t/\a3X e.2.2 then L.set e.2.1 (.str e.2.2) else L
theorem a0I (t:Nat):∀(es:List (Nat×Nat×Str))(L:List V),(es.foldl (tkS t) L).length=L.length
 |[],_=>rfl
 | e::r,L=>by
  rw[Xq,a0I t r]
  unfold tkS
  split
  ·exact Xp
  ·rfl
theorem b3L {t:Nat}:∀(es:List (Nat×Nat×Str))(L:List V),(∀e∈es,e.1<t)->es.foldl (tkS t) L=L
 |[],_,_=>rfl
 | e::r,L,h=>by
  rw[Xq,show tkS t L e=L from if_neg fun z=>by have:=h e YC;omega]
  exact b3L r L fun x hx=>h x (Yw _ hx)
theorem b3K {wd:Nat->Str}{t:Nat}:∀n,n<=m->(evA (fun i _=>wd i) t n).foldl (tkS t) (List.replicate m (.bl false))=(List.range m).map fun i=>if i<n then tkV wd i else .bl false
 | 0,_=>by
  show List.replicate m (V.bl false)=_
  refine List.ext_getElem (by rw[Yu,Ya,YN]) fun i h1 h2=>?_
  rw[XT,List.getElem_replicate,if_neg (Xi _)]
 | n + 1, h=>by
  show ((evA (fun i _=>wd i) t n)++evt t n (wd n)).foldl (tkS t) _=_
  rw[Y8,b3K n (by omega)]
  have keep:¬ a3X (wd n)->(List.range m).map (fun i=>if i<n then tkV wd i else .bl false)=(List.range m).map fun i=>if i<n+1 then tkV wd i else .bl false:=fun hn=>by
   refine Ja fun i _=>?_
   by_cases c:i<n
   ·rw[if_pos c,if_pos (by omega)]
   ·rw [if_neg c]
    by_cases d:i=n
    ·subst d
     rw[if_pos (YW _)]
     exact(if_neg hn).symm
    ·rw[if_neg (by omega)]
  by_cases c:wd n=""
  ·rw[show evt t n (wd n)= [] from if_pos c]
   exact keep fun z=>by rw[c]at z;exact absurd z (by decide +kernel)
  ·rw [show evt t n (wd n)= [(t,n,wd n)] from if_neg c,Xq,List.foldl_nil]
   by_cases d:a3X (wd n)
   ·rw [show tkS t _ (t,n,wd n)=_ from if_pos ⟨rfl,d⟩]
    refine List.ext_getElem (by simp) fun i h1 h2=>?_
    rw[List.getElem_set,XT,XT,List.getElem_range]
    by_cases e:n=i
    ·subst e
     rw[if_pos rfl,if_pos (YW _)]
     exact(if_pos d).symm
    ·rw[if_neg e]
     by_cases f:i<n
     ·rw[if_pos f,if_pos (by omega)]
     ·rw[if_neg f,if_neg (by omega)]
   ·rw[show tkS t _ (t,n,wd n)=_ from if_neg fun z=>d z.2]
    exact keep d
theorem b4Y {wd:Nat->Str}{t:Nat}{es:List (Nat×Nat×Str)}(h:∀e∈es,e.1<t):(es++evA (fun i _=>wd i) t m).foldl (tkS t) (List.replicate m (.bl false))=(List.range m).map (tkV wd):=by
 rw[Y8,b3L es _ h,b3K m (Yd _)]
 exact Ja fun i hi=>if_pos (YU.mp hi)
theorem c3C (w:Str):inV (.str w) [.str "takes",.str "done"]=decide (a3X w):=by
 show (((("takes":Str) == w)) || ((("done":Str) == w) || false))=_
 rw[Bool.or_false,Xx,Bool.or_eq_true,XH,XH,XJ]
 exact⟨fun z=>z.imp Eq.symm Eq.symm,fun z=>z.imp Eq.symm Eq.symm⟩
def sts (m q:Nat):List Int:=((q:Nat):Int)::((List.range m).filter fun i=>decide (i≠q)).map fun i=>((i:Nat):Int)
theorem b0H:∀m∈List.range 6,∀q∈List.range m,(sts m q).length=m/\∀i∈List.range m,(sts m q)[bZ q i]? =some ((i:Nat):Int)/\∀n∈List.range (bZ q i),(sts m q)[n]?≠some ((i:Nat):Int):=by decide +kernel
theorem yD (m5:m<=5)(hq:q<m):(sts m q).length=m/\∀i,i<m->(sts m q)[bZ q i]? =some ((i:Nat):Int)/\∀n,n<bZ q i->(sts m q)[n]?≠some ((i:Nat):Int):=by
 obtain⟨a,b⟩:=b0H m (YU.mpr (by omega)) q (YU.mpr hq)
 exact⟨a,fun i hi=>⟨(b i (YU.mpr hi)).1,fun n hn=>(b i (YU.mpr hi)).2 n (YU.mpr hn)⟩⟩
def psS (q:Nat)(ps:List (Int×Int)):List (Int×Int):=ps.map fun p=>(((bZ q p.1.toNat:Nat):Int),p.2)
theorem b1J (q:Nat)(ps:List (Int×Int)):(psS q ps).length=ps.length:=by rw[psS,Ya]
def wsP (ps:List (Int×Int))(p:Nat):List Int:=(ps.filter fun x=>decide (x.2=((p:Nat):Int))).map fun x=>x.1
theorem w93 {m q v:Nat}(l4:ps.length<=4)(ok:∀p∈ps,0<=p.1/\p.1<((m:Nat):Int)/\0<=p.2/\p.2<9+((v:Nat):Int)):W93 m q (psS q ps) (wrP (psS q ps)) (wsP ps):=by
 refine⟨by rw[psS,Ya];exact l4,fun i r h=>YK h,fun i p hi=>?_⟩
 unfold wrP wsP psS
 rw[XJ,YA,YA]
 constructor
 ·rintro ⟨x,hx,e⟩
  obtain⟨h1,h2⟩:=X5.mp hx
  have h3:x.2=((p:Nat):Int):=YK h2
  exact⟨x,h1,by rw[h3,e,YB]⟩
 ·rintro ⟨x,hx,e⟩
  obtain⟨e1,e2⟩:=Prod.mk.inj e
  have e3:x.1.toNat=i:=a6N (q:=q) (by omega)
  have:=(ok x hx).1
  exact⟨x,X5.mpr ⟨hx,Ye e2⟩,by omega⟩
theorem b6B {m q v:Nat}(hq:q<m)(m2:2<=m)(m5:m<=5)(hv:v=1\/v=3\/v=5)(ok:∀p∈ps,0<=p.1/\p.1<((m:Nat):Int)/\0<=p.2/\p.2<9+((v:Nat):Int)):a4L ((m:Nat):Int) ((v:Nat):Int) (psS q ps):=by
 refine⟨by omega,by omega,by omega,fun p hp=>?_⟩
 obtain⟨x,hx,rfl⟩:=YA.mp hp
 obtain⟨a,b,c,d⟩:=ok x hx
 have:=pG hq (show x.1.toNat<m by omega)
 exact⟨by show (0:Int)<=((bZ q x.1.toNat:Nat):Int);omega,by show ((bZ q x.1.toNat:Nat):Int)<_;omega,c,d⟩
def gOf (fs:List (Nat×Nat×List Int))(j:Nat):Option Fr:=(fs.find? fun f=>decide (f.1=j)).map fun f=>f.2
theorem qR {f:Fr}(h:gOf fs j=some f):(j,f)∈fs:=by
 unfold gOf at h
 obtain⟨x,hx,rfl⟩:=YH.mp h
 have h1:=List.mem_of_find?_eq_some hx
 have h2:x.1=j:=YK (List.find?_some (p:=fun f:Nat×Nat×List Int=>decide (f.1=j)) hx)
 rw[<-h2];exact h1
theorem b2J (h:F93 i fs)(hf:f∈fs):gOf fs f.1=some f.2:=by
 have : ∀(fs:List (Nat×Nat×List Int)),(fs.Pairwise fun f g=>f.1<g.1/\f.2.1≠g.2.1)->f∈fs->gOf fs f.1=some f.2:=fun fs=>by
  induction fs with
  |nil=>intro _ h;cases h
  | cons x r ih=>
   intro pw hm
   obtain⟨p1,p2⟩:=List.pairwise_cons.mp pw
   unfold gOf
   rcases YG.mp hm with z | z
   ·subst z
    rw[List.find?_cons_of_pos (by exact Ye rfl)];rfl
   ·rw[List.find?_cons_of_neg (by have:=(p1 f z).1;simp;omega)]
    exact ih p2 z
 exact this fs h.pw hf
theorem a8T (h:∀f∈fs,f.1≠j):gOf fs j=none:=by
 cases e:gOf fs j with
 |none=>rfl
 |some f=>exact absurd rfl (h _ (qR e))
theorem b3W {R:Nat×Nat×List Int->Nat×Nat×List Int->Prop}:∀{fs:List (Nat×Nat×List Int)},fs.Pairwise R->∀f∈fs,∀g∈fs,f=g\/R f g\/R g f
 |_,.nil,_,h,_,_=>by cases h
 | _,.cons p1 p2,f,hf,g,hg=>by
  rcases YG.mp hf with z | z <;> rcases YG.mp hg with y | y
  ·exact .inl (z.trans y.symm)
  ·subst z;exact .inr (.inl (p1 g y))
  ·subst y;exact .inr (.inr (p1 f z))
  ·exact b3W p2 f z g y
theorem g93 (h:F93 m fs)(hf:f∈fs)(le:∀x∈fs,f.2.1<=x.2.1):G93 m f.1 (gOf fs) f.2:=by
 refine⟨(h.ok f hf).1,b2J h hf,fun i x e=>(h.ok _ (qR e)).2.1,fun j x hj e=>?_⟩
 have hx:=qR e
 have l:f.2.1<=x.1:=le _ hx
 rcases b3W h.pw f hf _ hx with z | z | z
 ·rw[z]at hj;exact absurd rfl hj
 ·have:f.2.1≠x.1:=z.2;omega
 ·have:x.1≠f.2.1:=z.2;omega
structure a9U (m v:Nat)(fs:List (Nat×Nat×List Int))(i:Nat)(R:RS):Prop where
 hd:H93 m v (gOf (fs.take i)) R
 ow:∀n:Nat,(∀f∈fs.take i,f.2.1≠n)->gQ R.ow (.inl ((n:Nat):Int))=none
 ol:R.ow.length<=i
theorem a9U.hand {R:RS}(h:a9U m v fs i R)(k:F93 m fs)(ef:fs[i]? =some f):gQ R.ow (.inl ((f.2.1:Nat):Int))=none/\R.ps[f.1]? =some (S0 0 0 v)/\a9U m v fs (i+1) { R with ps:=R.ps.set f.1 { S0 0 0 v with wt:=(S0 0 0 v).wt++[f.2] },ow:=putK R.ow (.inl ((f.2.1:Nat):Int)) (.int ((f.1:Nat):Int)) }:=by
 have hi:i<fs.length:=(Yf.mp ef).1
 have eg:fs[i]=f:=Yo ((Yb hi).symm.trans ef)
 have tk:fs.take (i+1)=fs.take i++[f]:=by rw[Yg hi,eg]
 have pwt:(fs.take i++[f]).Pairwise fun f g=>f.1<g.1/\f.2.1≠g.2.1:=by rw[<-tk];exact k.pw.sublist (List.take_sublist _ _)
 have old:∀g∈fs.take i,g.1<f.1/\g.2.1≠f.2.1:=fun g hg=>(List.pairwise_append.mp pwt).2.2 g hg f (Yn.mpr rfl)
 have hm:=(k.ok f (Yx ef)).1
 have n0:=h.ow f.2.1 fun g hg=>(old g hg).2
 have g0:gOf (fs.take i) f.1=none:=a8T fun g hg=>by have:=(old g hg).1;omega
 have eS:R.ps[f.1]? =some (S0 0 0 v):=by rw[h.hd.ps f.1 hm];unfold T93;rw[g0];rfl
 refine⟨n0,eS,⟨by show (R.ps.set _ _).length=m;rw[Xp];exact h.hd.ln,fun j hj=>?_,h.hd.bo,h.hd.ev,h.hd.l2,h.hd.sa,h.hd.l4,h.hd.he⟩,fun n hn=>?_,?_⟩
 ·show (R.ps.set f.1 _)[j]? =_
  rw[XB]
  by_cases d:f.1=j
  ·subst d
   rw[if_pos rfl,if_pos (by rw[h.hd.ln];exact hm)]
   unfold T93
   rw [show gOf (fs.take (i+1)) f.1=some f.2 by
    unfold gOf at g0 ⊢
    rw[tk,List.find?_append,Option.map_eq_none_iff.mp g0]
    rw[Option.none_or,List.find?_cons_of_pos (by exact Ye rfl)];rfl]
   rfl
  ·rw [if_neg d,h.hd.ps j hj]
   unfold T93
   rw [show gOf (fs.take (i+1)) j=gOf (fs.take i) j by
    unfold gOf
    rw[tk,List.find?_append,List.find?_cons_of_neg (by simpa using d),List.find?_nil,Option.or_none]]
 ·show gQ (putK _ _ _) _=_
  rw[tk]at hn
  rw[a5A,if_neg fun z=>?_]
  ·exact h.ow n fun g hg=>hn g (YI.mpr (.inl hg))
  ·exact hn f (YI.mpr (.inr (Yn.mpr rfl))) (by have:=Sum.inl.inj z;omega)
 ·show (putK R.ow _ _).length<=_
  rw[a6Y _ n0,Yc]
  exact Xk h.ol
def cn2 (x:Nat->Nat):Nat->Nat
 |0=>0
 |k+1=>cn2 x k+if x k=2 then 1 else 0
theorem a1Y {x:Nat->Nat}:∀{k:Nat},(∀i,i<k->x i=2)->cn2 x k=k
 |0,_=>rfl
 |k+1,h=>by rw[cn2,a1Y fun i hi=>h i (by omega),if_pos (h k (YW _))]
theorem xK {x:Nat->Nat}:∀{k:Nat},(∀i,i<k->x i≠2)->cn2 x k=0
 |0,_=>rfl
 |k+1,h=>by rw[cn2,xK fun i hi=>h i (by omega),if_neg (h k (YW _))]
theorem b9D (v:Nat)(s:Nat×Nat):Vd.wd v s<=2:=by
 unfold wd
 split
 ·omega
 ·split <;> omega
theorem b4T (h:∀p∈ps,0<=p.1/\0<=p.2):wrP ps=Vd.wrL (ps.map fun p=>(p.1.toNat,p.2.toNat)):=by
 funext i p
 unfold wrP Vd.wrL
 rw[Xx,XJ,List.any_eq_true]
 constructor
 ·intro hm
  refine⟨(i,p),YA.mpr ⟨_,hm,?_⟩,?_⟩
  ·show (((i:Nat):Int).toNat,((p:Nat):Int).toNat)=(i,p)
   rw[YB,YB]
  ·show (Nat.beq i i && Nat.beq p p)=true
   rw[iV,iV,Ye rfl,Ye rfl];rfl
 ·rintro ⟨q,hq,e⟩
  obtain⟨z,hz,rfl⟩:=YA.mp hq
  obtain⟨e1,e2⟩:=(Y1 _ _).mp e
  have e1':=Nat.eq_of_beq_eq_true e1
  have e2':=Nat.eq_of_beq_eq_true e2
  have hz0:=h z hz
  have:z=(((i:Nat):Int),((p:Nat):Int)):=by
   obtain⟨z1,z2⟩:=z
   have f1:z1.toNat=i:=e1'
   have f2:z2.toNat=p:=e2'
   have g1:0<=z1:=hz0.1
   have g2:0<=z2:=hz0.2
   rw[show z1=((i:Nat):Int) by omega,show z2=((p:Nat):Int) by omega]
  rw[<-this]
  exact hz
theorem a4C {mm vv:Nat}(ok:a4L ((mm:Nat):Int) ((vv:Nat):Int) ps)(hl:ps.length<=vv / 2):(∀x∈vd mm vv (wrP ps),x=2)\/(¬ (∀p∈ps,9<=p.2)/\∀x∈vd mm vv (wrP ps),x≠2):=by
 obtain⟨h1,h2,h3,h4⟩:=ok
 rw[b4T fun p hp=>⟨(h4 p hp).1,(h4 p hp).2.2.1⟩]
 rcases a7L (few (m:=mm) (v:=vv) (ps:=ps.map fun p=>(p.1.toNat,p.2.toNat)) (by omega) (by omega) (by rw[Ya];exact hl) (fun q hq=>by
  obtain⟨p,hp,rfl⟩:=YA.mp hq
  obtain⟨a,b,c,d⟩:=h4 p hp
  exact⟨by show p.1.toNat<mm;omega,by show p.2.toNat<9+vv;omega⟩)) with h | ⟨h,h'⟩
 ·exact .inl h
 ·refine .inr ⟨fun z=>?_,h'⟩
  have:calm (ps.map fun p=>(p.1.toNat,p.2.toNat))=true:=YQ.mpr fun q hq=>by
   obtain⟨p,hp,rfl⟩:=YA.mp hq
   have:=z p hp
   rw[ble_iff]
   exact Ye (by show 9<=p.2.toNat;omega)
  rw[this]at h
  cases h
def pC (K:W.Frag):Sp:=fun vs H Q _=>∃(a:Addr)(ns:List Int),vs= [.ref a]/\SqL K H a (ns.map V.int)/\ns.length<=63/\a4M 1012 a7B iqT H/\∀H',Q (.bl true) H'
def tvB (b:Bool)(w:Str):V:=if b=true then .str w else .bl false
def dvB (b:Bool)(w:Str):PyData:=if b=true then .str w else .bool false
def wk (i:Nat):Str:=if i=0 then "done" else "takes"
theorem b2L (b:Bool)(w:Str):lY (tvB b w)=true:=by cases b <;> rfl
theorem c0T (b:Bool)(w:Str):inV (tvB b w) [.bl false,.str w]=true:=by
 cases b
 ·rfl
 ·show ((false:Bool) || ((w == w) || false))=true
  rw[beq_self_eq_true];rfl
theorem b4G (b:Bool)(w:Str):DV K H (tvB b w) (dvB b w):=by cases b;exact .bl _;exact .str _
theorem a4X (i:Nat):SeqAt.shaped (.str (wk i))=true:=by unfold wk;split <;> decide +kernel
theorem b4H (b:Bool)(i:Nat):SeqAt.shaped (dvB b (wk i))=true:=by
 cases b
 ·rfl
 ·exact a4X i
theorem a8W (b:Bool)(w:Str):PyData.eqv (dvB b w) (.str w)=b:=by
 cases b
 ·rfl
 ·show (w == w)=true
  exact beq_self_eq_true w
theorem c0S {x:Nat}(h:x<=2):inV (.str (wdS x)) [.str "taken",.str "refused",.str "fault"]=true:=by
 have:x=0\/x=1\/x=2:=by omega
 rcases this with rfl | rfl | rfl <;> decide +kernel
theorem b9C {x:Nat}(h:x<=2):decide (wdS x="taken")=decide (x=2):=by
 have:x=0\/x=1\/x=2:=by omega
 rcases this with rfl | rfl | rfl <;> decide +kernel
theorem c1W {wr:Nat->Nat->Bool}{wd:Nat->Str}(h1:Vd.wd v (St m wr (9+v) (bZ q i))=2->wd i=if i=q then ("done":Str) else ("takes":Str))(h2:Vd.wd v (St m wr (9+v) (bZ q i))≠2->wd i≠"takes"/\wd i≠"done"):tkV wd i=tvB (decide (Vd.wd v (St m wr (9+v) (bZ q i))=2)) (wk (bZ q i)):=by
 unfold tkV tvB
 by_cases c:Vd.wd v (St m wr (9+v) (bZ q i))=2
 ·have e:=h1 c
  have ek:wk (bZ q i)=wd i:=by
   rw[e]
   unfold wk
   by_cases d:i=q
   ·rw[if_pos d,if_pos (by rw[qF];exact d)]
   ·rw[if_neg d,if_neg (by rw[qF];exact d)]
  rw[Ye c,if_pos rfl,ek,if_pos]
  rw[e]
  by_cases d:i=q
  ·rw[if_pos d];exact .inr rfl
  ·rw[if_neg d];exact .inl rfl
 ·rw[Yi c,if_neg fun z=>z.elim (h2 c).1 (h2 c).2,if_neg (by decide)]
theorem b1X {f:Fr}{b:Bool}:PyData.eqv (.list ((if b=true then [] else [f]).map frD)) (.list [])=b:=by cases b <;> rfl
variable (Zc:FB P w K mg base (CX0) 1 "_law_draw" Zg4 ZjF ["_law_script","_law_k","_law_many"] (b5S K))
include ZS in
theorem Zl1 (F0:GFm K mg "_law_draw" ZjY Zg4 ZjF):type_of% Zc:=by
 refine fbM ["_law_script","_law_k","_law_many","_law_cell","_law_seed"] F0 fun Sc0=>F0.F.ok Sc0 (fun vs H Q E h=>?_) fun cdv A outer s H vs Q E hr h=>?_
 ·obtain⟨a,ns,k,m,rfl,_⟩:=h
  rfl
 obtain⟨a,ns,k,m,rfl,hS,h63,k0,k1,m0,q⟩:=h
 have nd:=Sc0.nd
 refine⟨_,(aC (aX (i:=3) nd rfl (Or.inl rfl) (bT (cH (aW tV (bK fC rfl ZS cY (aA (dv 0) aD)) aG (aR _)) (bQ fD (dv 0) (aU oM (dv 1) (bK fC rfl ZS cY (aA (dv 0) aD))) (fun _ _=>rfl)) aG))) (aC (aX (i:=4) nd rfl (Or.inl rfl) (aU cG (aU cG (aU oM (dv 3) aG) (aU jB (aU jB aG (dv 1)) (dv 1))) aG)) (aF (aM (aU oM (aU oM (aU jB (aU oM (aU jB (dv 4) aG) aG) aG) aG) (dv 2)))))),?_⟩
 refine⟨fun x H'=>(∃v,x= .int v)/\H'=H,?_,?_⟩
 ·have hlen:(ns.map V.int).length=ns.length:=Ya _
  refine⟨_,.inl hS,?_⟩
  conv=>whnf
  refine bL (fun c=>?_) (fun c=>⟨⟨_,rfl⟩,rfl⟩)
  have c1:(0:Int)<(((ns.map V.int).length:Nat):Int):=dec_true c
  obtain⟨v,hv⟩:=b8K (ns:=ns) (k:=k) (by rw[hlen]at c1;omega)
  exact⟨_,.inl hS,c1,_,_,hS,hv,⟨v,rfl⟩,rfl⟩
 rintro x H' ⟨⟨v,rfl⟩,rfl⟩
 have k2:31*k*k<=31*100000*100000:=Int.mul_le_mul (by omega) k1 k0 (by decide)
 have k3:0<=31*k*k:=Int.mul_nonneg (by omega) k0
 refine⟨(by show (0:Int)<_;decide),⟨iU (by decide) (by decide),iU (by omega) (by omega)⟩,⟨iU (by omega) (by omega),iU (by omega) (by omega)⟩,?_⟩
 have s0:0<=v % 1000003:=X7 _ (by decide)
 have s1:v % 1000003<1000003:=X0 _ (by decide)
 refine⟨⟨iU (by omega) (by omega),iU (by decide) (by decide)⟩,(by show (0:Int)<_;decide),?_⟩
 have t0:0<=(v % 1000003+31*k*k+1)*48271 % 999983:=X7 _ (by decide)
 have t1:(v % 1000003+31*k*k+1)*48271 % 999983<999983:=X0 _ (by decide)
 refine⟨⟨iU (by omega) (by omega),iU (by decide) (by decide)⟩,(by show (0:Int)<_;decide),m0,?_⟩
 exact q _ (X7 _ (by omega)) (X0 _ m0)
variable (Zca:FB P w K mg base (CX0) 2 "_law_size" Zg5 ZjG ["_law_name","_law_data"] (b0M K))
include ZR ZS ZlK in
theorem Zl2 (F0:GFm K mg "_law_size" ZjZ Zg5 ZjG):type_of% Zca:=by
 refine fbM ["_law_name","_law_data","_law_number","_law_byte","_law_rest","_law_k","_law_whole","_law_wire"] F0 fun Sc0=>F0.F.ok Sc0 (fun vs H Q E h=>?_) fun cdv A outer s H vs Q E hr h=>?_
 ·obtain⟨d,n,ds,rfl,_⟩:=h
  rfl
 obtain⟨d,n,ds,rfl,hS,hn,hl,hall,q⟩:=h
 have nd:=Sc0.nd
 refine⟨_,(aC (aX (i:=2) nd rfl (Or.inl rfl) (aU cG (aU jB (dv 0) aG) (bK fC rfl ZS cY (aA (dv 1) aD)))) (aC (eV YV rfl (cM (dv 1)) (cQ (i:=3) nd rfl (Or.inl rfl)) (aF (aX (i:=2) nd rfl (Or.inl rfl) (aU cG (aU jB (dv 2) aG) (dv 3))))) (aC (aX (i:=4) nd rfl (Or.inl rfl) (aU jB (dv 2) aG)) (aC (eV YV rfl (sS rfl ZR (aA aG (aA aG (aA (a0R a0D aG) aD)))) (cQ (i:=5) nd rfl (Or.inl rfl)) (aF (kW (bJ (aW cV (aU a0E (aU a0B (dv 4) (dv 5)) aG) aG (aR _)) (aF (aX (i:=4) nd rfl (Or.inl rfl) (aU b8S (dv 4) (aU b8U aG (aU gZ (dv 5) aG))))) aV)))) (aC (aX (i:=6) nd rfl (Or.inl rfl) (aU cG (aU jB (dv 2) aG) (dv 4))) (aC (aX (i:=7) nd rfl (Or.inl rfl) (cW aD)) (aC (eV YV rfl (sS rfl ZR (aA (aU cG aG (aU jB aG (bK fC rfl ZS cY (aA (dv 1) aD)))) (aA (a0R a0D aG) (aA (a0R a0D aG) aD)))) (cQ (i:=5) nd rfl (Or.inl rfl)) (aC (bB (cU (dv 7) (aA (aU a0E (aU a0B (dv 6) (dv 5)) aG) aD))) (aF (kW (bJ (PW.pt (kO (aW tV (bK fC rfl ZS cY (aA (dv 7) aD)) aG (aR _)) (jM (aW cV (aU oM (bK (b8T rfl) rfl ZlK b8D (aA (mJ a0A (dv 7) (jT (aU gZ (bK fC rfl ZS cY (aA (dv 7) aD)) aG)) b1O) aD)) aG) aG (aR _))))) (aF (bB (cU (dv 7) (aA (aU gZ aG (bQ fD (dv 7) (aU gZ (bK fC rfl ZS cY (aA (dv 7) aD)) aG) (fun _ _=>rfl))) aD)))) aV))))) (aF (aM (bK fC rfl ZS cY (aA (dv 7) aD))))))))))),?_⟩
 refine⟨⟨iU (by omega) (by omega),by decide⟩,_,.inl hS,?_⟩
 rw[Ya]
 refine⟨⟨_,hS⟩,gM (xs:=ds.map V.int) (fun i σ H'=>(∃x,σ= [some (.int ((n:Nat):Int)),some (.ref d),some (.int ((nm (hdD ((n:Nat):Int) ds.length (ds.take i)):Nat):Int)),x,none,none,none,none])/\H'=H) ⟨⟨none,?_⟩,rfl⟩ (fun i σ H' _ z=>z.2▸hS) ?_ ?_⟩
 ·rw[Jf,b6W hn (by omega)]
  rfl
 ·rintro i x σ H' hx ⟨⟨y,rfl⟩,rfl⟩
  obtain⟨hi,rfl⟩:=nC hx
  have hb:=YQ.mp hall _ (YR hi)
  have hb2:=fY.mp hb
  have hlt:=lX (nA ((n:Nat):Int) ds.length (ds.take i))
  rw[pN,Yr]at hlt
  have h2:2 ^ (12+8*min i ds.length)<=2 ^ 68:=Yy (by decide) (by omega)
  refine⟨⟨rD (n:=68) (by rw[Int.natAbs_natCast];omega),by decide⟩,⟨some (.int ds[i]),?_⟩,rfl⟩
  rw[Yg hi,b6V hb]
  have e:((nm (hdD ((n:Nat):Int) ds.length (ds.take i))*256+(ds[i]).toNat:Nat):Int)=((nm (hdD ((n:Nat):Int) ds.length (ds.take i)):Nat):Int)*256+ds[i]:=by
   rw[Int.natCast_add,Int.natCast_mul,Int.toNat_of_nonneg hb2.1]
   rfl
  rw[e]
  rfl
 rintro σ H1 ⟨⟨x,rfl⟩,rfl⟩
 rw[Ya,Yk (Yd _)]
 have eh:nm (hdD ((n:Nat):Int) ds.length ds)=nm (hd ((n:Nat):Int) ds):=rfl
 rw[eh]
 have hN:=b4F (n:=((n:Nat):Int)) hl
 have de:=b7R (n:=((n:Nat):Int)) hl
 have fe:=c0F (n:=((n:Nat):Int)) (ds:=ds)
 have fbi:∀{i:Nat},i<27+8*ds.length->(fb ((n:Nat):Int) ds)[i]? =some (fG (nm (fb ((n:Nat):Int) ds)) (26+8*ds.length-i)):=fun h=>b7P h
 have fbl:=oH ((n:Nat):Int) ds
 have fbb:=pO ((n:Nat):Int) ds
 have flt:=lX fbb
 rw[fbl]at flt
 have f83:2 ^ (27+8*ds.length)<=2 ^ 83:=Yy (by decide) (by omega)
 generalize nm (hd ((n:Nat):Int) ds)=N at hN de fe
 generalize fb ((n:Nat):Int) ds=bs at fe fbi fbl fbb flt q
 generalize nm bs=M at fe fbi flt
 refine⟨⟨rD (n:=91) (by rw[Int.natAbs_natCast];omega),by decide⟩,by decide,by decide,76,by decide,by decide,?_⟩
 refine qW (fun i σ H'=>(∃y,σ= [some (.int ((n:Nat):Int)),some (.ref d),some (.int ((N:Nat):Int)),x,some (.int ((dvN (N*32768) i:Nat):Int)),y,none,none])/\H'=H1) ⟨⟨none,rfl⟩,rfl⟩ ?_ ?_
 ·rintro i σ H' hi ⟨⟨y,rfl⟩,rfl⟩
  obtain⟨d1,d2⟩:=zK hN i (by omega)
  have ek:(90:Int)+((i:Nat):Int)*(-1)=((90-i:Nat):Int):=by omega
  rw[ek]
  have nx:dvN (N*32768) (i+1)=dvS (dvN (N*32768) i) (90-i):=rfl
  generalize dvN (N*32768) i=z at d1 nx
  refine⟨fun σ' H2=>σ'= [some (.int ((n:Nat):Int)),some (.ref d),some (.int ((N:Nat):Int)),x,some (.int ((dvS z (90-i):Nat):Int)),some (.int ((90-i:Nat):Int)),none,none]/\H2=H',?_,?_⟩
  ·refine⟨by omega,bL (fun c=>?_) (fun c=>?_)⟩
   ·have c1:=dec_true c
    rw[rC]at c1
    have c2:z.testBit (90-i)=true:=by
     unfold fG at c1
     split at c1
     ·assumption
     ·exact absurd c1 (by decide)
    have es:(((90-i:Nat):Int)-15).toNat=90-i-15:=by omega
    have ex:Builtin.bitXor ((z:Nat):Int) (64647*2 ^ (((90-i:Nat):Int)-15).toNat)=((dvS z (90-i):Nat):Int):=by
     rw[es,show (64647:Int)*2 ^ (90-i-15)=((64647*2 ^ (90-i-15):Nat):Int) from by rw[Int.natCast_mul,Int.natCast_pow];rfl,bxor]
     unfold dvS
     rw[if_pos c2,Xl]
    refine⟨⟨by omega,by omega,by decide⟩,?_,rfl⟩
    rw[<-ex]
    rfl
   ·have c1:=dec_false c
    rw[rC]at c1
    have c2:¬ z.testBit (90-i)=true:=fun t=>c1 (by unfold fG;rw[if_pos t])
    refine⟨?_,rfl⟩
    unfold dvS
    rw[if_neg c2]
    rfl
  rintro σ' H2 ⟨rfl,rfl⟩
  exact⟨⟨_,by rw[nx]⟩,rfl⟩
 rintro σ H2 ⟨⟨y,rfl⟩,rfl⟩
 rw[de]
 generalize ckn (hd ((n:Nat):Int) ds)=cc at fe
 have hM:((N:Nat):Int)*32768+((cc:Nat):Int)=((M:Nat):Int):=by omega
 refine⟨⟨rD (n:=91) (by rw[Int.natAbs_natCast];omega),by decide⟩,aL rfl,fun p hp=>?_⟩
 have g0:=aJ hp (.lst [])
 have e0:=aB (H:=H2) (a:=p) (o:= .lst [])
 generalize upd H2 p (.lst [])=H3 at g0 e0
 refine⟨_,.inl (g0.seq hS),?_⟩
 rw[Ya]
 refine⟨⟨by decide,iU (by omega) (by omega)⟩,by decide,b0X hl,27+8*ds.length,yM hl,a3A hl,?_⟩
 refine qW (fun i σ H'=>(∃y,σ= [some (.int ((n:Nat):Int)),some (.ref d),some (.int ((N:Nat):Int)),x,some (.int ((cc:Nat):Int)),y,some (.int ((M:Nat):Int)),some (.ref p)])/\H' p=some (.lst ((put (bs.take i)).map V.int))/\Same H2 H') ⟨⟨y,by rw[<-hM];rfl⟩,e0,g0⟩ ?_ ?_
 ·rintro i σ H' hi ⟨⟨y,rfl⟩,h1,h3⟩
  have pl:=mH (bs.take i)
  rw[Yr]at pl
  have h4:=mG (bs.take i)
  have pb:=vZ (l:=bs.take i) fun b h=>fbb b (XA h)
  have hil:i<bs.length:=by omega
  have hbi:=fbb _ (YR hil)
  have ebi:bs[i]=fG M (26+8*ds.length-i):=by
   have:=fbi hi
   rw[Yb hil]at this
   exact Yo this
  generalize vY hil=ept
  generalize bs[i]=b at ept hbi ebi
  generalize put (bs.take i)=w at h1 pl h4 pb ept
  have ek:(26:Int)+8*((ds.length:Nat):Int)+((i:Nat):Int)*(-1)=((26+8*ds.length-i:Nat):Int):=by omega
  rw[ek]
  have eb:Builtin.bitAnd (((M:Nat):Int) / 2 ^ ((26+8*ds.length-i:Nat):Int).toNat) 1=b:=(rC _ _).trans ebi.symm
  generalize 26+8*ds.length-i=kk at eb
  refine⟨⟨_,SqL.of h1⟩,by omega,_,h1,bR (by rw[Ya];omega),?_⟩
  have h1':upd H' p (.lst (w.map V.int++[.int b])) p=some (.lst ((w++[b]).map V.int)):=by rw[aB,Ym];rfl
  have h3':Same H2 (upd H' p (.lst (w.map V.int++[.int b]))):=h3.put hp
  rw[show (fun i j:Int=>V.int (Builtin.bitAnd i j)) (((M:Nat):Int) / 2 ^ ((kk:Nat):Int).toNat) 1= .int b from YT V.int eb]
  generalize upd H' p (.lst (w.map V.int++[.int b]))=H3 at h1' h3'
  have wb:bO (w++[b]):=fun z hz=>by
   rcases YI.mp hz with h | h
   ·exact pb z h
   ·rw[Yn.mp h];exact hbi
  have wl:(w++[b]).length=w.length+1:=by rw[Yc,Yt]
  have r5:run (w++[b])<=5:=Y9 vV (by omega)
  have rl:=a6Q (w++[b])
  refine⟨fun σ' H4=>σ'= [some (.int ((n:Nat):Int)),some (.ref d),some (.int ((N:Nat):Int)),x,some (.int ((cc:Nat):Int)),some (.int ((kk:Nat):Int)),some (.int ((M:Nat):Int)),some (.ref p)]/\H4 p=some (.lst ((pst w b).map V.int))/\Same H2 H4,?_,?_⟩
  ·have tk:(w++[b]).take (w++[b]).length=w++[b]:=Yk (Yd _)
   refine⟨_,.inl (SqL.of h1'),?_⟩
   rw[Ya]
   conv=>whnf
   refine bL (fun c=>?_) (fun c=>yZ ?_)
   ·have c1:(4:Int)<(((w++[b]).length:Nat):Int):=dec_true c
    refine⟨_,.inl (SqL.of h1'),_,SqL.of h1',fun p5 hp5=>?_⟩
    rw[Ya]
    have ec:(((w++[b]).length:Nat):Int)-5=(((w++[b]).length-5:Nat):Int):=by omega
    have hcut:lQ ((w++[b]).map V.int) (some ((((w++[b]).length:Nat):Int)-5)) none=((w++[b]).drop ((w++[b]).length-5)).map V.int:=by
     rw[ec];exact a9F (by omega)
    refine⟨(w++[b]).drop ((w++[b]).length-5),SqL.of (by rw[<-hcut];exact aB),(by show (0:Int)<5;decide),?_⟩
    have sr:=b0G wb (n:=5) (k:=(w++[b]).length) (by decide) (by omega) (Yd _)
    rw[tk,Yk (l:=(w++[b]).drop ((w++[b]).length-5)) (by rw[XS];omega)]at sr
    have h1'':upd H3 p5 (.lst (lQ ((w++[b]).map V.int) (some ((((w++[b]).length:Nat):Int)-5)) none)) p=some (.lst ((w++[b]).map V.int)):=by rw[aH (aP h1' hp5)];exact h1'
    have h3'':=h3'.trans (aJ hp5 (.lst (lQ ((w++[b]).map V.int) (some ((((w++[b]).length:Nat):Int)-5)) none)))
    generalize upd H3 p5 _=H5 at h1'' h3''
    conv=>whnf
    refine bL (fun c=>?_) (fun c=>?_)
    ·have c2:5<=run (w++[b]):=sr.mp (dec_true c)
     have ep:pst w b=w++[b]++[1-b]:=by unfold pst;rw[if_pos (by omega)]
     have la:atI ((w++[b]).map V.int) ((((w++[b]).map V.int).length:Nat)-(1:Int))=some (.int b):=by
      rw[Ya,wl,show ((w.length+1:Nat):Int)-1=((w.length:Nat):Int) by omega]
      exact fB (by rw[Yl,Yv (Yd _),Xz];rfl)
     refine⟨⟨_,SqL.of h1''⟩,_,.inl (SqL.of h1''),_,_,SqL.of h1'',la,_,h1'',bR (by rw[Ya];omega),rfl,?_,h3''.put hp⟩
     rw[aB,ep,Ym (l₁:=w++[b])];rfl
    ·have c2:¬ 5<=run (w++[b]):=fun z=>dec_false c (sr.mpr z)
     have ep:pst w b=w++[b]:=by unfold pst;rw[if_neg (by omega)]
     rw[ep]
     exact⟨rfl,h1'',h3''⟩
   ·have c1:¬ (4:Int)<(((w++[b]).length:Nat):Int):=dec_false c
    have ep:pst w b=w++[b]:=by unfold pst;rw[if_neg (by omega)]
    rw[ep]
    exact⟨rfl,h1',h3'⟩
  rintro σ' H4 ⟨rfl,k1,k2⟩
  exact⟨⟨_,rfl⟩,by rw[ept];exact k1,k2⟩
 rintro σ H4 ⟨⟨y,rfl⟩,h1,h3⟩
 rw[Yk (by omega)]at h1
 refine⟨_,.inl (SqL.of h1),?_⟩
 rw[Ya]
 exact q H4 h3
variable (Zbh:FB P w K mg base (CX0) 3 "_law_frames" ZfE Zh5 ["_law_script","_law_posts"] (b0P K))
include ZR Zc in
theorem ZkZ (F0:GFm K mg "_law_frames" Zim ZfE Zh5):type_of% Zbh:=by
 refine fbM ["_law_script","_law_posts","_law_frames_here","_law_first","_law_post","_law_name","_law_names","_law_data"] F0 fun Sc0=>F0.F.ok Sc0 (fun vs H Q E h=>?_) fun cdv A outer s H vs Q E hr h=>?_
 ·obtain⟨a,ss,m,rfl,_⟩:=h
  rfl
 obtain⟨a,ss,m,rfl,hS,h63,m2,m5,Qq⟩:=h
 have nd:=Sc0.nd
 refine⟨_,(aC (aX (i:=2) nd rfl (Or.inl rfl) (cW aD)) (aC (aX (i:=3) nd rfl (Or.inl rfl) (aQ Zc.1 (hr.mono (by decide)) rfl Zc.2.2.2 Zc.2.2.1 Zc.2.1 .nil aK (aA (dv 0) (aA aG (aA (dv 1) aD))))) (aC (eV YV rfl (dO rfl ZR (aA (dv 1) aD)) (cQ (i:=4) nd rfl (Or.inl rfl)) (aC (aX (i:=5) nd rfl (Or.inl rfl) (aQ Zc.1 (hr.mono (by decide)) rfl Zc.2.2.2 Zc.2.2.1 Zc.2.1 .nil aK (aA (dv 0) (aA (aU cG aG (dv 4)) (aA aG aD))))) (aC (jN (j:=6) nd rfl rfl rfl (ix:=[]) (cM (dv 2)) (fun C fp s0 H0 at0=>cZ) (fun C fp s0 H0 at0=>(bQ (iW (K:=K)) (dv 0) aG (fun _ _=>rfl))) rfl rfl (by rfl) (show ([".0","_law_one"]:List Str).Nodup by decide +kernel)) (aC (wA YV (aW b3B (dv 5) (dv 6) rfl) (aF (aX (i:=5) nd rfl (Or.inl rfl) (aU oM (aU cG (dv 5) aG) aG)))) (aF (bJ (PW.pt (sH (aW cV (dv 4) (dv 3) (aR _)) (nU (aW cV (aQ Zc.1 (hr.mono (by decide)) rfl Zc.2.2.2 Zc.2.2.1 Zc.2.1 .nil aK (aA (dv 0) (aA (aU cG aG (dv 4)) (aA aG aD)))) aG (aR _))))) (aC (aX (i:=7) nd rfl (Or.inl rfl) (aU a0C (cW (aA (aQ Zc.1 (hr.mono (by decide)) rfl Zc.2.2.2 Zc.2.2.1 Zc.2.1 .nil aK (aA (dv 0) (aA (aU cG aG (dv 4)) (aA aG aD)))) aD)) (aQ Zc.1 (hr.mono (by decide)) rfl Zc.2.2.2 Zc.2.2.1 Zc.2.1 .nil aK (aA (dv 0) (aA (aU cG aG (dv 4)) (aA aG aD)))))) (aF (bB (cU (dv 2) (aA (bU (aA (dv 4) (aA (dv 5) (aA (dv 7) aD)))) aD))))) aV)))))) (aF (aM (dv 2)))))),?_⟩
 refine⟨aL rfl,fun l hl=>?_⟩
 generalize eU:upd H l _=H1
 have g1:=nS hl eU
 have el:=nE eU
 clear eU
 refine⟨a,ss,3,_,rfl,g1.seq hS,h63,by decide,by decide,by omega,fun fi f0 f1=>?_⟩
 obtain⟨fi,rfl⟩:=YX f0
 refine⟨⟨by omega,by omega⟩,?_⟩
 rw[YB]
 refine jG (lo:=0) (n:=m) (fun i σ H'=>(∃x4 x5 x6 x7,σ= [some (.ref a),some (.int ((m:Nat):Int)),some (.ref l),some (.int ((fi:Nat):Int)),x4,x5,x6,x7])/\Same H H'/\(∀x,H' x=none->H1 x=none)/\∃(ts:List Addr)(fs:List (Nat×Nat×List Int)),H' l=some (.lst (ts.map V.ref))/\ts.length=fs.length/\(∀(j:Nat)(t:Addr)(f:Nat×Nat×List Int),ts[j]? =some t->fs[j]? =some f->∃d,H1 d=none/\H' t=some (frT f d)/\H' d=some (.lst (f.2.2.map V.int)))/\F93 i fs/\(fi<i->fs≠ [])) ⟨⟨_,_,_,_,rfl⟩,g1,fun x z=>z, [], [],el,rfl,fun j t f h=>by simp at h,⟨fun f hf=>(by cases hf),List.Pairwise.nil,Yd _⟩,fun z=>absurd z (Xi _)⟩ ?_ ?_
 ·rintro i σ H2 hi ⟨⟨x4,x5,x6,x7,rfl⟩,g2,nn,ts,fs,e2,lt,hts,hF,hne⟩
  rw[XM]
  refine⟨a,ss,_,256,rfl,g2.seq hS,h63,(by show 0<=30+((i:Nat):Int);omega),(by show 30+((i:Nat):Int)<=100000;omega),by decide,fun n n0 n1=>?_⟩
  obtain⟨n,rfl⟩:=YX n0
  refine⟨⟨_,SqL.of e2⟩,cR (xs:=ts.map V.ref) (fun j ys H'=>H'=H2/\ys=(nI ((fs.map fun f=>f.2.1).take j)).map V.int) ?_ ?_ ?_ ?_ ?_⟩
  ·rintro j ys H' hj ⟨_,rfl⟩
   have:=hF.ln
   rw[Ya,Ya,Yr,Ya]
   exact bR (by omega)
  ·exact⟨rfl,rfl⟩
  ·rintro j ys H' hj ⟨rfl,_⟩
   exact SqL.of e2
  ·rintro j x ys H' hx ⟨rfl,rfl⟩
   rw[Yl]at hx
   obtain⟨t,ht,rfl⟩:=YH.mp hx
   have hj:j<fs.length:=by rw[<-lt];exact(Yf.mp ht).1
   obtain⟨f,ef⟩:∃f,fs[j]? =some f:=⟨_,Yb hj⟩
   obtain⟨d,_,et,_⟩:=hts j t f ht ef
   refine⟨_,_,SqT.of et,rfl,rfl,?_⟩
   have hj':j<(fs.map fun f=>f.2.1).length:=by rw[Ya];exact hj
   have eg:(fs.map fun f=>f.2.1)[j]=f.2.1:=by rw[XT,Yo ((Yb hj).symm.trans ef)]
   rw[Yg hj',eg,nI,nI,Ym,Ym]
   rfl
  rintro ys H3 ⟨rfl,rfl⟩ nl hnl
  rw[Ya,lt,Yk (by rw[Ya];omega)]
  have g3:=aJ hnl (.lst ((nI (fs.map fun f=>f.2.1)).map V.int))
  have enl:=aB (H:=H3) (a:=nl) (o:= .lst ((nI (fs.map fun f=>f.2.1)).map V.int))
  have nn4:∀x,upd H3 nl (.lst ((nI (fs.map fun f=>f.2.1)).map V.int)) x=none->H1 x=none:=fun x z=>nn x (g3.none z)
  generalize upd H3 nl _=H4 at g3 enl nn4
  have g24:=g2.trans g3
  have e4:=g3 _ _ e2
  obtain⟨y,hy,ny⟩:=tH 256 (fs.map fun f=>f.2.1) (by rw[Ya];have:=hF.ln;omega)
  have fin :∀(s2 t:Addr)(ds:List Int)(H6:Hp)(n:Nat),Same H4 H6->H6 t=none->H1 s2=none->H6 s2=some (.lst (ds.map V.int))->F93 (i+1) (fs++[(i,n,ds)])->∃xs,upd H6 t (frT (i,n,ds) s2) l=some (.lst xs)/\xs.length<sizeLine/\(∃x4 x5 x6 x7, [some (V.ref a),some (.int ((m:Nat):Int)),some (.ref l),some (.int ((fi:Nat):Int)),some (.int ((i:Nat):Int)),some (.int ((n:Nat):Int)),some (.ref nl),some (.ref s2)]= [some (.ref a),some (.int ((m:Nat):Int)),some (.ref l),some (.int ((fi:Nat):Int)),x4,x5,x6,x7])/\Same H (upd (upd H6 t (frT (i,n,ds) s2)) l (.lst (xs++[.ref t])))/\(∀x,upd (upd H6 t (frT (i,n,ds) s2)) l (.lst (xs++[.ref t])) x=none->H1 x=none)/\∃(ts':List Addr)(fs':List (Nat×Nat×List Int)),upd (upd H6 t (frT (i,n,ds) s2)) l (.lst (xs++[.ref t])) l=some (.lst (ts'.map V.ref))/\ts'.length=fs'.length/\(∀(j:Nat)(t':Addr)(f:Nat×Nat×List Int),ts'[j]? =some t'->fs'[j]? =some f->∃d,H1 d=none/\upd (upd H6 t (frT (i,n,ds) s2)) l (.lst (xs++[.ref t])) t'=some (frT f d)/\upd (upd H6 t (frT (i,n,ds) s2)) l (.lst (xs++[.ref t])) d=some (.lst (f.2.2.map V.int)))/\F93 (i+1) fs'/\(fi<i+1->fs'≠ []):=fun s2 t ds H6 n k46 ht d1 es2 hF'=>by
   generalize eU:upd H6 t _=H7
   have g7:=nS ht eU
   have et:=nE eU
   clear eU
   have k47:=k46.trans g7
   have e7:=k47 _ _ e4
   have kl:∀x u,x≠l->H7 x=some u->upd H7 l (.lst (ts.map V.ref++[.ref t])) x=some u:=fun x u n e=>by rw[aH n];exact e
   have tl:∀{x f d},H7 x=some (frT f d)->x≠l:=fun {x f d} e z=>by rw[z,e7]at e;cases e
   have dl:∀{x},H1 x=none->x≠l:=fun {x} e z=>by rw[z,el]at e;cases e
   refine⟨_,e7,bR (by rw[Ya];have:=hF.ln;omega),⟨_,_,_,_,rfl⟩,(g24.trans k47).put hl,fun x z=>?_,ts++[t],fs++[(i,n,ds)],by rw[aB,Ym];rfl,by rw[Yc,Yc,lt];rfl,fun j t' f h1 h2=>?_,hF',fun _ z=>?_⟩
   ·by_cases c:x=l
    ·rw[c,aB]at z;cases z
    ·rw[aH c]at z;exact nn4 x (k47.none z)
   ·by_cases c:j<fs.length
    ·rw[YF (by omega)]at h1 h2
     obtain⟨d,a1,a2,a3⟩:=hts j t' f h1 h2
     have a2':=k47 _ _ (g3 _ _ a2)
     exact⟨d,a1,kl _ _ (tl a2') a2',kl _ _ (dl a1) (k47 _ _ (g3 _ _ a3))⟩
    ·rw [Yv (by omega)]at h1 h2
     rw[lt]at h1
     cases ej:j-fs.length with
     | zero=>
      rw[ej]at h1 h2
      cases h1
      cases h2
      exact⟨s2,d1,kl _ _ (tl et) et,kl _ _ (dl d1) (g7 _ _ es2)⟩
     |succ k=>rw[ej]at h1;cases h1
   ·cases fs <;> cases z
  refine⟨fun k σ H'=>(∃n:Nat,σ= [some (.ref a),some (.int ((m:Nat):Int)),some (.ref l),some (.int ((fi:Nat):Int)),some (.int ((i:Nat):Int)),some (.int ((n:Nat):Int)),some (.ref nl),x7]/\n<256/\¬ (n+k) % 256∈fs.map fun f=>f.2.1)/\H'=H4,⟨y+256-n,⟨n,rfl,by omega,by rw[show n+(y+256-n)=y+256 by omega,Nat.add_mod_right,Nat.mod_eq_of_lt hy];exact ny⟩,rfl⟩,?_⟩
  rintro k σ H' ⟨⟨n,rfl,hn,nk⟩,rfl⟩
  refine⟨_,.inl (SqL.of enl),?_⟩
  conv=>whnf
  refine bL (fun c=>?_) (fun c=>?_)
  ·have c1:=a7X.mp (dec_true c)
   cases k with
   |zero=>rw[Nat.add_zero,Nat.mod_eq_of_lt hn]at nk;exact absurd c1 nk
   | succ k=>
    refine⟨fun σ' H1=>(∃n:Nat,σ'= [some (.ref a),some (.int ((m:Nat):Int)),some (.ref l),some (.int ((fi:Nat):Int)),some (.int ((i:Nat):Int)),some (.int ((n:Nat):Int)),some (.ref nl),x7]/\n<256/\¬ (n+k) % 256∈fs.map fun f=>f.2.1)/\H1=H',fun σ' H1 z=>⟨k,YW _,z⟩,?_⟩
    conv=>whnf
    exact⟨(by show (0:Int)<256;decide),⟨(n+1) % 256,rfl,Nat.mod_lt _ (by decide),by rw[Nat.mod_add_mod,show n+1+k=n+(k+1) by omega];exact nk⟩,rfl⟩
  have nk:¬ n∈fs.map fun f=>f.2.1:=fun z=>dec_false c (a7X.mpr z)
  clear n0 n1
  conv=>whnf
  refine bL (fun c=>?_) (fun c=>?_)
  ·refine⟨a,ss,_,256,rfl,g24.seq hS,h63,(by show 0<=70+((i:Nat):Int);omega),(by show 70+((i:Nat):Int)<=100000;omega),by decide,fun x x0 x1=>?_⟩
   refine⟨aL rfl,fun s1 hs1=>?_⟩
   generalize eU:upd H' s1 _=H5
   have g5:=nS hs1 eU
   have es1:=nE eU
   clear eU
   refine⟨a,ss,_,2,rfl,(g24.trans g5).seq hS,h63,(by show 0<=50+((i:Nat):Int);omega),(by show 50+((i:Nat):Int)<=100000;omega),by decide,fun u u0 u1=>?_⟩
   obtain⟨u,rfl⟩:=YX u0
   refine⟨_,es1,⟨by omega,by omega⟩,by rw[YB];exact Xm (bR (by show 1*u<=1000;omega)),fun s2 hs2=>?_⟩
   rw[YB,pH,show List.replicate u (V.int x)=(List.replicate u x).map V.int from List.map_replicate.symm]
   generalize eU:upd H5 s2 _=H6
   have g6:=nS hs2 eU
   have es2:=nE eU
   have d1:=nn4 _ (g5.none hs2)
   clear eU
   have k46:=g5.trans g6
   refine⟨⟨_,SqL.of (k46 _ _ e4)⟩,aL rfl,fun t ht=>?_⟩
   have hfr:FrN (n,List.replicate u x):=⟨hn,by show (List.replicate u x).length<=7;rw[Yu];omega,YQ.mpr fun w hw=>by rw[YY hw];exact fY.mpr ⟨x0,by omega⟩⟩
   exact fin s2 t _ H6 _ k46 ht d1 es2 (hF.snoc hfr (by rw[Yu];omega) nk)
  refine⟨a,ss,_,3,rfl,g24.seq hS,h63,(by show 0<=40+((i:Nat):Int);omega),(by show 40+((i:Nat):Int)<=100000;omega),by decide,fun w w0 w1=>?_⟩
  conv=>whnf
  refine bL (fun c2=>?_) (fun c2=>?_)
  ·refine⟨a,ss,_,256,rfl,g24.seq hS,h63,(by show 0<=70+((i:Nat):Int);omega),(by show 70+((i:Nat):Int)<=100000;omega),by decide,fun x x0 x1=>?_⟩
   refine⟨aL rfl,fun s1 hs1=>?_⟩
   generalize eU:upd H' s1 _=H5
   have g5:=nS hs1 eU
   have es1:=nE eU
   clear eU
   refine⟨a,ss,_,2,rfl,(g24.trans g5).seq hS,h63,(by show 0<=50+((i:Nat):Int);omega),(by show 50+((i:Nat):Int)<=100000;omega),by decide,fun u u0 u1=>?_⟩
   obtain⟨u,rfl⟩:=YX u0
   refine⟨_,es1,⟨by omega,by omega⟩,by rw[YB];exact Xm (bR (by show 1*u<=1000;omega)),fun s2 hs2=>?_⟩
   rw[YB,pH,show List.replicate u (V.int x)=(List.replicate u x).map V.int from List.map_replicate.symm]
   generalize eU:upd H5 s2 _=H6
   have g6:=nS hs2 eU
   have es2:=nE eU
   have d1:=nn4 _ (g5.none hs2)
   clear eU
   have k46:=g5.trans g6
   refine⟨⟨_,SqL.of (k46 _ _ e4)⟩,aL rfl,fun t ht=>?_⟩
   have hfr:FrN (n,List.replicate u x):=⟨hn,by show (List.replicate u x).length<=7;rw[Yu];omega,YQ.mpr fun w hw=>by rw[YY hw];exact fY.mpr ⟨x0,by omega⟩⟩
   exact fin s2 t _ H6 _ k46 ht d1 es2 (hF.snoc hfr (by rw[Yu];omega) nk)
  refine⟨⟨_,_,_,_,rfl⟩,g24,nn4,ts,fs,e4,lt,fun j t f h1 h2=>let ⟨d,a1,a2,a3⟩:=hts j t f h1 h2;⟨d,a1,g3 _ _ a2,g3 _ _ a3⟩,hF.more,fun z=>hne ?_⟩
  have:¬ ((i:Nat):Int)=((fi:Nat):Int):=dec_false c
  omega
 rintro σ H2 ⟨⟨x4,x5,x6,x7,rfl⟩,g2,nn,ts,fs,e2,lt,hts,hF,hne⟩
 exact Qq l ts fs H2 hl g2 e2 lt (fun i t f h1 h2=>let ⟨d,_,a2,a3⟩:=hts i t f h1 h2;⟨d,a2,a3⟩) hF (hne (by omega))
variable (Zbx:FB P w K mg base (CX0) 2 "_law_wrong" Zgf ZiS ["_law_script","_law_posts","_law_votes"] (a2Q K))
include ZR Zc in
theorem Zlu (F0:GFm K mg "_law_wrong" Zjf Zgf ZiS):type_of% Zbx:=by
 refine fbM ["_law_script","_law_posts","_law_votes","_law_wrong_here","_law_late","_law_alone","_law_k","_law_post","_law_place"] F0 fun Sc0=>F0.F.ok Sc0 (fun vs H Q E h=>?_) fun cdv A outer s H vs Q E hr h=>?_
 ·obtain⟨a,ss,m,v,rfl,_⟩:=h
  rfl
 obtain⟨a,ss,m,v,rfl,hS,h63,m2,m5,v1,v5,Qq⟩:=h
 have nd:=Sc0.nd
 refine⟨_,(aC (aX (i:=3) nd rfl (Or.inl rfl) (cW aD)) (aC (aX (i:=4) nd rfl (Or.inl rfl) (cL cV (aQ Zc.1 (hr.mono (by decide)) rfl Zc.2.2.2 Zc.2.2.1 Zc.2.1 .nil aK (aA (dv 0) (aA aG (aA aG aD)))) aG (aR _))) (aC (aX (i:=5) nd rfl (Or.inl rfl) (cL cV (aQ Zc.1 (hr.mono (by decide)) rfl Zc.2.2.2 Zc.2.2.1 Zc.2.1 .nil aK (aA (dv 0) (aA aG (aA aG aD)))) aG (aR _))) (aC (eV YV rfl (dO rfl ZR (aA (aQ Zc.1 (hr.mono (by decide)) rfl Zc.2.2.2 Zc.2.2.1 Zc.2.1 .nil aK (aA (dv 0) (aA aG (aA aG aD)))) aD)) (cQ (i:=6) nd rfl (Or.inl rfl)) (aC (aX (i:=7) nd rfl (Or.inl rfl) (aQ Zc.1 (hr.mono (by decide)) rfl Zc.2.2.2 Zc.2.2.1 Zc.2.1 .nil aK (aA (dv 0) (aA (aU cG aG (dv 6)) (aA (dv 1) aD))))) (aC (aX (i:=8) nd rfl (Or.inl rfl) (aQ Zc.1 (hr.mono (by decide)) rfl Zc.2.2.2 Zc.2.2.1 Zc.2.1 .nil aK (aA (dv 0) (aA (aU cG aG (dv 6)) (aA (aU cG aG (dv 2)) aD))))) (aC (kW (bJ (cP (dv 4)) (aF (aX (i:=8) nd rfl (Or.inl rfl) (aU cG aG (aU oM (dv 8) (dv 2))))) aV)) (aC (kW (bJ (cP (dv 5)) (aF (aX (i:=7) nd rfl (Or.inl rfl) (aQ Zc.1 (hr.mono (by decide)) rfl Zc.2.2.2 Zc.2.2.1 Zc.2.1 .nil aK (aA (dv 0) (aA aG (aA (dv 1) aD)))))) aV)) (aF (bJ (aW (a4P hr.units1) (bU (aA (dv 7) (aA (dv 8) aD))) (dv 3) rfl) (aF (bB (cU (dv 3) (aA (bU (aA (dv 7) (aA (dv 8) aD))) aD)))) aV))))))) (aF (aM (dv 3))))))),?_⟩
 refine⟨aL rfl,fun l hl=>?_⟩
 generalize eU:upd H l _=H1
 have g1:=nS hl eU
 have el:=nE eU
 clear eU
 refine⟨a,ss,4,2,rfl,g1.seq hS,h63,by decide,by decide,by decide,fun z1 _ _=>?_⟩
 refine⟨a,ss,5,3,rfl,g1.seq hS,h63,by decide,by decide,by decide,fun z2 _ _=>?_⟩
 refine⟨a,ss,6,5,rfl,g1.seq hS,h63,by decide,by decide,by decide,fun z3 z30 z31=>?_⟩
 obtain⟨N,rfl⟩:=YX z30
 generalize decide (z1=1)=late
 generalize decide (z2=1)=alone
 refine⟨⟨by omega,by omega⟩,?_⟩
 rw[YB]
 refine jG (lo:=0) (n:=N) (fun i σ H'=>(∃x6 x7 x8,σ= [some (.ref a),some (.int ((m:Nat):Int)),some (.int ((v:Nat):Int)),some (.ref l),some (.bl late),some (.bl alone),x6,x7,x8])/\Same H H'/\∃(qs:List Addr)(ps:List (Int×Int)),H' l=some (.lst (qs.map V.ref))/\qs.length=ps.length/\ps.length<=i/\(∀(j:Nat)(t:Addr)(p:Int×Int),qs[j]? =some t->ps[j]? =some p->H' t=some (.tup [.int p.1,.int p.2]))/\∀p∈ps,0<=p.1/\p.1<((m:Nat):Int)/\0<=p.2/\p.2<9+((v:Nat):Int)) ⟨⟨_,_,_,rfl⟩,g1, [], [],el,rfl,Yd _,fun j t p h=>by simp at h,fun p hp=>(by cases hp)⟩ ?_ ?_
 ·rintro i σ H2 hi ⟨⟨x6,x7,x8,rfl⟩,g2,qs,ps,e2,lq,lp,hq,hok⟩
  rw[XM]
  refine⟨a,ss,_,_,rfl,g2.seq hS,h63,(by show 0<=90+((i:Nat):Int);omega),(by show 90+((i:Nat):Int)<=100000;omega),by omega,fun x x0 x1=>?_⟩
  refine⟨a,ss,_,_,rfl,g2.seq hS,h63,(by show 0<=100+((i:Nat):Int);omega),(by show 100+((i:Nat):Int)<=100000;omega),(by show 0<9+((v:Nat):Int);omega),fun y y0 y1=>?_⟩
  refine⟨fun σ' H'=>(∃y,σ'= [some (.ref a),some (.int ((m:Nat):Int)),some (.int ((v:Nat):Int)),some (.ref l),some (.bl late),some (.bl alone),some (.int ((i:Nat):Int)),some (.int x),some (.int y)]/\0<=y/\y<9+((v:Nat):Int))/\H2=H',?_,?_⟩
  ·conv=>whnf
   cases late with
   | true=>
    conv=>whnf
    refine⟨(by show 0<((v:Nat):Int);omega),⟨_,rfl,?_,?_⟩,rfl⟩
    ·have:=X7 y (show ((v:Nat):Int)≠0 by omega);omega
    ·have:=X0 y (show 0<((v:Nat):Int) by omega);omega
   |false=>exact⟨⟨y,rfl,y0,y1⟩,rfl⟩
  rintro σ' H3 ⟨⟨y,rfl,y0,y1⟩,rfl⟩
  refine⟨fun σ' H'=>(∃x,σ'= [some (.ref a),some (.int ((m:Nat):Int)),some (.int ((v:Nat):Int)),some (.ref l),some (.bl late),some (.bl alone),some (.int ((i:Nat):Int)),some (.int x),some (.int y)]/\0<=x/\x<((m:Nat):Int))/\H2=H',?_,?_⟩
  ·conv=>whnf
   cases alone with
   |true=>exact⟨a,ss,7,_,rfl,g2.seq hS,h63,by decide,by decide,by omega,fun x x0 x1=>⟨⟨x,rfl,x0,x1⟩,rfl⟩⟩
   |false=>exact⟨⟨x,rfl,x0,x1⟩,rfl⟩
  rintro σ' H3 ⟨⟨x,rfl,x0,x1⟩,rfl⟩
  refine⟨aL rfl,fun t ht=>?_⟩
  generalize eU:upd H2 t _=H3
  have g3:=nS ht eU
  have et:=nE eU
  clear eU
  refine⟨(x,y),ps,qs,SqT.of et,SqL.of (g3 _ _ e2),gW.of lq fun j t' p h1 h2=>g3 _ _ (hq j t' p h1 h2),?_⟩
  conv=>whnf
  refine bL (fun c=>?_) (fun c=>?_)
  ·refine⟨⟨_,SqL.of (g3 _ _ e2)⟩,aL rfl,fun t2 ht2=>?_⟩
   generalize eU:upd H3 t2 _=H4
   have g4:=nS ht2 eU
   have et2:=nE eU
   clear eU
   have e4:=g4 _ _ (g3 _ _ e2)
   have kT:∀z zs,H4 z=some (.tup zs)->upd H4 l (.lst (qs.map V.ref++[.ref t2])) z=some (.tup zs):=fun z zs e=>by rw[aH fun q=>by rw[q,e4]at e;cases e];exact e
   refine⟨_,e4,bR (by rw[Ya];omega),⟨_,_,_,rfl⟩,((g2.trans g3).trans g4).put hl,qs++[t2],ps++[(x,y)],by rw[aB,Ym];rfl,by rw[Yc,Yc,lq];rfl,by rw[Yc];exact Xk lp,fun j t' p h1 h2=>?_,fun p hp=>?_⟩
   ·by_cases c:j<ps.length
    ·rw[YF (by omega)]at h1 h2
     exact kT _ _ (g4 _ _ (g3 _ _ (hq j t' p h1 h2)))
    ·rw[Yv (by omega)]at h1 h2
     rw[lq]at h1
     cases ej:j-ps.length with
     |zero=>rw[ej]at h1 h2;cases h1;cases h2;exact kT _ _ et2
     |succ k=>rw[ej]at h1;cases h1
   ·rcases YI.mp hp with z | z
    ·exact hok p z
    ·rw[Yn.mp z];exact⟨x0,x1,y0,y1⟩
  ·exact⟨⟨_,_,_,rfl⟩,g2.trans g3,qs,ps,g3 _ _ e2,lq,Xo lp,fun j t' p h1 h2=>g3 _ _ (hq j t' p h1 h2),hok⟩
 rintro σ H2 ⟨⟨x6,x7,x8,rfl⟩,g2,qs,ps,e2,lq,lp,hq,hok⟩
 exact Qq l qs ps H2 hl g2 e2 lq hq (by omega) hok
variable (Zcb:FB P w K mg base (CX0) 2 "_law_took" Zg6 ZjH ["_law_rail","_law_posts","_law_turn"] (a5N K Zn CA))
include ZaI Zb ZbQ Zcx in
theorem Zl3 (F0:GFm K mg "_law_took" Zj0 Zg6 ZjH):type_of% Zcb:=by
 refine fbM ["_law_rail","_law_posts","_law_turn","_law_took_here","_law_event"] F0 fun Sc0=>F0.F.ok Sc0 (fun vs H Q E h=>?_) fun cdv A outer s H vs Q E hr h=>?_
 ·obtain⟨r,R,o,w,m,t,es,wd,rfl,_⟩:=h
  rfl
 obtain⟨r,R,o,w,m,t,es,wd,rfl,hR,m5,hev,hes,Qq⟩:=h
 have nd:=Sc0.nd
 refine⟨_,(aC (aX (i:=3) nd rfl (Or.inl rfl) (aU a0C (cW (aA iD aD)) (dv 1))) (aC (eV YV rfl (cM (bW Zb ZbQ Zcx.1 (hr.mono (by decide)) Zcx.2 .nil aK (dv 0))) (cQ (i:=4) nd rfl (Or.inl rfl)) (aF (bJ (PW.pt (kO (aW cV (bQ eE (dv 4) aG (fun _ _=>rfl)) (dv 2) (aR _)) (jM (aW sI (bQ eE (dv 4) aG (fun _ _=>rfl)) (bU (aA bD (aA bD aD))) rfl)))) (aF (b6A (bQ eE (dv 4) aG (fun _ _=>rfl)) (b6C (dv 3) (bQ eE (dv 4) aG (fun _ _=>rfl)) b4P))) aV))) (aF (aM (dv 3))))),?_⟩
 refine⟨aL rfl,fun s1 hs1=>?_⟩
 generalize eU:upd H s1 _=H1
 have g1:=nS hs1 eU
 have es1:=nE eU
 clear eU
 refine⟨_,es1,⟨by omega,by omega⟩,by rw[YB];exact Xm (bR (by show 1*m<=1000;omega)),fun l hl=>?_⟩
 rw[YB,pH]
 generalize eU:upd H1 l _=H2
 have g2:=nS hl eU
 have el:=nE eU
 have hl0:=g1.none hl
 clear eU
 have g12:=g1.trans g2
 have hR2:=hR.same g12
 refine⟨⟨w.dx,_,hR2.er,rfl⟩,r,R,o,w,rfl,hR2,fun ll hll=>?_⟩
 generalize eU:upd H2 ll _=H3
 have g3:=nS hll eU
 have ell:=nE eU
 have el3:=g3 _ _ el
 have nll:ll≠l:=fun z=>by rw[z,el]at hll;cases hll
 clear eU
 have g13:=g12.trans g3
 have hE:gP H3 w.evs R.ev:=hR2.ev.imp fun x xs z=>g3 _ _ z
 have lE:=hE.len
 refine⟨⟨_,SqL.of ell⟩,gM (xs:=w.evs) (fun i σ H'=>(∃x,σ= [some (.ref r),some (.int ((m:Nat):Int)),some (.int ((t:Nat):Int)),some (.ref l),x])/\Same H H'/\(∀x xs,H3 x=some (.tup xs)->H' x=some (.tup xs))/\H' ll=some (.lst w.evs)/\H' l=some (.lst ((R.ev.take i).foldl (tkS t) (List.replicate m (.bl false))))) ⟨⟨_,rfl⟩,g13,fun _ _ z=>z,ell,el3⟩ (fun i σ H' _ z=>SqL.of z.2.2.2.1) ?_ ?_⟩
 ·rintro i x σ H' hx ⟨⟨y,rfl⟩,gH,kT,eL,eT⟩
  obtain⟨te,e,rfl,ee,et⟩:=hE.get hx
  have et':=kT _ _ et
  have hi:i<R.ev.length:=(Yf.mp ee).1
  have tk:(R.ev.take (i+1)).foldl (tkS t) (List.replicate m (V.bl false))=tkS t ((R.ev.take i).foldl (tkS t) (List.replicate m (.bl false))) e:=by
   rw[Yg hi,Yo ((Yb hi).symm.trans ee),Y8]
   rfl
  have nop:¬ (e.1=t/\a3X e.2.2)->(R.ev.take i).foldl (tkS t) (List.replicate m (V.bl false))=(R.ev.take (i+1)).foldl (tkS t) (List.replicate m (.bl false)):=fun z=>by rw[tk];exact(if_neg z).symm
  refine⟨_,_,SqT.of et',rfl,bL (fun c=>?_) (fun c=>?_)⟩
  ·have c1:e.1=t:=by have:=dec_true c;omega
   refine⟨_,_,SqT.of et',rfl,aL rfl,fun tt htt=>?_⟩
   generalize eU:upd H' tt _=H4
   have g4:=nS htt eU
   have ett:=nE eU
   clear eU
   refine⟨tt,_,rfl,.inr (SqT.of ett),rfl,rfl,?_⟩
   rw[c3C]
   conv=>whnf
   refine bL (fun d=>?_) (fun d=>?_)
   ·have d1:=dec_true d
    have em:e.2.1<m:=by
     have:=Yx ee
     rw[hev]at this
     rcases YI.mp this with z | z
     ·have:=hes e z;omega
     ·exact(pP z).2.1
    refine⟨_,_,SqT.of (g4 _ _ et'),rfl,_,_,SqT.of (g4 _ _ et'),rfl,_,e.2.1,g4 _ _ eT,?_,⟨_,rfl⟩,(gH.trans g4).put hl0,fun x xs z=>?_,?_,?_⟩
    ·rw[a0I,Yu]
     exact b2H em
    ·have z4:=g4 _ _ (kT x xs z)
     rw[aH fun q=>by rw[q,g4 _ _ eT]at z4;cases z4]
     exact z4
    ·rw[aH nll];exact g4 _ _ eL
    ·rw[aB,tk]
     exact YT (fun z=>some (HO.lst z)) (if_pos ⟨c1,d1⟩).symm
   ·exact⟨⟨_,rfl⟩,gH.trans g4,fun x xs z=>g4 _ _ (kT x xs z),g4 _ _ eL,by rw[<-nop fun z=>dec_false d z.2];exact g4 _ _ eT⟩
  ·exact⟨⟨_,rfl⟩,gH,kT,eL,by rw[<-nop fun z=>dec_false c (by rw[z.1])];exact eT⟩
 rintro σ H' ⟨⟨x,rfl⟩,gH,kT,eL,eT⟩
 rw[lE,Yk (Yd _),hev,b4Y hes]at eT
 exact Qq l H' hl0 gH eT
variable (ZmL:FB P w K mg base (CX0) 15 "law" Zmt ZmG ["_law_script"] (pC K))
include Zv ZbU ZZ ZaI Zgq Zcj ZR ZaM ZS Zfk ZeO ZlI Zb ZeK Zcq ZcJ Zcr ZcI Zb4 ZfQ ZfR Zdl Zdk Zdm ZdD ZdC ZcU ZcD Zc Zca Zbh Zbx Zcb in
theorem ZmJ (F0:GFm K mg "law" ZmH Zmt ZmG):type_of% ZmL:=by
 refine fbM ["_law_script","_law_posts","_law_votes","_law_frames_here","_law_least","_law_winner","_law_wrong_here","_law_rail","_law_one","_law_size_here","_law_place","_law_took_here","_law_seats","_law_words","_law_many","_law_k","_law_word","_law_taken","_law_due"] F0 fun Sc0=>F0.F.ok Sc0 (fun vs H Q E h=>?_) fun cdv A outer s H vs Q E hr h=>?_
 ·obtain⟨a,ns,rfl,_⟩:=h
  rfl
 obtain⟨a,ns,rfl,hS,h63,hT,q⟩:=h
 have nd:=Sc0.nd
 refine⟨_,(aC (aX (i:=1) nd rfl (Or.inl rfl) (aU cG aG (aQ Zc.1 (hr.mono (by decide)) rfl Zc.2.2.2 Zc.2.2.1 Zc.2.1 .nil aK (aA (dv 0) (aA aG (aA aG aD)))))) (aC (kW (bJ (aW cV (aQ Zc.1 (hr.mono (by decide)) rfl Zc.2.2.2 Zc.2.2.1 Zc.2.1 .nil aK (aA (dv 0) (aA aG (aA aG aD)))) aG (aR _)) (aF (aX (i:=1) nd rfl (Or.inl rfl) (aU cG (dv 1) aG))) aV)) (aC (aX (i:=2) nd rfl (Or.inl rfl) (bT (aU cG aG (aU jB aG (aQ Zc.1 (hr.mono (by decide)) rfl Zc.2.2.2 Zc.2.2.1 Zc.2.1 .nil aK (aA (dv 0) (aA aG (aA aG aD)))))))) (aC (aX (i:=3) nd rfl (Or.inl rfl) (aQ Zbh.1 (hr.mono (by decide)) rfl Zbh.2.2.2 Zbh.2.2.1 Zbh.2.1 .nil aK (aA (dv 0) (aA (dv 1) aD)))) (aC (aX (i:=4) nd rfl (Or.inr rfl) (bK (xU rfl) rfl Zfk zO (aA (dN rfl (ix:=[]) (cM (dv 3)) (fun C fp s0 H0 at0=>cZ) (fun C fp s0 H0 at0=>(bQ (iW (K:=K)) (dv 0) aG (fun _ _=>rfl))) rfl rfl (by rfl) (show ([".0","_law_one"]:List Str).Nodup by decide +kernel)) aD))) (aC (aX (i:=5) nd rfl (Or.inr rfl) (bQ fD (dN rfl (ix:=[4]) (cM (dv 3)) (fun C fp s0 H0 at0=>(uB (aW cV (bQ (iW (K:=K)) (dv 0) aG (fun _ _=>rfl)) (dv 1) (aR _)))) (fun C fp s0 H0 at0=>(dv 0)) rfl rfl (by rfl) (show ([".0","_law_one","_law_least"]:List Str).Nodup by decide +kernel)) aG (fun _ _=>rfl))) (aC (aX (i:=6) nd rfl (Or.inl rfl) (aQ Zbx.1 (hr.mono (by decide)) rfl Zbx.2.2.2 Zbx.2.2.1 Zbx.2.1 .nil aK (aA (dv 0) (aA (dv 1) (aA (dv 2) aD))))) (aC (aX (i:=7) nd rfl (Or.inl rfl) (bV ZeK Zdl.1 (hr.mono (by decide)) rfl ZaI Zdl.2 .nil aK (aA (aU a0C (cW (aA (bU (aA aG (aA aG aD))) aD)) (dv 1)) (aA (dv 2) aD)))) (aC (eV YV rfl (cM (dv 3)) (cQ (i:=8) nd rfl (Or.inl rfl)) (aF (bB (cB Zb Zcq Zdk.1 (hr.mono (by decide)) Zdk.2 .nil aK (dv 7) (aA (bQ eE (dv 8) aG (fun _ _=>rfl)) (aA (bQ eE (dv 8) aG (fun _ _=>rfl)) (aA (fU iB rfl ZaM iR (aA (bQ eE (dv 8) aG (fun _ _=>rfl)) aD)) aD))))))) (aC (aX (i:=9) nd rfl (Or.inl rfl) (aQ Zca.1 (hr.mono (by decide)) rfl Zca.2.2.2 Zca.2.2.1 Zca.2.1 .nil aK (aA (bQ eE (dv 5) aG (fun _ _=>rfl)) (aA (bQ eE (dv 5) aG (fun _ _=>rfl)) aD)))) (aC (bB (cB Zb ZcJ ZdD.1 (hr.mono (by decide)) ZdD.2 .nil aK (dv 7) (aA (dv 9) (aA nW aD)))) (aC (eV YV rfl (dO rfl ZR (aA (aU cG aG (dv 2)) aD)) (cQ (i:=10) nd rfl (Or.inr rfl)) (aF (bB (cB Zb Zcr Zdm.1 (hr.mono (by decide)) Zdm.2 .nil aK (dv 7) (aA (dN rfl (ix:=[10]) (cM (dv 6)) (fun C fp s0 H0 at0=>(uB (aW cV (bQ (iW (K:=K)) (dv 0) aG (fun _ _=>rfl)) (dv 1) (aR _)))) (fun C fp s0 H0 at0=>(bQ (iW (K:=K)) (dv 0) aG (fun _ _=>rfl))) rfl rfl (by rfl) (show ([".0","_law_pair","_law_place"]:List Str).Nodup by decide +kernel)) aD))))) (aC (aX (i:=11) nd rfl (Or.inl rfl) (aQ Zcb.1 (hr.mono (by decide)) rfl Zcb.2.2.2 Zcb.2.2.1 Zcb.2.1 .nil aK (aA (dv 7) (aA (dv 1) (aA (aU cG (aU cG (dv 9) aG) (dv 2)) aD))))) (aC (aX (i:=12) nd rfl (Or.inr rfl) (aU rR (cW (aA (bQ eE (dv 5) aG (fun _ _=>rfl)) aD)) (dN rfl (ix:=[5]) (dO rfl ZR (aA (dv 1) aD)) (fun C fp s0 H0 at0=>(uB (aW rH (dv 0) (bQ (iW (K:=K)) (dv 1) aG (fun _ _=>rfl)) (aR _)))) (fun C fp s0 H0 at0=>(dv 0)) rfl rfl (by rfl) (show ([".0","_law_post","_law_winner"]:List Str).Nodup by decide +kernel)))) (aC (aX (i:=13) nd rfl (Or.inl rfl) (aQ ZcD.1 (hr.mono (by decide)) rfl ZcD.2.2.2 ZcD.2.2.1 ZcD.2.1 .nil aK (aA (dv 1) (aA (dv 2) (aA (dN rfl (ix:=[12]) (cM (dv 6)) (fun C fp s0 H0 at0=>cZ) (fun C fp s0 H0 at0=>(bU (aA (a7Z (dv 1) (aA (bQ (iW (K:=K)) (dv 0) aG (fun _ _=>rfl)) aD)) (aA (bQ (iW (K:=K)) (dv 0) aG (fun _ _=>rfl)) aD)))) rfl rfl (by rfl) (show ([".0","_law_pair","_law_seats"]:List Str).Nodup by decide +kernel)) aD))))) (aC (bJ (PW.pt (sH (fL (cP (bK xW rfl ZeO rP (aA (dv 13) (aA (b1R (v:= .ty "list") rfl ZaM iR rfl) aD))))) (nU (aW rH (bK fC rfl ZS cY (aA (dv 13) aD)) (dv 1) (aR _))))) (aF (aM iD)) aV) (aC (aX (i:=14) nd rfl (Or.inl rfl) aG) (aC (eV YV rfl (dO rfl ZR (aA (dv 1) aD)) (cQ (i:=15) nd rfl (Or.inl rfl)) (aC (aX (i:=16) nd rfl (Or.inl rfl) (bT (cH (aW cV (dv 15) aG (aR _)) bD bD))) (aC (bJ (PW.pt (sH (aW jO (bQ fD (dv 13) (dv 15) (fun _ _=>rfl)) (bU (aA bD (aA bD (aA bD aD)))) rfl) (nU (aW jO (bQ fD (dv 11) (bQ fD (dv 12) (dv 15) (fun _ _=>rfl)) (fun _ _=>rfl)) (bU (aA iD (aA (dv 16) aD))) rfl)))) (aF (aM iD)) aV) (aC (aX (i:=17) nd rfl (Or.inl rfl) (cL (a4U hr.units) (bQ fD (dv 11) (bQ fD (dv 12) (dv 15) (fun _ _=>rfl)) (fun _ _=>rfl)) (dv 16) (aR _))) (aC (aX (i:=14) nd rfl (Or.inl rfl) (aU cG (dv 14) (fU b8X rfl ZlI b8F (aA (dv 17) aD)))) (aC (aX (i:=18) nd rfl (Or.inl rfl) (bT (cH (PW.pt (kO (cP (dv 17)) (jM (aW tV (dv 15) aG (aR _))))) (cW (aA (bU (aA (bQ eE (dv 5) aG (fun _ _=>rfl)) (aA (bQ eE (dv 5) aG (fun _ _=>rfl)) aD))) aD)) (cW aD)))) (aF (bJ (PW.pt (sH (aW rH (dv 17) (cL cV (bQ fD (dv 13) (dv 15) (fun _ _=>rfl)) bD (aR _)) (aR _)) (nU (aW (b8V hr.units) (cB Zb ZcI ZdC.1 (hr.mono (by decide)) ZdC.2 .nil aK (dv 7) (aA (bQ fD (dv 12) (dv 15) (fun _ _=>rfl)) aD)) (dv 18) (aR _))))) (aF (aM iD)) aV)))))))) (aC (bJ (aW rH (cL (a4U hr.units) (cB Zb Zb4 ZcU.1 (hr.mono (by decide)) ZcU.2 .nil aK (dv 7) (aA (bQ eE (dv 5) aG (fun _ _=>rfl)) aD)) (cW aD) (aR _)) (cL (a4U hr.units) (bQ fD (dv 11) (bQ eE (dv 5) aG (fun _ _=>rfl)) (fun _ _=>rfl)) bD (aR _)) (aR _)) (aF (aM iD)) aV) (aF (aM (b4C (cL tV (bK fC rfl ZS cY (aA (dv 6) aD)) (aU a4T (dv 2) aG) (aR _)) (b4C (cL cV (dv 14) aG (aR _)) (yR (cL cV (dv 14) (dv 1) (aR _)))))))))))))))))))))))))),?_⟩
 refine⟨a,ns,0,2,rfl,hS,h63,by decide,by decide,by decide,fun z z0 z1=>?_⟩
 obtain⟨z,rfl⟩:=YX z0
 refine⟨fun σ' H'=>(∃m:Nat,σ'= [some (.ref a),some (.int ((m:Nat):Int)),none,none,none,none,none,none,none,none,none,none,none,none,none,none,none,none,none]/\2<=m/\m<=5)/\H=H',?_,?_⟩
 ·refine⟨a,ns,1,8,rfl,hS,h63,by decide,by decide,by decide,fun u u0 u1=>?_⟩
  conv=>whnf
  refine bL (fun c=>?_) (fun c=>?_)
  ·exact⟨⟨2+z+2,rfl,by omega,by omega⟩,rfl⟩
  ·exact⟨⟨2+z,rfl,by omega,by omega⟩,rfl⟩
 rintro σ' H0 ⟨⟨m,rfl,m2,m5⟩,rfl⟩
 refine⟨fun x H'=>∃v:Nat,x= .int ((v:Nat):Int)/\(v=1\/v=3\/v=5)/\H=H',?_,?_⟩
 ·refine⟨a,ns,2,3,rfl,hS,h63,by decide,by decide,by decide,fun u u0 u1=>⟨⟨by decide,iU (by omega) (by omega)⟩,?_⟩⟩
  obtain⟨u,rfl⟩:=YX u0
  exact⟨1+2*u,YT V.int (by show (1:Int)+2*((u:Nat):Int)=((1+2*u:Nat):Int);omega),by omega,rfl⟩
 rintro x H0 ⟨v,rfl,hv,rfl⟩
 have v1:1<=v:=by omega
 have v5:v<=5:=by omega
 refine⟨a,ns,m,rfl,hS,h63,m2,m5,fun fl ts fs H1 hfl g1 efl lt hts hF hne=>?_⟩
 have fln:=hF.ln
 refine⟨⟨_,SqL.of efl⟩,cR (xs:=ts.map V.ref) (fun j ys H'=>H'=H1/\ys=(nI ((fs.map fun f=>f.2.1).take j)).map V.int) ?_ ?_ ?_ ?_ ?_⟩
 ·rintro j ys H' hj ⟨_,rfl⟩
  rw[Ya,Ya,Yr,Ya]
  exact bR (by omega)
 ·exact⟨rfl,rfl⟩
 ·rintro j ys H' hj ⟨rfl,_⟩
  exact SqL.of efl
 ·rintro j x ys H' hx ⟨rfl,rfl⟩
  rw[Yl]at hx
  obtain⟨t,ht,rfl⟩:=YH.mp hx
  have hj:j<fs.length:=by rw[<-lt];exact(Yf.mp ht).1
  obtain⟨f,ef⟩:∃f,fs[j]? =some f:=⟨_,Yb hj⟩
  obtain⟨d,et,_⟩:=hts j t f ht ef
  refine⟨_,_,SqT.of et,rfl,rfl,?_⟩
  have hj':j<(fs.map fun f=>f.2.1).length:=by rw[Ya];exact hj
  have eg:(fs.map fun f=>f.2.1)[j]=f.2.1:=by rw[XT,Yo ((Yb hj).symm.trans ef)]
  rw[Yg hj',eg,nI,nI,Ym,Ym]
  rfl
 rintro ys H2 ⟨rfl,rfl⟩ nl hnl
 rw[Ya,lt,Yk (by rw[Ya];omega)]
 generalize eU:upd H2 nl _=H3
 have g2:=nS hnl eU
 have enl:=nE eU
 clear eU
 refine⟨_,SqL.of enl,fun y=>hne (by simpa using y),fun n0 hn0 le0=>?_⟩
 obtain⟨k0,hk0,rfl⟩:=YA.mp hn0
 have g3:=g1.trans g2
 have efl3:=g2 _ _ efl
 have hts3:∀(i:Nat)(t:Addr)(f:Nat×Nat×List Int),ts[i]? =some t->fs[i]? =some f->∃d,H3 t=some (frT f d)/\H3 d=some (.lst (f.2.2.map V.int)):=fun i t f h1 h2=>let ⟨d,a1,a2⟩:=hts i t f h1 h2;⟨d,g2 _ _ a1,g2 _ _ a2⟩
 refine⟨⟨_,SqL.of efl3⟩,cR (xs:=ts.map V.ref) (fun j ys H'=>H'=H3/\(∀y∈ys,∃(k:Nat)(t:Addr)(f:Nat×Nat×List Int),y= .ref t/\ts[k]? =some t/\fs[k]? =some f/\f.2.1=k0)/\(∀(k:Nat)(f:Nat×Nat×List Int),k<j->fs[k]? =some f->f.2.1=k0->ys≠ [])/\ys.length<=j) ?_ ?_ ?_ ?_ ?_⟩
 ·rintro j ys H' hj ⟨_,_,_,hl⟩
  rw[Ya]at hj
  exact bR (by omega)
 ·exact⟨rfl,fun y hy=>(by cases hy),fun k f hk=>absurd hk (Xi _),Yd _⟩
 ·rintro j ys H' hj ⟨rfl,_⟩
  exact SqL.of efl3
 ·rintro j x ys H' hx ⟨rfl,h1,h2,h3⟩
  rw[Yl]at hx
  obtain⟨t,ht,rfl⟩:=YH.mp hx
  have hj:j<fs.length:=by rw[<-lt];exact(Yf.mp ht).1
  obtain⟨f,ef⟩:∃f,fs[j]? =some f:=⟨_,Yb hj⟩
  obtain⟨d,et,_⟩:=hts3 j t f ht ef
  refine⟨_,_,SqT.of et,rfl,bL (fun c=>?_) (fun c=>?_)⟩
  ·have c1:f.2.1=k0:=by have:=dec_true c;omega
   refine⟨rfl,fun y hy=>?_,fun k g _ _ _ z=>?_,by rw[Yc];exact Xk h3⟩
   ·rcases YI.mp hy with w | w
    ·exact h1 y w
    ·exact⟨j,t,f,Yn.mp w,ht,ef,c1⟩
   ·cases ys <;> cases z
  ·have c1:¬ f.2.1=k0:=fun w=>dec_false c (by rw[w])
   refine⟨rfl,h1,fun k g hk eg e=>?_,Xo h3⟩
   by_cases w:k=j
   ·subst w
    rw[ef]at eg
    cases eg
    exact absurd e c1
   ·exact h2 k g (by omega) eg e
 rintro ys H4 ⟨rfl,h1,h2,h3⟩ ll hll
 rw[Ya,lt]at h2
 obtain⟨f0,hf0,ek0⟩:=YA.mp hk0
 obtain⟨k1,hk1,e1⟩:=Y5 hf0
 have yne:=h2 k1 f0 hk1 (by rw[Yb hk1,e1]) ek0
 obtain⟨y0,yr,rfl⟩:∃y0 yr,ys=y0::yr:=by
  cases ys with
  |nil=>exact absurd rfl yne
  |cons y0 yr=>exact⟨y0,yr,rfl⟩
 obtain⟨kq,tq,f,rfl,htq,efq,ekq⟩:=h1 y0 YC
 clear h1 h2 h3 yne hf0 ek0 hk1 e1 hne
 generalize eU:upd H4 ll _=H5
 have g4:=nS hll eU
 have ell:=nE eU
 clear eU
 refine⟨_,_,SqL.of ell,(fB (xs:=V.ref tq::yr) (j:=0) rfl),?_⟩
 have g5:=g3.trans g4
 have k15:=g2.trans g4
 have fm:=Yx efq
 have gg:=g93 hF fm fun x hx=>by have:=le0 _ (YA.mpr ⟨_,YA.mpr ⟨x,hx,rfl⟩,rfl⟩);omega
 have fqo:FrN f.2:=(hF.ok f fm).2.1
 refine⟨a,ns,m,v,rfl,g5.seq hS,h63,m2,m5,v1,v5,fun wl qs ps H6 hwl g6 ewl lq hq lp4 hok=>?_⟩
 refine⟨aL rfl,fun t0 ht0=>?_⟩
 generalize eU:upd H6 t0 _=H7
 have g7:=nS ht0 eU
 have et0:=nE eU
 clear eU
 refine⟨aL rfl,fun s1 hs1=>?_⟩
 generalize eU:upd H7 s1 _=H8
 have g8:=nS hs1 eU
 have es1:=nE eU
 clear eU
 refine⟨_,es1,⟨by omega,by omega⟩,by rw[YB];exact Xm (bR (by show 1*m<=1000;omega)),fun cl hcl=>?_⟩
 rw[YB,pH]
 generalize eU:upd H8 cl _=H9
 have g9:=nS hcl eU
 have ecl:=nE eU
 clear eU
 have k79:=g8.trans g9
 have k69:=g7.trans k79
 have k59:=g6.trans k69
 have g19:=g5.trans k59
 have hC:xT H9 cl (List.replicate m ((0:Int),(0:Int))):=⟨List.replicate m t0,by rw[ecl,List.map_replicate],by rw[Yu,Yu],fun i t c h1 h2=>by
  rw[YY (Yx h1),YY (Yx h2)]
  exact k79 _ _ et0⟩
 have okm:∀c∈List.replicate m ((0:Int),(0:Int)),a4N c.1 c.2 ((v:Nat):Int):=fun c hc=>by
  rw[YY hc]
  exact⟨by decide,by decide,by omega⟩
 have lR:(List.replicate m ((0:Int),(0:Int))).length=m:=Yu
 refine fun r dr hr hdr hne=>⟨r,dr,cl,_,_,rfl,aB,hC.keep (fun x u _ e=>by rw[aH (aP e hr),aH (aP e hdr)];exact e),by omega,fun _ H10 o hR hin hk=>⟨rfl,?_⟩,fun no=>absurd ⟨⟨by omega,by omega⟩,okm⟩ no⟩
 obtain⟨no,g10⟩:=a8C hr hdr hin hk
 have g110:=g19.trans g10
 have j0:J95 Zn CA 1012 (fun x=>if x=1012 then none else H9 x) H10 r (R0 (List.replicate m ((0:Int),(0:Int))) ((v:Nat):Int)) o:=by
  refine⟨hR,?_,fun x u e=>?_⟩
  ·obtain⟨ps,h1,h2,h3⟩:=hT
   have nx:∀x u,H x=some u->¬ o x:=fun x u e z=>by have y:=g19 _ _ e;rw[no x z]at y;cases y
   exact⟨nx _ _ h1,ps,g110 _ _ h1,h2,h3.imp id fun ⟨c',a',b'⟩=>⟨c',a',g110 _ _ b',nx _ _ b'⟩⟩
  ·by_cases z:x=1012
   ·rw[if_pos z]at e;cases e
   ·rw[if_neg z]at e
    exact⟨g10 _ _ e,fun y=>(by rw[no x y]at e;cases e),z⟩
 have tP:∀{x u},H9 x=some u->(∀ps,u≠HO.tbl ps)->x≠1012:=fun {x u} e n z=>by
  obtain⟨ps,h1,_⟩:=hT
  rw[z,g19 _ _ h1]at e
  cases e
  exact n _ rfl
 have f9:∀{x u},H9 x=some u->(∀ps,u≠HO.tbl ps)->(fun x=>if x=1012 then none else H9 x) x=some u:=fun {x u} e n=>by dsimp only;rw[if_neg (tP e n)];exact e
 have gS:∀x u,H x=some u->x≠1012->(fun x=>if x=1012 then none else H9 x) x=some u:=fun x u e n=>by dsimp only;rw[if_neg n];exact g19 _ _ e
 have efl9:=f9 (k59 _ _ (g4 _ _ efl3)) (fun ps=>by simp)
 have ewl9:=f9 (k69 _ _ ewl) (fun ps=>by simp)
 have hts9:∀(i:Nat)(t:Addr)(f:Nat×Nat×List Int),ts[i]? =some t->fs[i]? =some f->∃d,(fun x=>if x=1012 then none else H9 x) t=some (frT f d)/\(fun x=>if x=1012 then none else H9 x) d=some (.lst (f.2.2.map V.int)):=fun i t f h1 h2=>by
  obtain⟨d,a1,a2⟩:=hts3 i t f h1 h2
  exact⟨d,f9 (k59 _ _ (g4 _ _ a1)) (fun ps=>by simp[frT]),f9 (k59 _ _ (g4 _ _ a2)) (fun ps=>by simp)⟩
 have hq9:∀(i:Nat)(t:Addr)(p:Int×Int),qs[i]? =some t->ps[i]? =some p->(fun x=>if x=1012 then none else H9 x) t=some (.tup [.int p.1,.int p.2]):=fun i t p h1 h2=>f9 (k69 _ _ (hq i t p h1 h2)) (fun ps=>by simp)
 generalize (fun x=>if x=1012 then none else H9 x)=F0 at j0 gS efl9 ewl9 hts9 hq9
 have hn0':a9U m v fs 0 (R0 (List.replicate m ((0:Int),(0:Int))) ((v:Nat):Int)):=by
  refine⟨⟨by show (List.map _ _).length=m;rw[Ya,lR],fun i hi=>?_,rfl,rfl,by show (List.replicate _ _).length=m;rw[Yu,lR],fun x hx=>?_,by show (List.replicate _ _).length=m;rw[Yu,lR],fun x hx=>?_⟩,fun n _=>rfl,Yd _⟩
  ·show (List.map _ (List.replicate m ((0:Int),(0:Int))))[i]? =_
   rw[Yl,X1,if_pos hi]
   rfl
  ·rw[YY (show x∈List.replicate _ _ from hx)];exact Yd _
  ·rw[YY (show x∈List.replicate _ _ from hx)];exact Yd _
 generalize R0 (List.replicate m ((0:Int),(0:Int))) ((v:Nat):Int)=R5 at j0 hn0'
 clear f9 tP okm hC hin hk no hne hr hdr hR ecl es1 et0 efl hts hts3 efl3 hq ewl g1 g2 g3 g4 g5 g6 g7 g8 g9 k15 k59 k69 k79 g19 g110 hcl hs1 ht0 hwl hll hnl hfl enl ell le0 hn0 hk0 g10 lR
 obtain⟨dq,etq,edq⟩:=hts9 kq tq f htq efq
 have sq:∀{F H':Hp}{R:RS}{o:Own},Same F0 F->J95 Zn CA 1012 F H' r R o->SqL K H' a (ns.map V.int):=fun gF j=>SqL.keepT hS hT fun x u e n=>(j.kp x u (gF _ _ (gS x u e n))).1
 refine⟨⟨_,SqL.of (j0.sm _ _ efl9)⟩,gM (xs:=ts.map V.ref) (fun i σ H'=>(∃x,σ= [some (.ref a),some (.int ((m:Nat):Int)),some (.int ((v:Nat):Int)),some (.ref fl),some (.int ((k0:Nat):Int)),some (.ref tq),some (.ref wl),some (.ref r),x,none,none,none,none,none,none,none,none,none,none])/\∃(R:RS)(o:Own),J95 Zn CA 1012 F0 H' r R o/\a9U m v fs i R) ⟨⟨_,rfl⟩,R5,o,j0,hn0'⟩ ?_ ?_ ?_⟩
 ·rintro i σ H' hi ⟨_,R1,o1,j1,_⟩
  exact SqL.of (j1.sm _ _ efl9)
 ·rintro i x σ H' hx ⟨⟨y,rfl⟩,R1,o1,j1,hn⟩
  rw[Yl]at hx
  obtain⟨tt,htt,rfl⟩:=YH.mp hx
  have hil:i<fs.length:=by rw[<-lt];exact(Yf.mp htt).1
  obtain⟨f1,ef1⟩:∃f,fs[i]? =some f:=⟨_,Yb hil⟩
  obtain⟨d,k1,k2⟩:=hts9 i tt f1 htt ef1
  have k1':=j1.sm _ _ k1
  have k2':=j1.sm _ _ k2
  obtain⟨fp,fo,f1l⟩:=hF.ok f1 (Yx ef1)
  obtain⟨w,hR⟩:=j1.rl
  refine⟨⟨w.dx,_,hR.er,rfl⟩,_,_,SqT.of k1',rfl,_,_,SqT.of k1',rfl,_,.ref d,SqT.of k1',rfl,_,.inl (SqL.of k2'),fun l hl=>?_⟩
  generalize eU:upd H' l _=H2
  have g1:=nS hl eU
  have el:=nE eU
  have j2:=j1.same g1
  clear eU
  obtain⟨w2,hR2⟩:=j2.rl
  obtain⟨n0,eS0,hn'⟩:=hn.hand hF ef1
  have ol:=hn.ol
  refine⟨r,R1,o1,w2,_,_,l,f1.2.2,rfl,hR2,SqL.of el,by omega,by omega,fun S hS=>?_,fun no=>absurd ⟨by omega,by rw[hn.hd.ln];omega⟩ no,fun _ no=>absurd fo.ok no,fun i' S ei eS _=>?_⟩
  ·obtain⟨j,hj,e⟩:=Y5 hS
   have:=hn.hd.ps j (by rw[<-hn.hd.ln];exact hj)
   rw[Yb hj,e]at this
   cases this
   show (gOf (fs.take i) j).toList.length<900
   cases gOf (fs.take i) j <;> simp
  ·have ei':i'=f1.1:=by omega
   subst ei'
   rw[eS0]at eS
   cases eS
   refine⟨((f1.1:Nat):Int),by rw[n0];rfl,fun no=>absurd rfl no,fun _ H3 o3 hR3 m3=>⟨⟨_,rfl⟩,_,o3,j2.mv hR3 m3,?_⟩⟩
   rw[YB]
   exact hn'
 rintro σ H11 ⟨⟨x,rfl⟩,R1,o1,j1,hn⟩
 rw[Ya,lt]at hn
 have h93:=hn.hd
 rw[Yk (Yd _)]at h93
 clear hn hn0' j0
 obtain⟨wsz,wln,wps⟩:=b4U h93 gg m2 m5 v1
 have hL:27<=(wr f.2.1 f.2.2).length/\(wr f.2.1 f.2.2).length<=166:=jZ fqo
 refine⟨_,_,SqT.of (j1.sm _ _ etq),rfl,_,.ref dq,SqT.of (j1.sm _ _ etq),rfl,dq,f.2.1,f.2.2,rfl,SqL.of (j1.sm _ _ edq),fqo.1,fqo.2.1,fqo.2.2,fun H12 g12=>?_⟩
 have j2:=j1.same g12
 obtain⟨w2,hR2⟩:=j2.rl
 have ne1:R1.ps≠ []:=fun z=>by have:=h93.ln;rw[z]at this;have:0=m:=this;omega
 refine⟨⟨w2.dx,_,hR2.er,rfl⟩,r,R1,o1,w2,(wr f.2.1 f.2.2).length,rfl,hR2,ne1,by omega,fun t ht=>(wsz t ht).1.szR (by omega) (wsz t ht).2,fun l13 H13 o13 hR13 m13 hl13=>?_⟩
 have j3:=(j2.mv hR13 m13).same (aJ hl13 (.lst (((List.range (wr f.2.1 f.2.2).length).map fun k=>xN (gA R1 k)).map V.int)))
 generalize upd H13 l13 _=H14 at j3
 have i0:I93 m v f.1 (wr f.2.1 f.2.2).length (gOf fs) f.2 (wrP (psS f.1 ps)) 0 (gA R1 (wr f.2.1 f.2.2).length):=⟨wln,fun i hi=>⟨_,wps i hi,⟨fun _=>rfl,fun g e=>by cases e⟩⟩,(wsz _ (Yd _)).1,(wsz _ (Yd _)).2⟩
 generalize gA R1 (wr f.2.1 f.2.2).length=R2 at j3 i0
 clear wsz wln wps h93 j1 j2 hR13 m13 hl13 ne1 hR2 g12
 have hW:=w93 (q:=f.1) lp4 hok
 generalize hLL:(wr f.2.1 f.2.2).length=L at i0 hL
 refine⟨⟨by omega,by omega⟩,?_⟩
 rw[show ((9:Int)+((v:Nat):Int)).toNat=9+v by omega]
 refine jG (lo:=0) (n:=9+v) (fun p σ H'=>(∃x y,σ= [some (.ref a),some (.int ((m:Nat):Int)),some (.int ((v:Nat):Int)),some (.ref fl),some (.int ((k0:Nat):Int)),some (.ref tq),some (.ref wl),some (.ref r),x,some (.int ((L:Nat):Int)),y,none,none,none,none,none,none,none,none])/\∃(R:RS)(o:Own),J95 Zn CA 1012 F0 H' r R o/\(p<9+v->I93 m v f.1 L (gOf fs) f.2 (wrP (psS f.1 ps)) p R)/\(p=9+v->E93 m v f.1 L (gOf fs) f.2 (wrP (psS f.1 ps)) R)) ⟨⟨_,_,by rw[<-hLL];rfl⟩,R2,o13,j3,fun _=>i0,fun z=>by omega⟩ ?_ ?_
 ·rintro p σ H15 hp ⟨⟨x,y,rfl⟩,R,o,j,hI,_⟩
  rw[XM]
  have i1:=hI hp
  obtain⟨w,hR⟩:=j.rl
  refine⟨⟨w.dx,_,hR.er,rfl⟩,⟨_,SqL.of (j.sm _ _ ewl9)⟩,cR (xs:=qs.map V.ref) (fun i ys H'=>H'=H15/\ys=(wsP (ps.take i) p).map V.int) ?_ ?_ ?_ ?_ ?_⟩
  ·rintro i ys H' hi ⟨_,rfl⟩
   have:=List.length_filter_le (fun x:Int×Int=>decide (x.2=((p:Nat):Int))) (ps.take i)
   rw[Ya,wsP,Ya]
   rw[Yr]at this
   exact bR (by omega)
  ·exact⟨rfl,rfl⟩
  ·rintro i ys H' hi ⟨rfl,_⟩
   exact SqL.of (j.sm _ _ ewl9)
  ·rintro i x ys H' hx ⟨rfl,rfl⟩
   rw[Yl]at hx
   obtain⟨t,ht,rfl⟩:=YH.mp hx
   have hil:i<ps.length:=by rw[<-lq];exact(Yf.mp ht).1
   obtain⟨pr,ep⟩:∃pr,ps[i]? =some pr:=⟨_,Yb hil⟩
   have et:=j.sm _ _ (hq9 i t pr ht ep)
   have tk:ps.take (i+1)=ps.take i++[pr]:=by rw[Yg hil,Yo ((Yb hil).symm.trans ep)]
   refine⟨_,_,SqT.of et,rfl,bL (fun c=>?_) (fun c=>?_)⟩
   ·refine⟨_,_,SqT.of et,rfl,rfl,?_⟩
    rw[tk,wsP,wsP,Jh,List.filter_cons_of_pos (by exact c),List.filter_nil,Ym,Ym]
    rfl
   ·refine⟨rfl,?_⟩
    rw[tk,wsP,wsP,Jh,List.filter_cons_of_neg (by exact c),List.filter_nil,YS]
  rintro ys H16 ⟨rfl,rfl⟩ l16 hl16
  rw[Ya,lq,Yk (Yd _)]
  generalize eU:upd H16 l16 _=H17
  have g16:=nS hl16 eU
  have e16:=nE eU
  have j16:=j.same g16
  clear eU
  obtain⟨w17,hR17⟩:=j16.rl
  have hall:∀x∈wsP ps p,0<=x/\x<((R.ps.length:Nat):Int):=fun x hx=>by
   obtain⟨y,hy,rfl⟩:=YA.mp hx
   have:=hok y (X5.mp hy).1
   rw[i1.ln]
   exact⟨this.1,this.2.1⟩
  have wl5:(wsP ps p).length<=500:=by
   have:=List.length_filter_le (fun x:Int×Int=>decide (x.2=((p:Nat):Int))) ps
   rw[wsP,Ya]
   omega
  have ne1:R.ps≠ []:=fun z=>by have:=i1.ln;rw[z]at this;have:0=m:=this;omega
  refine⟨r,R,o,w17,l16,wsP ps p,fun _=>False,rfl,e16,wl5,hR17,ne1,i1.sz.szR (by omega) i1.up,j16.tb.own (fun x hx=>hx.elim id False.elim),fun x hx=>hx.elim,fun _ b H18 o18 hb hR18 hT18 m18=>?_,fun no=>absurd hall no⟩
  have j18:=j16.turn hR18 (hT18.own fun x hx=> .inl hx) m18
  refine⟨⟨_,_,rfl⟩,_,o18,j18,fun z=>?_,fun z=>?_⟩
  ·exact i1.turn hW gg m2 m5 v5 (by omega) hb
  ·have ep:p=8+v:=by omega
   subst ep
   exact i1.last hW gg m2 m5 v1 v5 hb
 rintro σ H15 ⟨⟨x,y,rfl⟩,R,o,j,_,hE⟩
 have hE:=hE rfl
 clear i0 j3 hW hLL
 obtain⟨es,wdl,hev,hes,hwd⟩:=hE.ev
 rw[show L+(8+v)=L+8+v by omega]at hev hes
 obtain⟨w15,hR15⟩:=j.rl
 refine⟨r,R,o,w15,m,L+8+v,es,wdl,rfl,hR15,m5,hev,hes,fun tl H16 htl g16 etl=>?_⟩
 have j16:=j.same g16
 refine⟨_,_,SqT.of (j16.sm _ _ etq),rfl,aL rfl,fun s1 hs1=>?_⟩
 generalize eU:upd H16 s1 _=H17
 have k1:=nS hs1 eU
 have es1:=nE eU
 have j17:=j16.same k1
 clear eU
 refine⟨⟨by omega,by omega⟩,?_⟩
 rw[YB]
 refine gB (lo:=0) (n:=m) (fun i ys H'=>H'=H17/\ys=(((List.range i).filter fun x=>decide (x≠f.1)).map fun x=>((x:Nat):Int)).map V.int) ?_ ?_ ?_ ?_
 ·rintro i ys H' hi ⟨_,rfl⟩
  have:=List.length_filter_le (fun x:Nat=>decide (x≠f.1)) (List.range i)
  rw[YN]at this
  rw[Ya,Ya]
  exact bR (by omega)
 ·exact⟨rfl,rfl⟩
 ·rintro i ys H' hi ⟨rfl,rfl⟩
  refine⟨_,_,SqT.of (j17.sm _ _ etq),rfl,?_⟩
  conv=>whnf
  rw[XM]
  refine bL (fun c=>?_) (fun c=>?_)
  ·have c1:i≠f.1:=fun z=>by rw[z,Ye rfl]at c;cases c
   refine⟨rfl,?_⟩
   rw[Xr,Jh,List.filter_cons_of_pos (by exact Ye c1),List.filter_nil,Ym,Ym]
   rfl
  ·have c1:¬ i≠f.1:=fun z=>c (by rw[Yi (show ¬ ((i:Nat):Int)=((f.1:Nat):Int) by omega)];rfl)
   refine⟨rfl,?_⟩
   rw[Xr,Jh,List.filter_cons_of_neg (by simpa using c1),List.filter_nil,YS]
 rintro ys H18 ⟨rfl,rfl⟩ s2 hs2
 generalize eU:upd H18 s2 _=H19
 have k2:=nS hs2 eU
 have es2:=nE eU
 have j18:=j17.same k2
 clear eU
 have lS:(sts m f.1).length=m:=(yD m5 gg.hq).1
 refine⟨_,_,k2 _ _ es1,es2,Xm (bR (by
  have e:(sts m f.1).length=1+((((List.range m).filter fun x=>decide (x≠f.1)).map fun x=>((x:Nat):Int)).map V.int).length:=by rw[Ya,Nat.add_comm];rfl
  show 1+_<=1000
  omega)),fun sl hsl=>?_⟩
 have k3:=aJ hsl (.lst ((sts m f.1).map V.int))
 have esl:upd H19 sl (.lst ((sts m f.1).map V.int)) sl=_:=aB
 have j19:=j18.same k3
 have etl9:=k3 _ _ (k2 _ _ (k1 _ _ etl))
 show _
 rw[show [V.int ((f.1:Nat):Int)]++(((List.range m).filter fun x=>decide (x≠f.1)).map fun x=>((x:Nat):Int)).map V.int=(sts m f.1).map V.int from rfl]
 generalize upd H19 sl _=H20 at k3 esl j19 etl9
 clear k1 k2 k3 es1 es2 hs1 hs2 hsl j16 j17 j18 g16 etl htl hev hes
 refine⟨⟨_,SqL.of (j19.sm _ _ ewl9)⟩,cR (xs:=qs.map V.ref) (fun i ys H'=>Same H20 H'/\∃q2:List Addr,ys=q2.map V.ref/\q2.length=i/\∀(k:Nat)(t:Addr)(p:Int×Int),q2[k]? =some t->(psS f.1 ps)[k]? =some p->H' t=some (.tup [.int p.1,.int p.2])) ?_ ?_ ?_ ?_ ?_⟩
 ·rintro i ys H' hi ⟨_,q2,rfl,hl,_⟩
  rw[Ya]at hi
  rw[Ya,hl]
  exact bR (by omega)
 ·exact⟨Same.refl _, [],rfl,rfl,fun k t p h=>by simp at h⟩
 ·rintro i ys H' hi ⟨g,_⟩
  exact SqL.of (g _ _ (j19.sm _ _ ewl9))
 ·rintro i x ys H' hx ⟨g,q2,rfl,hl,hall⟩
  rw[Yl]at hx
  obtain⟨t,ht,rfl⟩:=YH.mp hx
  have hil:i<ps.length:=by rw[<-lq];exact(Yf.mp ht).1
  obtain⟨pr,ep⟩:∃pr,ps[i]? =some pr:=⟨_,Yb hil⟩
  have et:=g _ _ (j19.sm _ _ (hq9 i t pr ht ep))
  obtain⟨p0,p1,_,_⟩:=hok pr (Yx ep)
  have hpm:pr.1.toNat<m:=by omega
  obtain⟨st1,st2⟩:=(yD m5 gg.hq).2 pr.1.toNat hpm
  have sm:=pG gg.hq hpm
  rw[show ((pr.1.toNat:Nat):Int)=pr.1 by omega]at st1 st2
  refine⟨⟨_,g _ _ esl⟩,_,_,SqT.of et,rfl,sts m f.1,bZ f.1 pr.1.toNat,g _ _ esl,by omega,st1,st2,_,_,SqT.of et,rfl,aL rfl,fun t2 ht2=>?_⟩
  have g2:=aJ ht2 (.tup [.int ((bZ f.1 pr.1.toNat:Nat):Int),.int pr.2])
  refine⟨g.trans g2,q2++[t2],by rw[Ym];rfl,by rw[Yc,hl];rfl,fun k t' p h1 h2=>?_⟩
  by_cases c:k<i
  ·rw[YF (by omega)]at h1
   exact g2 _ _ (hall k t' p h1 h2)
  ·rw [Yv (by omega),hl]at h1
   cases ej:k-i with
   | zero=>
    rw[ej]at h1
    cases h1
    have:k=i:=by omega
    subst this
    rw[psS,Yl,ep]at h2
    cases h2
    exact aB
   |succ n=>rw[ej]at h1;cases h1
 rintro ys H21 ⟨g21,q2,rfl,hl2,hq2⟩ l22 hl22
 rw[Ya,lq]at hl2
 generalize eU:upd H21 l22 _=H22
 have g22:=nS hl22 eU
 have e22:=nE eU
 clear eU
 refine⟨_,_,l22,q2,psS f.1 ps,rfl,SqL.of e22,gW.of (by rw[hl2,psS,Ya]) fun i t p h1 h2=>g22 _ _ (hq2 i t p h1 h2),fun mm vv em ev ok pw H23 hpw g23 epw=>?_,fun no=>absurd (b6B gg.hq m2 m5 hv hok) no⟩
 have em':mm=m:=by omega
 have ev':vv=v:=by omega
 subst em' ev'
 have few:ps.length<=vv / 2->_:=fun h=>a4C ok (by rw[b1J];exact h)
 have k23:=(g21.trans g22).trans g23
 have j23:=j19.same k23
 have esl3:=k23 _ _ esl
 have etl3:=k23 _ _ etl9
 have hle:∀k,Vd.wd vv (St mm (wrP (psS f.1 ps)) (9+vv) k)<=2:=fun k=>b9D _ _
 have hvd:vd mm vv (wrP (psS f.1 ps))=(List.range mm).map fun k=>Vd.wd vv (St mm (wrP (psS f.1 ps)) (9+vv) k):=rfl
 have hps:∀i,i<mm->_:=hE.ps
 have hps0:=hE.ps f.1 gg.hq
 have hln:=hE.ln
 rw[hvd]at epw few
 have tkv:∀i,i<mm->tkV wdl i=tvB (decide (Vd.wd vv (St mm (wrP (psS f.1 ps)) (9+vv) (bZ f.1 i))=2)) (wk (bZ f.1 i)):=fun i hi=>c1W (hwd i hi).1 (hwd i hi).2
 generalize hX:(fun k=>Vd.wd vv (St mm (wrP (psS f.1 ps)) (9+vv) k))=X at epw few
 have hX':∀k,Vd.wd vv (St mm (wrP (psS f.1 ps)) (9+vv) k)=X k:=fun k=>congrFun hX k
 simp only[hX']at hle hps hps0 tkv
 clear hX hX' hvd hE hwd ok g21 g22 g23 k23 hq2 e22 hl22 hpw esl etl9 j19 j gS
 have elen:(List.map (fun x=>V.str (wdS x)) ((List.range mm).map X)).length=mm:=by rw[Ya,Ya,YN]
 refine⟨rfl,⟨_,epw⟩,_,.inl (SqL.of epw),?_⟩
 rw[elen]
 conv=>whnf
 refine a1K rfl ?_
 refine⟨⟨by omega,by omega⟩,?_⟩
 rw[YB]
 have atW:∀i,i<mm->atI (List.map (fun x=>V.str (wdS x)) ((List.range mm).map X)) ((i:Nat):Int)=some (.str (wdS (X i))):=fun i hi=>fB (by rw[Yl,Yl,Xh hi];rfl)
 have atS:∀i,i<mm->∃ik,ik<mm/\bZ f.1 ik=i/\atI ((sts mm f.1).map V.int) ((i:Nat):Int)=some (.int ((ik:Nat):Int)):=fun i hi=>by
  obtain⟨ik,h1,h2⟩:=a0L gg.hq hi
  refine⟨ik,h1,h2,fB ?_⟩
  rw[Yl,<-h2,((yD m5 gg.hq).2 ik h1).1]
  rfl
 have atT:∀ik,ik<mm->atI ((List.range mm).map (tkV wdl)) ((ik:Nat):Int)=some (tvB (decide (X (bZ f.1 ik)=2)) (wk (bZ f.1 ik))):=fun ik hi=>fB (by rw[Yl,Xh hi,<-tkv ik hi];rfl)
 refine jG (lo:=0) (n:=mm) (fun i σ H'=>(∃x15 x16 x17 x18,σ= [some (.ref a),some (.int ((mm:Nat):Int)),some (.int ((vv:Nat):Int)),some (.ref fl),some (.int ((k0:Nat):Int)),some (.ref tq),some (.ref wl),some (.ref r),x,some (.int ((L:Nat):Int)),y,some (.ref tl),some (.ref sl),some (.ref pw),some (.int ((cn2 X i:Nat):Int)),x15,x16,x17,x18])/\Same H23 H') ⟨⟨_,_,_,_,rfl⟩,Same.refl _⟩ ?_ ?_
 ·rintro i σ H24 hi ⟨⟨x15,x16,x17,x18,rfl⟩,g24⟩
  rw[XM]
  have j24:=j23.same g24
  obtain⟨ik,hik,esk,atk⟩:=atS i hi
  have att:=atT ik hik
  rw[esk]at att
  obtain⟨Sk,eSk,eup,_⟩:=hps ik hik
  rw[esk]at eup
  have hs0:ik=f.1↔i=0:=by rw[<-esk,qF]
  have eup:Sk.up=if X i=2/\i≠0 then [f.2] else []:=by
   rw[eup]
   by_cases c:X i=2/\i≠0
   ·rw[if_pos c,if_pos ⟨c.1,fun z=>c.2 (hs0.mp z)⟩]
   ·rw[if_neg c,if_neg fun z=>c ⟨z.1,fun y=>z.2 (hs0.mpr y)⟩]
  clear esk
  refine⟨fun x H'=>x= .str (wk i)/\H24=H',?_,?_⟩
  ·conv=>whnf
   refine bL (fun c=>?_) (fun c=>?_)
   ·have c1:i=0:=by have:=dec_true c;omega
    exact⟨YT V.str (if_pos c1).symm,rfl⟩
   ·have c1:¬ i=0:=fun z=>dec_false c (by rw[z];rfl)
    exact⟨YT V.str (if_neg c1).symm,rfl⟩
  rintro _ _ ⟨rfl,rfl⟩
  refine⟨_,_,SqL.of (g24 _ _ epw),atW i hi,aL rfl,fun pt hpt=>?_⟩
  generalize eU:upd H24 pt _=H25
  have g5:=nS hpt eU
  have ept:=nE eU
  clear eU
  refine⟨pt,_,rfl,.inr (SqT.of ept),rfl,rfl,?_⟩
  rw[c0S (hle i)]
  conv=>whnf
  have g25:=g24.trans g5
  refine⟨_,_,SqL.of (g25 _ _ esl3),atk,_,_,SqL.of (g25 _ _ etl3),att,aL rfl,fun pt2 hpt2=>?_⟩
  generalize eU:upd H25 pt2 _=H26
  have g6:=nS hpt2 eU
  have ept2:=nE eU
  clear eU
  refine⟨pt2,_,rfl,.inr (SqT.of ept2),b2L _ _,rfl,?_⟩
  rw[c0T]
  conv=>whnf
  have g26:=g25.trans g6
  refine⟨_,_,SqL.of (g26 _ _ esl3),atk,_,_,SqL.of (g26 _ _ etl3),att,dvB (decide (X i=2)) (wk i),.str (wk i),b4G _ _,.str _,b4H _ _,a4X _,?_⟩
  rw[a8W]
  obtain⟨b,hb⟩:∃b,b=decide (X i=2):=⟨_,rfl⟩
  rw[<-hb]
  have j26:=j23.same g26
  refine⟨fun x H'=>(∃(dl:Addr)(vs:List V),x= .ref dl/\H' dl=some (.lst vs)/\((vs= []/\¬ (X i=2/\i≠0))\/∃t,vs= [.ref t]/\H' t=some (.tup [.int ((f.2.1:Nat):Int),.ref dq])/\X i=2/\i≠0))/\Same H26 H',?_,?_⟩
  ·conv =>whnf
   refine bL (fun c=>?_) (fun c=>?_)
   ·have c1:X i=2:=YK (hb.symm.trans c)
    conv=>whnf
    refine bL (fun d=>?_) (fun d=>?_)
    ·have d1:i≠0:=by have:=dec_true d;omega
     refine⟨_,_,SqT.of (j26.sm _ _ etq),rfl,_,.ref dq,SqT.of (j26.sm _ _ etq),rfl,aL rfl,fun t ht=>⟨aL rfl,fun dl hdl=>⟨⟨dl,_,rfl,aB,.inr ⟨t,rfl,aJ hdl _ _ _ aB,c1,d1⟩⟩,(aJ ht _).trans (aJ hdl _)⟩⟩⟩
    ·have d1:¬ i≠0:=fun z=>dec_false d (by omega)
     exact⟨aL rfl,fun dl hdl=>⟨⟨dl,_,rfl,aB,.inl ⟨rfl,fun z=>d1 z.2⟩⟩,aJ hdl _⟩⟩
   ·have c1:¬ X i=2:=fun z=>c (by rw[hb];exact Ye z)
    exact⟨aL rfl,fun dl hdl=>⟨⟨dl,_,rfl,aB,.inl ⟨rfl,fun z=>c1 z.1⟩⟩,aJ hdl _⟩⟩
  rintro _ H27 ⟨⟨dl,vs,rfl,edl,hvs⟩,g27⟩
  have g27':=g26.trans g27
  refine⟨_,_,SqL.of (g27' _ _ epw),atW i hi,?_⟩
  conv=>whnf
  rw[b9C (hle i),<-hb]
  refine a1K rfl ?_
  have j27:=j23.same g27'
  obtain⟨w27,hR27⟩:=j27.rl
  refine⟨⟨w27.dx,_,hR27.er,rfl⟩,_,_,SqL.of (g27' _ _ esl3),atk,r,R,o,w27,_,rfl,hR27,fun i' S ei eS=>?_,fun no=>absurd ⟨by omega,by rw[hln];omega⟩ no⟩
  rw[show i'=ik by omega,eSk]at eS
  cases eS
  refine⟨by rw[eup];split <;> simp,fun lg xg H28 hlg g28 elg Fg=>?_⟩
  rw[eup]at Fg
  have j28:=j27.same g28
  refine⟨_,.lst (SqL.of elg) Fg.at_.dvs,.lst (SqL.of (g28 _ _ edl)) ?_,qT _,?_⟩
  ·rcases hvs with ⟨rfl,nc⟩ | ⟨t,rfl,et,c⟩
   ·rw[if_neg nc];exact .nil
   ·rw[if_pos c];exact .cons (.tup (SqT.of (g28 _ _ et)) (.cons (.int _) (.cons (DV.ints (SqL.of (j28.sm _ _ edq))) .nil))) .nil
  conv=>whnf
  refine⟨⟨some (.int ((i:Nat):Int)),some (.str (wk i)),some (.bl b),some (.ref dl),?_⟩,g27'.trans g28⟩
  have ecn:((cn2 X (i+1):Nat):Int)=((cn2 X i:Nat):Int)+(if b=true then 1 else 0):=by
   show ((cn2 X i+(if X i=2 then 1 else 0):Nat):Int)=_
   rw[hb]
   by_cases c:X i=2
   ·rw[if_pos c,if_pos (Ye c)];rfl
   ·rw[if_neg c,if_neg (by rw[Yi c];decide)];rfl
  rw[ecn]
  rfl
 rintro σ H24 ⟨⟨x15,x16,x17,x18,rfl⟩,g24⟩
 have j24:=j23.same g24
 obtain⟨w24,hR24⟩:=j24.rl
 obtain⟨Sq,eSq,_,ewt⟩:=hps0
 have s0:bZ f.1 f.1=0:=if_pos rfl
 rw[s0]at ewt
 have ewt:Sq.wt=if decide (X 0=2)=true then [] else [f.2]:=by
  rw[ewt]
  by_cases c:X 0=2
  ·rw[if_pos ⟨c,by first | rfl | trivial⟩,if_pos (Ye c)]
  ·rw[if_neg fun z=>c z.1,if_neg (by rw[Yi c];decide),gg.eq];rfl
 have hqm:=gg.hq
 have att:=atT f.1 hqm
 rw[s0]at att
 refine⟨⟨w24.dx,_,hR24.er,rfl⟩,_,_,SqT.of (j24.sm _ _ etq),rfl,r,R,o,w24,_,rfl,hR24,fun i' S ei eS=>?_,fun no=>absurd ⟨by omega,by rw[hln];omega⟩ no⟩
 rw[show i'=f.1 by omega,eSq]at eS
 cases eS
 refine⟨by rw[ewt];split <;> simp,fun lw xw H25 hlw g25 elw Fw=>?_⟩
 rw[ewt]at Fw
 refine⟨aL rfl,fun e0 he0=>?_⟩
 generalize eU:upd H25 e0 _=H26
 have g26:=nS he0 eU
 have ee0:=nE eU
 clear eU
 have j26:=(j24.same g25).same g26
 refine⟨_,.list [],.lst (SqL.of (g26 _ _ elw)) ((Fw.same g26).at_.dvs),.lst (SqL.of ee0) .nil,qT _,rfl,?_⟩
 rw[b1X]
 refine⟨_,_,SqT.of (j26.sm _ _ etq),rfl,_,_,SqL.of (g26 _ _ (g25 _ _ (g24 _ _ etl3))),att,dvB (decide (X 0=2)) (wk 0),.str (wk 0),b4G _ _,(show DV K _ (.str (wk 0)) (.str (wk 0)) from .str _),b4H _ _,a4X _,?_⟩
 rw[a8W]
 conv=>whnf
 refine a1K rfl ?_
 refine⟨_,.inl (SqL.of (j26.sm _ _ ewl9)),?_⟩
 rw[Ya,lq]
 refine⟨⟨by decide,by decide⟩,?_⟩
 conv=>whnf
 refine bL (fun c=>q _) (fun c=>?_)
 have c1:¬ ((vv:Nat):Int) / 2<((ps.length:Nat):Int):=dec_false c
 have fw:=few (by omega)
 conv=>whnf
 rcases fw with h | ⟨_,h⟩
 ·rw[a1Y fun i hi=>h _ (YA.mpr ⟨i,YU.mpr hi,rfl⟩)]
  refine bL (fun _=>q _) (fun _=>?_)
  conv=>whnf
  rw[Ye rfl]
  exact q _
 ·rw[xK fun i hi=>h _ (YA.mpr ⟨i,YU.mpr hi,rfl⟩)]
  conv=>whnf
  exact q _
set_option maxHeartbeats 0 in
include Zcl ZaL ZdO ZL ZlF ZbE ZdP Zej ZeM Zv Zfi Zfj Za2 Zdy ZbF ZcL ZaZ Zc0 ZeN ZfP ZbW Zeb ZhQ ZlG Zdc Zcs Zcd ZbU ZZ Zjn ZdU Zea ZcZ ZbG Zei Zdn Zeh Zdd Zfh ZcM ZaI ZcK Zkq Zgq Zd9 ZbT Zcj Zb9 ZR ZlH ZaM ZS ZlJ Zfk ZcN ZlK ZeO ZlI ZdN ZeI Ze Zd Zh Zbq Zg Zas Zf ZdM ZM Zi ZF Zr Zt ZU ZY Za Za4 ZaA Zd8 Za1 ZaE Zbp ZaR Zbo Za5 Za0 Zck Zb ZeJ Zm Zde ZeK ZT ZD ZaX Zbl Za8 Za3 ZaY ZaJ Zap ZW ZO Zbf ZbP ZeL Zat ZbM Zbg Zbk Zah Z8 ZaG ZaW Zbs Zbt Zb0 ZaV Zbr Zag Z7 ZbR Zb5 ZbN Zbi Zbu Zb7 ZcF Zcm ZbS Zb6 ZbO Zbj Zbv Zb8 ZcG Zs Zcn Zcp Zco Zac ZcH Zb3 Zb2 Zb1 ZbQ Zcq ZcJ Zcr ZcI Zb4 ZfQ Zar Zu Zz Zp ZH Zo Z4 ZI ZQ ZC Z2 ZaK ZB ZaC Zaf ZN Z3 ZaB Zk Zj ZaH ZJ Z6 Zad ZG Zaq Zam ZaD Zau ZP Z5 Zq Zy ZfR in
theorem all_mk {l:W.OpenLaw}{fa:Addr}(hfa:mg "law"=some (.ref fa))
 (Zga:GF K mg "heard_well" Zji ZbD)
 (Zis:GF K mg "bits_of" Zla Ziy)
 (Zg2:GF K mg "number_of" Zj3 Zg9)
 (Zg0:GF K mg "are_bytes" Zj1 Zg7)
 (Zit:GF K mg "divided" Zlb Ziz)
 (Ziv:GF K mg "rest_of" Zld ZiB)
 (ZhJ:GF K mg "check_of" ZkI ZhN)
 (Ziu:GF K mg "is_name" Zlc ZiA)
 (Zj6:GF K mg "put_in" Zl9 Zj8)
 (ZfB:GF K mg "check_frame" Zin ZfF)
 (Zf9:GF K mg "frame_bits" Zjh Zgh)
 (Ziw:GF K mg "wire_of" Zle ZiC)
 (Zg3:GF K mg "told_size" Zj4 Zha)
 (ZfD:GF K mg "is_complete" Zip ZfH)
 (Zgb:GF K mg "read_frame" Zjj Zgi)
 (Ze1:GF K mg "begun_reader" ZhA Ze4)
 (Zg1:GF K mg "is_wanted" Zj2 Zg8)
 (Zj5:GF K mg "copies" Zl8 Zj7)
 (Zgd:GF K mg "unless_off" Zjl Zgk)
 (ZhK:GF K mg "fault_of" ZkJ ZhO)
 (Zgc:GF K mg "refusal_of" Zjk Zgj)
 (ZhI:GF K mg "blame_of" ZkH ZhM)
 (ZfC:GF K mg "check_votes" Zio ZfG)
 (Ze2:GF K mg "check_choice" ZhB Ze5)
 (Zf8:GF K mg "check_tail" Zjg Zgg)
 (ZhL:GF K mg "verdicts" ZkK ZhP)
 (ZgX:GF K mg "_law_draw" ZjY Zg4)
 (ZgY:GF K mg "_law_size" ZjZ Zg5)
 (ZfA:GF K mg "_law_frames" Zim ZfE)
 (Zf7:GF K mg "_law_wrong" Zjf Zgf)
 (ZgZ:GF K mg "_law_took" Zj0 Zg6)
 (Zkg:GF K mg "law" ZmH Zmt)
 (Zfz:MF K CA.streak "__init__" "Streak.__init__" Zil Zd7)
 (ZdQ:MF K CA.streak "lengthen" "Streak.lengthen" ZfJ ZcO)
 (Zeg:MF K CA.streak "is_full" "Streak.is_full" Zgv Zdb)
 (Zc6:MF K CA.streak "is_too_long" "Streak.is_too_long" ZeR ZbZ)
 (Zfv:MF K CA.reader "__init__" "Reader.__init__" Zih Zd3)
 (Zep:MF K CA.reader "judged" "Reader.judged" ZgI Zdu)
 (Zfu:MF K CA.reader "hear" "Reader.hear" Zig Zd2)
 (ZeX:MF K CA.reader "plain" "Reader.plain" Zhw ZdI)
 (ZeW:MF K CA.reader "frame" "Reader.frame" Zhv ZdH)
 (ZgV:MF K ZdR "__init__" "Tail.__init__" ZjW Zfg)
 (ZgW:MF K ZdR "says" "Tail.says" ZjX ZdT)
 (Zf6:MF K ZdR "place" "Tail.place" Zje Zge)
 (Zeq:MF K ZdR "is_fault" "Tail.is_fault" ZgJ ZcE)
 (Zdv:MF K ZdR "judged_vote" "Tail.judged_vote" Zfm ZbC)
 (ZgU:MF K ZdR "hear" "Tail.hear" ZjV ZdS)
 (Zeo:MF K CA.rtail "__init__" "ReadTail.__init__" ZgH Zdt)
 (Zef:MF K CA.stail "__init__" "SpeakTail.__init__" Zgu Zda)
 (ZfT:MF K CA.count "__init__" "Count.__init__" Zi1 Zes)
 (Zec:MF K CA.count "is_quiet" "Count.is_quiet" Zgr Zc7)
 (ZeS:MF K CA.count "is_off" "Count.is_off" Zhr ZdE)
 (ZeT:MF K CA.count "number" "Count.number" Zhs Ze3)
 (ZfU:MF K CA.count "move" "Count.move" Zi2 Zet)
 (Zfo:MF K CA.count "fault" "Count.fault" Zia ZdW)
 (Zfn:MF K CA.count "blame" "Count.blame" Zh9 ZdV)
 (ZfS:MF K CA.count "good" "Count.good" Zi0 Zer)
 (ZgK:MF K CA.free "__init__" "Free.__init__" ZjM Ze6)
 (Zfw:MF K CA.speaks "__init__" "Speaks.__init__" Zii Zd4)
 (Zf0:MF K CA.reads "__init__" "Reads.__init__" Zi8 Zez)
 (Zfp:MF K CA.intail "__init__" "InTail.__init__" Zib ZdX)
 (Zek:MF K CA.flag "__init__" "Flagging.__init__" ZgD Zdp)
 (ZeY:MF K CA.settles "__init__" "Settles.__init__" Zhx ZdJ)
 (Zf3:MF K CA.rests "__init__" "Rests.__init__" Zjb ZeC)
 (Zen:MF K CA.post "is_quiet" "Post.is_quiet" ZgG Zds)
 (Zfs:MF K CA.post "is_off" "Post.is_off" Zie Zd0)
 (Zed:MF K CA.post "has_frame" "Post.has_frame" Zgs Zc8)
 (Zc5:MF K CA.post "foremost_wire" "Post.foremost_wire" ZeQ ZbY)
 (Zc4:MF K CA.post "drop_foremost" "Post.drop_foremost" ZeP ZbX)
 (ZeU:MF K CA.post "hand_up" "Post.hand_up" Zht ZdF)
 (ZgN:MF K CA.post "hand" "Post.hand" ZjP Ze9)
 (ZfY:MF K CA.post "waits" "Post.waits" Zi6 Zex)
 (ZhF:MF K CA.post "got" "Post.got" ZkE ZfM)
 (ZgP:MF K CA.post "__init__" "Post.__init__" ZjR Zfb)
 (ZgL:MF K CA.free "says" "Free.says" ZjN Ze7)
 (Zfx:MF K CA.speaks "says" "Speaks.says" Zij Zd5)
 (Zf1:MF K CA.reads "says" "Reads.says" Zi9 ZeA)
 (Zfq:MF K CA.intail "says" "InTail.says" Zic ZdY)
 (Zel:MF K CA.flag "says" "Flagging.says" ZgE Zdq)
 (ZeZ:MF K CA.settles "says" "Settles.says" Zhy ZdK)
 (Zf4:MF K CA.rests "says" "Rests.says" Zjc ZeD)
 (ZhD:MF K CA.off "says" "Off.says" ZkC ZfK)
 (ZhE:MF K CA.off "step" "Off.step" ZkD ZfL)
 (Zem:MF K CA.flag "step" "Flagging.step" ZgF Zdr)
 (Ze0:MF K CA.settles "step" "Settles.step" Zhz ZdL)
 (Zf5:MF K CA.rests "step" "Rests.step" Zjd ZeE)
 (ZgM:MF K CA.free "step" "Free.step" ZjO Ze8)
 (Zf2:MF K CA.reads "step" "Reads.step" Zja ZeB)
 (Zfy:MF K CA.speaks "step" "Speaks.step" Zik Zd6)
 (Zfr:MF K CA.intail "step" "InTail.step" Zid ZdZ)
 (ZgQ:MF K CA.post "says" "Post.says" ZjS Zfc)
 (ZgO:MF K CA.post "hear" "Post.hear" ZjQ Zfa)
 (ZeV:MF K Zn "post_at" "Rail.post_at" Zhu ZdG)
 (ZgS:MF K Zn "__init__" "Rail.__init__" ZjU Zfe)
 (ZgR:MF K Zn "hand" "Rail.hand" ZjT Zfd)
 (Zee:MF K Zn "make_turn" "Rail.make_turn" Zgt Zc9)
 (ZgT:MFc K Zn "turn" "Rail.turn" Zdo Zff 1016)
 (ZhH:MF K Zn "run" "Rail.run" ZkG ZfO)
 (Zft:MF K Zn "events" "Rail.events" Zif Zd1)
 (ZhG:MF K Zn "got" "Rail.got" ZkF ZfN)
 (ZfZ:MF K Zn "waits" "Rail.waits" Zi7 Zey)
 (ZfW:MF K Zaj "__init__" "Judge.__init__" Zi4 Zev)
 (ZfX:MF K Zaj "says" "Judge.says" Zi5 Zew)
 (ZfV:MF K Zaj "hear" "Judge.hear" Zi3 Zeu)
 :∃fd:FuncData,(∀(s:Shared)(v:Value),BindsTo s fd ⟨[v], []⟩ [("_law_script",v)])/\∀base:Heap,K.In base->base.Ns mainGlobals mg->fQ l.prog w K mg base CX0 15 fa fd ["_law_script"] (pC K):=by
 obtain⟨_,Zga⟩:=Zga
 obtain⟨_,Zis⟩:=Zis
 obtain⟨_,Zg2⟩:=Zg2
 obtain⟨_,Zg0⟩:=Zg0
 obtain⟨_,Zit⟩:=Zit
 obtain⟨_,Ziv⟩:=Ziv
 obtain⟨_,ZhJ⟩:=ZhJ
 obtain⟨_,Ziu⟩:=Ziu
 obtain⟨_,Zj6⟩:=Zj6
 obtain⟨_,ZfB⟩:=ZfB
 obtain⟨_,Zf9⟩:=Zf9
 obtain⟨_,Ziw⟩:=Ziw
 obtain⟨_,Zg3⟩:=Zg3
 obtain⟨_,ZfD⟩:=ZfD
 obtain⟨_,Zgb⟩:=Zgb
 obtain⟨_,Ze1⟩:=Ze1
 obtain⟨_,Zg1⟩:=Zg1
 obtain⟨_,Zj5⟩:=Zj5
 obtain⟨_,Zgd⟩:=Zgd
 obtain⟨_,ZhK⟩:=ZhK
 obtain⟨_,Zgc⟩:=Zgc
 obtain⟨_,ZhI⟩:=ZhI
 obtain⟨_,ZfC⟩:=ZfC
 obtain⟨_,Ze2⟩:=Ze2
 obtain⟨_,Zf8⟩:=Zf8
 obtain⟨_,ZhL⟩:=ZhL
 obtain⟨_,ZgX⟩:=ZgX
 obtain⟨_,ZgY⟩:=ZgY
 obtain⟨_,ZfA⟩:=ZfA
 obtain⟨_,Zf7⟩:=Zf7
 obtain⟨_,ZgZ⟩:=ZgZ
 obtain⟨d0,Zkg⟩:=Zkg
 obtain⟨_,_,Zfz⟩:=Zfz
 obtain⟨_,_,ZdQ⟩:=ZdQ
 obtain⟨_,_,Zeg⟩:=Zeg
 obtain⟨_,_,Zc6⟩:=Zc6
 obtain⟨_,_,Zfv⟩:=Zfv
 obtain⟨_,_,Zep⟩:=Zep
 obtain⟨_,_,Zfu⟩:=Zfu
 obtain⟨_,_,ZeX⟩:=ZeX
 obtain⟨_,_,ZeW⟩:=ZeW
 obtain⟨_,_,ZgV⟩:=ZgV
 obtain⟨_,_,ZgW⟩:=ZgW
 obtain⟨_,_,Zf6⟩:=Zf6
 obtain⟨_,_,Zeq⟩:=Zeq
 obtain⟨_,_,Zdv⟩:=Zdv
 obtain⟨_,_,ZgU⟩:=ZgU
 obtain⟨_,_,Zeo⟩:=Zeo
 obtain⟨_,_,Zef⟩:=Zef
 obtain⟨_,_,ZfT⟩:=ZfT
 obtain⟨_,_,Zec⟩:=Zec
 obtain⟨_,_,ZeS⟩:=ZeS
 obtain⟨_,_,ZeT⟩:=ZeT
 obtain⟨_,_,ZfU⟩:=ZfU
 obtain⟨_,_,Zfo⟩:=Zfo
 obtain⟨_,_,Zfn⟩:=Zfn
 obtain⟨_,_,ZfS⟩:=ZfS
 obtain⟨_,_,ZgK⟩:=ZgK
 obtain⟨_,_,Zfw⟩:=Zfw
 obtain⟨_,_,Zf0⟩:=Zf0
 obtain⟨_,_,Zfp⟩:=Zfp
 obtain⟨_,_,Zek⟩:=Zek
 obtain⟨_,_,ZeY⟩:=ZeY
 obtain⟨_,_,Zf3⟩:=Zf3
 obtain⟨_,_,Zen⟩:=Zen
 obtain⟨_,_,Zfs⟩:=Zfs
 obtain⟨_,_,Zed⟩:=Zed
 obtain⟨_,_,Zc5⟩:=Zc5
 obtain⟨_,_,Zc4⟩:=Zc4
 obtain⟨_,_,ZeU⟩:=ZeU
 obtain⟨_,_,ZgN⟩:=ZgN
 obtain⟨_,_,ZfY⟩:=ZfY
 obtain⟨_,_,ZhF⟩:=ZhF
 obtain⟨_,_,ZgP⟩:=ZgP
 obtain⟨_,_,ZgL⟩:=ZgL
 obtain⟨_,_,Zfx⟩:=Zfx
 obtain⟨_,_,Zf1⟩:=Zf1
 obtain⟨_,_,Zfq⟩:=Zfq
 obtain⟨_,_,Zel⟩:=Zel
 obtain⟨_,_,ZeZ⟩:=ZeZ
 obtain⟨_,_,Zf4⟩:=Zf4
 obtain⟨_,_,ZhD⟩:=ZhD
 obtain⟨_,_,ZhE⟩:=ZhE
 obtain⟨_,_,Zem⟩:=Zem
 obtain⟨_,_,Ze0⟩:=Ze0
 obtain⟨_,_,Zf5⟩:=Zf5
 obtain⟨_,_,ZgM⟩:=ZgM
 obtain⟨_,_,Zf2⟩:=Zf2
 obtain⟨_,_,Zfy⟩:=Zfy
 obtain⟨_,_,Zfr⟩:=Zfr
 obtain⟨_,_,ZgQ⟩:=ZgQ
 obtain⟨_,_,ZgO⟩:=ZgO
 obtain⟨_,_,ZeV⟩:=ZeV
 obtain⟨_,_,ZgS⟩:=ZgS
 obtain⟨_,_,ZgR⟩:=ZgR
 obtain⟨_,_,Zee⟩:=Zee
 obtain⟨_,_,ZgT,hc_Rail_turn⟩:=ZgT
 obtain⟨_,_,ZhH⟩:=ZhH
 obtain⟨_,_,Zft⟩:=Zft
 obtain⟨_,_,ZhG⟩:=ZhG
 obtain⟨_,_,ZfZ⟩:=ZfZ
 obtain⟨_,_,ZfW⟩:=ZfW
 obtain⟨_,_,ZfX⟩:=ZfX
 obtain⟨_,_,ZfV⟩:=ZfV
 cases hfa.symm.trans Zkg.m
 refine⟨d0,fun s v=>?_,fun base _ _=>?_⟩
 ·obtain⟨_,_,_,_,_,_,_,_,_,rfl,_⟩:=Zkg.F.ex
  exact .of_eq rfl
 have Zbe:=Zlx l.prog w mg base  Zga
 have ZaQ:=ZkY l.prog w mg base (CA:=CA) Zh Zar Zu Zfz
 have ZV:=ZiZ l.prog w mg base (CA:=CA) Zh Zar Zu ZdQ
 have ZK:=Zjs l.prog w mg base (CA:=CA) Zcl Zh Zu Zeg
 have ZaU:=Zhq l.prog w mg base (CA:=CA) Zcl Zh Zu Zc6
 have Z0:=Zmu l.prog w mg base ZaL ZR Zis
 have Zw:=Zl6 l.prog w mg base  Zg2
 have Zay:=Zl4 l.prog w mg base ZdO ZlH Zg0
 have Zc1:=Zmv l.prog w mg base ZL Zit
 have Zae:=Zmx l.prog w mg base ZL ZlF Zw Zc1 Ziv
 have ZcC:=Zml l.prog w mg base ZaL ZL ZbE ZaM Z0 Zae ZhJ
 have Zc2:=Zmw l.prog w mg base ZdP Ziu
 have Zdw:=ZmC l.prog w mg base (CA:=CA) Zej Zh Zbq ZT ZD ZaQ ZV ZK Zj6
 have Zx:=Zk0 l.prog w mg base ZeM Zv ZS Zay Zc2 ZfB
 have Zbz:=Zlw l.prog w mg base ZaL ZL Zv Zfi Zfj Za2 ZS Z0 ZcC Zx Zf9
 have Zc3:=Zmy l.prog w mg base ZaL ZL Zv Zdw Zbz Ziw
 have Zaz:=Zl7 l.prog w mg base Zdy ZbF Zw Zg3
 have Zab:=Zk2 l.prog w mg base ZbE Za2 ZbF ZS Zaz ZfD
 have ZbA:=Zly l.prog w mg base ZL Zv Za2 Zdy ZbF ZR Zw Zae Zaz Zab Zgb
 have Zcy:=ZkU l.prog w mg base (CA:=CA) Zej Zbq Zg Zz Zp ZH ZaQ Zfv
 have ZbK:=Zke l.prog w mg base (CA:=CA) ZL Zh Zg ZD ZaX Zz Zp ZK ZaU Zae Zab Zep
 have Z9:=ZkT l.prog w mg base (CA:=CA) ZL Zh Zg ZT ZD Zbl Zz Zp ZH ZV ZK ZbK Zfu
 have Zcg:=Zkw l.prog w mg base (CA:=CA) ZaM Zg Zp ZeX
 have Zcf:=Zkv l.prog w mg base (CA:=CA) ZL Zv Zg Zp ZH ZbA ZeW
 have Zbb:=ZlZ l.prog w mg base (CA:=CA) Ze Zd ZgV
 have Zbc:=Zl0 l.prog w mg base (CA:=CA) ZcL Ze Zd ZgW
 have Zix:=Zlt l.prog w mg base (CA:=CA) Ze Zd Zf6
 have ZbL:=Zkf l.prog w mg base (CA:=CA) ZcL Ze Zd Zeq
 have Za6:=Ziq l.prog w mg base (CA:=CA) ZaZ Ze Zd Zdv
 have Zba:=ZlY l.prog w mg base (CA:=CA) ZaZ Ze Zd Za8 Za3 ZaY ZaJ ZbL Za6 ZgU
 have Zax:=Zkd l.prog w mg base (CA:=CA) Zc0 Ze Zd Zas Zbb Zeo
 have Zao:=Zjr l.prog w mg base (CA:=CA) Zc0 Ze Zd Zas Zbb Zef
 have ZcQ:=Zlg l.prog w mg base (CA:=CA) Zf Zo ZfT
 have Zbm:=Zjo l.prog w mg base (CA:=CA) ZeN Zf Zo Zec
 have ZaF:=Zkr l.prog w mg base (CA:=CA) ZfP Zf Zo ZeS
 have Zhc:=Zks l.prog w mg base (CA:=CA) Zf Zo ZeT
 have Zak:=Zlh l.prog w mg base (CA:=CA) ZlJ Zf Zap Zo ZaF ZfU
 have ZaN:=ZkN l.prog w mg base (CA:=CA) ZbW Zeb Zf ZW Zak Zfo
 have Zct:=ZkM l.prog w mg base (CA:=CA) ZbW Zf ZW Zak Zfn
 have ZcP:=Zlf l.prog w mg base (CA:=CA) Zf ZW Zak ZfS
 have Zai:=ZkA l.prog w mg base (CA:=CA) ZL Zv ZhQ Zg ZdM ZO Zcy Z9 Ze1
 have Zaw:=ZlO l.prog w mg base (CA:=CA) ZM Z4 ZgK
 have ZaP:=ZkV l.prog w mg base (CA:=CA) Zi ZI ZQ ZC Zfw
 have Zal:=Zln l.prog w mg base (CA:=CA) ZF Z2 ZaK Zf0
 have ZaO:=ZkO l.prog w mg base (CA:=CA) Zr ZB ZaC Zfp
 have Zav:=Zj9 l.prog w mg base (CA:=CA) Zt Zaf ZN Zek
 have ZX:=Zkx l.prog w mg base (CA:=CA) ZU Z3 ZeY
 have Z1:=Zlq l.prog w mg base (CA:=CA) ZY ZaB Zf3
 have ZbJ:=Zkc l.prog w mg base (CA:=CA) Zf Za Zbf Zk Zbm Zen
 have Zcw:=ZkR l.prog w mg base (CA:=CA) Zf Za Zap Zk ZaF Zfs
 have Zbn:=Zjp l.prog w mg base (CA:=CA) ZS Za Zj Zed
 have ZaT:=Zhp l.prog w mg base (CA:=CA) ZaL ZL Zv Za Zj Zc3 Zc5
 have ZaS:=Zho l.prog w mg base (CA:=CA) Za Zj Zc4
 have Zcc:=Zl5 l.prog w mg base  Zg1
 have Zce:=Zkt l.prog w mg base (CA:=CA) Za ZaH ZJ Zcc ZeU
 have Zdg:=ZlR l.prog w mg base (CA:=CA) Zv ZaM Za Zj Zx ZgN
 have Zbd:=ZmB l.prog w mg base ZaM Zj5
 have ZcT:=Zll l.prog w mg base (CA:=CA) Za Zj Zbd ZfY
 have ZdB:=Zmh l.prog w mg base (CA:=CA) Za ZJ Zbd ZhF
 have ZE:=ZlA l.prog w mg base (CA:=CA) ZlG Za ZbP ZeL Zcw Zgd
 have Zl:=Zmm l.prog w mg base (CA:=CA) Zdc Zcs Zf Za Za4 Zat Zk ZaN Zav ZE ZhK
 have ZbB:=Zlz l.prog w mg base (CA:=CA) Zcd Zf Za ZaA Zat Zk ZaN ZX ZE Zgc
 have ZcB:=Zmk l.prog w mg base (CA:=CA) Zcd Zf Za ZaA ZbM Zk Zct ZX ZE ZhI
 have Zaa:=Zk1 l.prog w mg base ZbU ZZ ZdN ZfC
 have Za7:=ZkB l.prog w mg base ZZ Zay Ze2
 have Zdi:=ZlT l.prog w mg base (CA:=CA) ZbU ZZ Zjn ZdU Za Zd8 Za1 Zk Zj ZaH ZJ Z6 Zad ZcQ Zaw Zaa Za7 ZgP
 have Za9:=ZlP l.prog w mg base (CA:=CA) Zea ZM Za Zbg Zbk Z4 ZbJ Zbn ZgL
 have Zcz:=ZkW l.prog w mg base (CA:=CA) Zi ZI ZC Zfx
 have ZcV:=Zlo l.prog w mg base (CA:=CA)  Zf1
 have Zcu:=ZkP l.prog w mg base (CA:=CA) Ze Zd Zr Zah Z8 ZB Zbc Zfq
 have ZbH:=Zka l.prog w mg base (CA:=CA)  Zel
 have Zch:=Zky l.prog w mg base (CA:=CA)  ZeZ
 have ZcX:=Zlr l.prog w mg base (CA:=CA)  Zf4
 have Zdz:=Zmf l.prog w mg base (CA:=CA)  ZhD
 have ZdA:=Zmg l.prog w mg base (CA:=CA)  ZhE
 have ZbI:=Zkb l.prog w mg base (CA:=CA) Zdc Zcd Zt Za4 ZaA Zaf ZN Zav ZX Zem
 have Zci:=Zkz l.prog w mg base (CA:=CA) ZcZ ZbG ZU ZaE Z3 Z1 ZcB Ze0
 have ZcY:=Zls l.prog w mg base (CA:=CA) ZdU ZcZ ZY Za1 ZaE ZaB Zaw Z1 Zl Zf5
 have Zdf:=ZlQ l.prog w mg base (CA:=CA) ZaL ZL Zv ZdU Zei Zdn ZM Za Za1 Zbp ZaR ZaG ZaW Z4 Zai Zaw ZaP Zal ZaT Zl Za9 ZgM
 have ZcW:=Zlp l.prog w mg base (CA:=CA) ZL Zv Zc0 Zdn Zeh Zdd Zg ZF Za ZaR Zbo Za5 ZO Zbs Z2 ZaK Z6 Z9 Zcf Zax Zal ZaO Zl Zf2
 have ZcA:=ZkX l.prog w mg base (CA:=CA) ZL Zv Zc0 Zei Zdn Zeh Zfh ZcM ZS Zg Zi Za Zbp ZaR Zbo Za0 ZO Zbt ZI ZQ ZC Z6 Z9 Zcg Zao ZaP Zal ZaO Zl Zfy
 have Zcv:=ZkQ l.prog w mg base (CA:=CA) ZcZ ZbG Ze Zd Zf Zr Za ZaE Zb0 ZaV Zbr Zag Z7 ZB ZaC Zk Zba ZcP Z1 ZaS Zce Zl ZbB Zfr
 have Zdj:=ZlU l.prog w mg base (CA:=CA) ZM Zi ZF Zr Zt ZU ZY Za Zck ZaG ZbR Zb5 ZbN Zbi Zbu Zb7 ZcF Zad Za9 Zcz ZcV Zcu ZbH Zch ZcX Zdz ZgQ
 have Zdh:=ZlS l.prog w mg base (CA:=CA) ZaL ZL Zv ZM Zi ZF Zr Zt ZU ZY Za Zck Zcm ZbS Zb6 ZbO Zbj Zbv Zb8 ZcG Zad ZdA ZbI Zci ZcY Zdf ZcW ZcA Zcv ZgO
 have ZA:=Zku l.prog w mg base (CA:=CA) ZZ ZaI ZS Zb ZG ZeV
 have Zdl:=ZlW l.prog w mg base (CA:=CA) ZbU ZZ ZaI ZcK Zkq ZS Zb ZeJ ZG Zaq Zam ZaD Zau ZP Zdi ZgS
 have Zdk:=ZlV l.prog w mg base (CA:=CA) Zv ZZ ZaI Zgq Za Zb Zs Zcn Zaq Zx Zdg ZA ZgR
 have Zan:=Zjq l.prog w mg base (CA:=CA) ZaL ZL Zv ZaI ZR ZS Zfk ZcN Za Zb Zcp Zco ZG Zam ZaD Zau ZP Zbe Zdj Zdh Zee
 have Zdm:=ZlX l.prog w mg base (CA:=CA) ZZ ZaI ZaM Zb Zs Zac ZfQ ZfR hc_Rail_turn ZA Zan ZgT
 have ZdD:=Zmj l.prog w mg base (CA:=CA) ZaI ZR ZeI Zb Zac Zbe Zan ZhH
 have Zcx:=ZkS l.prog w mg base (CA:=CA) ZaI ZaM Zb ZP Zft
 have ZdC:=Zmi l.prog w mg base (CA:=CA) ZZ ZaI Za Zb Zs ZcH ZdB ZA ZhG
 have ZcU:=Zlm l.prog w mg base (CA:=CA) ZZ ZaI Za Zb Zs Zb3 ZcT ZA ZfZ
 have Zby:=Zlv l.prog w mg base ZaZ ZbU ZZ Zd9 ZbT Zaa Zf8
 have Zbw:=Zlj l.prog w mg base Zcj Zm Z5 Zq Zy ZfW
 have ZcS:=Zlk l.prog w mg base (CA:=CA) Zcj Ze Zd Zm Zah Z8 Z5 Zq Zy Zbc ZfX
 have ZcR:=Zli l.prog w mg base (CA:=CA) Zcj Zb9 Ze Zd Zm Zag Z7 Z5 Zq Zy Zba ZfV
 have ZcD:=Zmn l.prog w mg base (CA:=CA) ZaZ Zc0 ZbU ZZ Zdd ZcM Zcj ZR Zfk ZcN Ze Zd Za5 Za0 Zm Zde Zb2 Zb1 Zq Zax Zao Zby Zbw ZcS ZcR ZhL
 have Zc:=Zl1 l.prog w mg base ZS ZgX
 have Zca:=Zl2 l.prog w mg base ZR ZS ZlK ZgY
 have Zbh:=ZkZ l.prog w mg base ZR Zc ZfA
 have Zbx:=Zlu l.prog w mg base ZR Zc Zf7
 have Zcb:=Zl3 l.prog w mg base (CA:=CA) ZaI Zb ZbQ Zcx ZgZ
 exact(ZmJ l.prog w mg base (CA:=CA) Zv ZbU ZZ ZaI Zgq Zcj ZR ZaM ZS Zfk ZeO ZlI Zb ZeK Zcq ZcJ Zcr ZcI Zb4 ZfQ ZfR Zdl Zdk Zdm ZdD ZdC ZcU ZcD Zc Zca Zbh Zbx Zcb Zkg).1
end
theorem tupI_VOTES {t0 t1 t2:Tok}(h:K.lookup a=some ⟨.type "tuple",od,.seq #[.int 1 t0,.int 3 t1,.int 5 t2] n,sl⟩):zR K a [1,3,5]:=zR.of h (aL rfl) (.cons ⟨_,rfl⟩ (.cons ⟨_,rfl⟩ (.cons ⟨_,rfl⟩ .nil)))
abbrev csI {x_post x_count x_free x_speaks x_reads x_intail x_flag x_settles x_rests x_off x_reader x_streak x_rtail x_stail:Addr}:Cs:=⟨x_post,x_count,x_free,x_speaks,x_reads,x_intail,x_flag,x_settles,x_rests,x_off,x_reader,x_streak,x_rtail,x_stail⟩
theorem walk {l:W.OpenLaw}{q:Program}{loose:List Str}{XP:(Str->Option Value)->Heap->Prop}{YP:World->Heap->Prop}{d:DefRec}{K:Params->W.Frag}{tc:List (Addr×Addr)}(htc:tc= [(1016,1012)])(hn:l.most=some 63)(hdf:d.params.defaults= [])
  (hY:∀(w:World)(h:Heap),YP w h->(K w.params).In h/\∀q∈tc,(K w.params).lookup q.2=none/\h.get? q.2=some (W.tabObj #[])/\W.codeHdIn (K w.params) q.1 q.2=true)
  (F :∀(w:World)(mg:Str->Option Value)(fa:Addr)(h:Heap),(K w.params).In h->h.Ns mainGlobals mg->mg d.name=some (.ref fa)->
   ∃fd:FuncData,(∀(s:Shared)(u:Value),BindsTo s fd ⟨[u], []⟩ [("_law_script",u)])/\∀base:Heap,(K w.params).In base->base.Ns mainGlobals mg->fQ l.prog w (K w.params) mg base CX0 15 fa fd ["_law_script"] (pC (K w.params))) :
  W.WalkO q loose XP YP l.row.toRowW d [] (fun f vs=>PySem.call f vs):=by
 subst htc
 exact L2.walk_ofT (n:=63) (k:=15) (x:="_law_script") (CX:=fun _=>CX0) (sp:=fun w=>pC (K w.params)) hn (by decide) hdf ⟨rfl,by decide,by decide⟩ hY F (fun _ H a ns hl hO hS=>⟨a,ns,rfl,hS,hl,⟨#[],hO.1 1012 (by simp),trivial,.inl rfl⟩,fun _=>rfl⟩) fun _ _ _ _ _ z=>z
end My
open PySem PySem.W PyProof.Rows
set_option maxRecDepth 100000 in
set_option maxHeartbeats 0 in
theorem PySem.Challenge.cw_bitrail_k93_whole_tails_never_part_holds : PySem.Challenge.rw_bitrail_k93_whole_tails_never_part.Holds := by
 w_on;o_law
 refine holds_open (q:=Hd.qv) (loose:=Hd.loose) (XP:=XL Hd.qv []) (YP:=InK Hd.KA) (d:=Hd.dl) (kwd:=[]) Hd.left (InK.of Hd.K_as) InK.keeps (fun s e=>xl_of s e) XL.keeps Hd.dl_1 Hd.dl_2 rfl (fun s _=>recFacts_nil rfl) rfl
  (by assumption) (by decide +kernel) ⟨rfl,rfl,rfl,rfl,rfl,by decide +kernel⟩ ?hw ?hc
 case hw=>w_witness2
 refine My.walk (l:=PySem.Challenge.rw_bitrail_k93_whole_tails_never_part) (K:=Hd.K) (tc:=Hd.tc) rfl rfl rfl Hd.tabs ?F
 k_fill
 case F=>
  intro w mg fa h KX G hmg
  refine' My.all_mk w mg (CA:=My.csI) ?m0 ?m1 ?m2 ?m3 ?m4 ?m5 ?m6 ?m7 ?m8 ?m9 ?m10 ?m11 ?m12 ?m13 ?m14 ?m15 ?m16 ?m17 ?m18 ?m19 ?m20 ?m21 ?m22 ?m23 ?m24 ?m25 ?m26 ?m27 ?m28 ?m29 ?m30 ?m31 ?m32 ?m33 ?m34 ?m35 ?m36 ?m37 ?m38 ?m39 ?m40 ?m41 ?m42 ?m43 ?m44 ?m45 ?m46 ?m47 ?m48 ?m49 ?m50 ?m51 ?m52 ?m53 ?m54 ?m55 ?m56 ?m57 ?m58 ?m59 ?m60 ?m61 ?m62 ?m63 ?m64 ?m65 ?m66 ?m67 ?m68 ?m69 ?m70 ?m71 ?m72 ?m73 ?m74 ?m75 ?m76 ?m77 ?m78 ?m79 ?m80 ?m81 ?m82 ?m83 ?m84 ?m85 ?m86 ?m87 ?m88 ?m89 ?m90 ?m91 ?m92 ?m93 ?m94 ?m95 ?m96 ?m97 ?m98 ?m99 ?m100 ?m101 ?m102 ?m103 ?m104 ?m105 ?m106 ?m107 ?m108 ?m109 ?m110 ?m111 ?m112 ?m113 ?m114 ?m115 ?m116 ?m117 ?m118 ?m119 ?m120 ?m121 ?m122 ?m123 ?m124 ?m125 ?m126 ?m127 ?m128 ?m129 ?m130 ?m131 ?m132 ?m133 ?m134 ?m135 ?m136 ?m137 ?m138 ?m139 ?m140 ?m141 ?m142 ?m143 ?m144 ?m145 ?m146 ?m147 ?m148 ?m149 ?m150 ?m151 ?m152 ?m153 ?m154 ?m155 ?m156 ?m157 ?m158 ?m159 ?m160 ?m161 ?m162 ?m163 ?m164 ?m165 ?m166 ?m167 ?m168 ?m169 ?m170 ?m171 ?m172 ?m173 ?m174 ?m175 ?m176 ?m177 ?m178 ?m179 ?m180 ?m181 ?m182 ?m183 ?m184 ?m185 hmg ?f0 ?f5 ?f6 ?f7 ?f8 ?f9 ?f10 ?f11 ?f12 ?f13 ?f14 ?f15 ?f16 ?f17 ?f18 ?f40 ?f53 ?f56 ?f59 ?f60 ?f61 ?f62 ?f63 ?f64 ?f93 ?f97 ?f98 ?f99 ?f100 ?f101 ?f102 ?f103 ?f1 ?f2 ?f3 ?f4 ?f19 ?f20 ?f21 ?f22 ?f23 ?f24 ?f25 ?f26 ?f27 ?f28 ?f29 ?f30 ?f31 ?f32 ?f33 ?f34 ?f35 ?f36 ?f37 ?f38 ?f39 ?f41 ?f42 ?f43 ?f44 ?f45 ?f46 ?f47 ?f48 ?f49 ?f50 ?f51 ?f52 ?f54 ?f55 ?f57 ?f58 ?f65 ?f66 ?f67 ?f68 ?f69 ?f70 ?f71 ?f72 ?f73 ?f74 ?f75 ?f76 ?f77 ?f78 ?f79 ?f80 ?f81 ?f82 ?f83 ?f84 ?f85 ?f86 ?f87 ?f88 ?f89 ?f90 ?f91 ?f92 ?f94 ?f95 ?f96
  all_goals try dsimp only[My.csI]
  case m0 | m1 | m2 | m3 | m4 | m5 | m6 | m7 | m8 | m9 | m10 | m11 | m12 | m13 | m14 | m15 | m16 | m17 | m18 | m19 | m20 | m21 | m22 | m23 | m24 | m25 | m26 | m27 | m28 | m29 | m30 | m31 | m32 | m33 | m34 | m35 | m36 | m37 | m38 | m39 | m40 | m41 | m42 | m43 | m44 | m45 | m46 | m47=>refine' PySem.W.mg_of KX G ?_;k_is
  case m48 | m49 | m50 | m51 | m52 | m53 | m54 | m55 | m56 | m57=>refine' PySem.W.mg_none_of KX G ?_;k_is
  case f0 | f5 | f6 | f7 | f8 | f9 | f10 | f11 | f12 | f13 | f14 | f15 | f16 | f17 | f18 | f40 | f53 | f56 | f59 | f60 | f61 | f62 | f63 | f64 | f93 | f97 | f98 | f99 | f100 | f101 | f102 | f103=>(refine' My.gf_mk KX G ?a ?l ?c ?k;(case a=>show _=_;k_is);(case l=>show _=_;k_is);(case c=>show _=_;k_is);(case k=>show _=_;k_is))
  case f88=>(refine' My.mfc_mk ?a ?l ?c ?k;(case a=>show _=_;k_is);(case l=>show _=_;k_is);(case c=>show _=_;k_is);(case k=>show _=_;k_is))
  case f1 | f2 | f3 | f4 | f19 | f20 | f21 | f22 | f23 | f24 | f25 | f26 | f27 | f28 | f29 | f30 | f31 | f32 | f33 | f34 | f35 | f36 | f37 | f38 | f39 | f41 | f42 | f43 | f44 | f45 | f46 | f47 | f48 | f49 | f50 | f51 | f52 | f54 | f55 | f57 | f58 | f65 | f66 | f67 | f68 | f69 | f70 | f71 | f72 | f73 | f74 | f75 | f76 | f77 | f78 | f79 | f80 | f81 | f82 | f83 | f84 | f85 | f86 | f87 | f89 | f90 | f91 | f92 | f94 | f95 | f96=>(refine' My.mf_mk ?a ?l ?c ?k;(case a=>show _=_;k_is);(case l=>show _=_;k_is);(case c=>show _=_;k_is);(case k=>show _=_;k_is))
  case m58=>(refine' My.tupI_VOTES ?a;(case a=>k_is))
  case m59=>(exact⟨_,_,_,_,rfl⟩)
  case m60 | m61=>(refine⟨?_,?_,?_,?_,?_⟩;(refine⟨?_,?_,?_,?_⟩ <;> k_is);all_goals (show PySem.W.findIn _ _ _=_;k_is))
  case m62 | m63 | m64 | m65 | m66 | m67 | m68 | m69 | m70 | m71 | m72 | m73 | m74 | m75 | m76 | m77 | m78 | m79 | m80 | m81 | m82 | m83 | m84 | m85 | m86 | m87 | m88 | m89 | m90 | m91=>(refine⟨?_,?_,?_,?_⟩ <;> k_is)
  case m92 | m93 | m94 | m95 | m96 | m97 | m98 | m99 | m100 | m101 | m102 | m103 | m104 | m105 | m106 | m107 | m108 | m109 | m110 | m111 | m112 | m113 | m114 | m115 | m116 | m117 | m118 | m119 | m120 | m121 | m122 | m123 | m124 | m125 | m126 | m127 | m128 | m129 | m130 | m131 | m132 | m133 | m134 | m135 | m136 | m137 | m138 | m139 | m140 | m141 | m142 | m143 | m144 | m145 | m146 | m147 | m148 | m149 | m150=>(refine⟨?_,?_,?_⟩ <;> k_is)
  case m151=>(refine' My.BmK.bm KX G ?_;(refine⟨?_,by decide,by decide, #[],?_⟩ <;> k_is))
  case m152 | m153 | m154 | m155 | m156 | m157 | m158 | m159 | m160 | m161 | m162 | m163 | m164 | m165 | m166 | m167 | m168 | m169 | m170 | m171 | m172 | m173 | m174 | m175 | m176 | m177 | m178 | m179 | m180 | m181 | m182 | m183 | m184=>(show PySem.W.findIn _ _ _=_;k_is)
  case m185=>kernel_rfl
#print axioms PySem.Challenge.cw_bitrail_k93_whole_tails_never_part_holds
