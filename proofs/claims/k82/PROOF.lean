import PyProof.Rows.All
import Wide.All
import OpenK.AllK
import Wide.FinOn
import PyProof.EqAt
import PyProof.EqKinds
import PyProof.TupleCall
import Lean
import PySem.Challenge.RW_bitrail_k82_words_of_rows
set_option Elab.async false
def Ya:=@List.length_map
def Yb:=@PySem.wpAny_bind
def Yc:=@List.getElem?_eq_some_iff
def Yd:=@PySem.Heap.get?_push_of_some
def Ye:=@Nat.le_refl
def Yf:=@List.mem_cons_of_mem
def Yg:=@Bool.false_ne_true
def Yh:=@List.getElem?_eq_getElem
def Yi:=@decide_eq_false
def Yj:=@List.length_append
def Yk:=@decide_eq_true
def Yl:=@List.size_toArray
def Ym:=@PySem.Heap.lt_size
def Yn:=@Nat.le_trans
def Yo:=@List.map_cons
def Yp:=@Nat.lt_of_lt_of_le
def Yq:=@List.getElem?_map
def Yr:=@Int.eq_ofNat_of_zero_le
def Ys:=@List.length_cons
def Yt:=@Option.map_eq_some_iff
def Yu:=@List.map_append
def Yv:=@List.mem_cons
def Yw:=@List.mem_cons_self
def Yx:=@List.mem_singleton
def Yy:=@congrArg
def Yz:=@List.append_nil
def YA:=@List.mem_of_getElem?
def YB:=@PySem.Heap.get?_push_size
def YC:=@Bool.and_eq_true
def YD:=@List.take_of_length_le
def YE:=@Option.some.inj
def YF:=@PySem.F.excBase_ValueError
def YG:=@List.getD_eq_getElem?_getD
def YH:=@List.all_eq_true
def YI:=@PySem.wpAny_pure
def YJ:=@List.take_succ_eq_append_getElem
def YK:=@List.mem_append_right
def YL:=@Nat.ne_of_lt
def YM:=@List.getElem?_append_right
def YN:=@List.getElem?_append_left
def YO:=@Nat.zero_le
def YQ:=@PySem.wpAny_mono
def YR:=@List.mem_filterMap
def YS:=@PySem.Heap.get?_update_other
def YT:=@List.length_take
def YU:=@Array.getElem?_eq_some_iff
def YV:=@PySem.Str.length_append
def YW:=@Nat.lt_irrefl
def YX:=@List.mem_append
def YY:=@PySem.Heap.FunFrames.mem
def YZ:=@PyProof.Rows.callWith_type1
def Y0:=@PySem.wpAny_truthy_bool
def Y1:=@List.lookup_cons
def Y2:=@decide_eq_true_iff
def Y3:=@List.all_cons
def Y4:=@List.getElem?_cons_succ
def Y5:=@List.nodup_cons
def Y6:=@beq_eq_false_iff_ne
def Y7:=@List.getElem_mem
def Y8:=@beq_iff_eq
def Y9:=@PySem.wpAny_holding
def Xa:=@List.length_set
def Xb:=@List.getElem?_set_ne
def Xc:=@PySem.wpAny_Call_Name_kw
def Xd:=@of_decide_eq_true
def Xe:=@Nat.add_le_add
def Xf:=@Nat.lt_of_le_of_lt
def Xg:=@PySem.W.looks_findIn
def Xh:=@List.getElem?_eq_none
def Xi:=@Int.toNat_natCast
def Xj:=@PySem.PassesOwn.never
def Xk:=@PySem.W.kia_one
def Xl:=@Nat.le_of_lt
def Xm:=@List.length_drop
def Xn:=@PySem.Heap.get?_update_self
def Xo:=@List.mem_or_eq_of_mem_set
def Xp:=@PySem.mem_of_lookup
def Xq:=@List.any_cons
def Xr:=@Bool.eq_iff_iff
def Xs:=@List.find?_cons
def Xu:=@PySem.F.plainAttrs_list
def Xv:=@List.getLast?_cons_cons
def Xw:=@List.mem_map
def Xx:=@List.append_assoc
def Xy:=@PySem.Obj.data_mapFields
def Xz:=@List.length_replicate
def XA:=@PySem.wpAny_field
def XB:=@List.not_mem_nil
def XC:=@List.cons.inj
def XD:=@List.mem_append_left
def XE:=@PySem.codeAny_mono
def XF:=@PySem.wpAny_loadPart_at
def XG:=@Bool.or_eq_true
def XH:=@Nat.min_eq_left
def XI:=@PySem.wpAny_call
def XJ:=@PySem.call_meets
def XM:=@PySem.Calls.evalArgs_plain
def XN:=@Bool.and_false
def XO:=@Int.emod_lt_of_pos
def XQ:=@PySem.codeAny_call_builtin
def XR:=@PySem.wpAny_passesOwn
def XS:=@PySem.wpAny_loadPart
def XT:=@PySem.Calls.spliced_cons
def XU:=@PySem.wpAny_setField
namespace Hd
open PySem PyProof.Rows
open PySem.W PySem.Calls
theorem c7W (t:Thread):(endAt 0 t).isSome=through t:=by
 obtain⟨cur,code,pos,st⟩:=t
 cases st with
 | nil=>cases cur with
  |pure f=>cases f <;> rfl
  |_=>rfl
 |cons a l=>cases cur <;> rfl
theorem a9N {tb:String->Option Builtin}{p:Program}{w:World}{m:Nat}{ann:Option Value}:∀{n:Nat}{s s':Shared}{t:Thread}{f:Flow}{c:Code}{x:Pos},
  segRun tb p w m ann 0 n s t=some (f,s',c,x)->topRun tb p w m ann n s t=some s'
 |0,_,_,_,_,_,_,h=>by simp[segRun]at h
 | n + 1,s,s',t,f,c,x,h=>by
  unfold segRun at h
  unfold topRun
  rw[<-c7W t]
  cases he:endAt 0 t with
  |some g=>rw[he]at h;cases h;rfl
  | none=>
   rw[he]at h
   dsimp only[Option.isSome]at h ⊢
   cases k:stepOk m ann t with
   |false=>rw[k]at h;cases h
   | true=>
    rw[k]at h
    dsimp only at h ⊢
    cases g:step (denote tb) p w s t with
    |halt o z=>rw[g]at h;cases h
    |go z t'=>rw[g]at h;exact a9N h
def lookT (T:BT)(n a:Nat):Option Obj:=match Nat.blt a n with
 |true=>(match T.get a with | some o=>alive o | none=>none)
 |false=>none
theorem b8D {T:BT}{n a:Nat}{life:Life}{o:Obj}(h:lookT T n a=some o):(absHeap T n life).get? a=some o:=by
 unfold lookT at h
 cases c:Nat.blt a n with
 |false=>rw[c]at h;cases h
 | true=>
  rw[c]at h
  dsimp only at h
  cases g:T.get a with
  |none=>rw[g]at h;cases h
  | some x=>
   rw[g]at h
   rw[abs_get (Nat.le_of_ble_eq_true c) g]
   exact h
theorem b1T {T:BT}{n:Nat}{life:Life}:∀{as:List Addr}{os:List Obj},as.map (lookT T n)=os.map some->as.map (absHeap T n life).get? =os.map some
 |[], [],_=>rfl
 |[],_::_,h=>by cases h
 |_::_, [],h=>by cases h
 | a::as,o::os,h=>by
  rw[Yo,Yo]at h
  injection h with h1 h2
  rw[Yo,Yo,b1T h2]
  exact Yy (·::os.map some) (b8D h1)
abbrev look (p q:Program)(loose:List Str)(Xt:Shared->Bool)(as:List Addr)(h:Heap)(s:SharedT):=
 (staticsOk (importedModules p.main.body) h s.abs.heap && namesBound p s.abs.heap && gensDone s.abs && laidKept h s.abs.heap,openSeen q loose (importedModules p.main.body) Xt true s.abs,as.map (lookT s.tree s.n))
theorem b5T {p q:Program}{loose:List Str}{Xt:Shared->Bool}{as:List Addr}{os_:World->List Obj}{N m:Nat}{ann:Option Value}(S:World->OsState->SharedT)
  (op:∀w:World,(fencedOpening treeTable p w N).map (fun s=>(s.heap,s.gens,s.drawn,s.toks))=some (boot_heap w.params,Array.mk [],boot_drawn,boot_toks))
  (size : ∀ w : World, ((boot_heap w.params).isNs mainGlobals, (boot_heap w.params).objs.size, (boot_heap w.params).nsMap mainGlobals "__annotations__") = (true, m, ann))
  (abs:∀w os,(S w os).abs=⟨boot_heap w.params,Array.mk [],boot_drawn,boot_toks,os⟩)
  (whole:∀w:World,(fun os=>(segRunT treeTable p w m ann 0 N (S w os) (topStub p)).map fun r=>look p q loose Xt as (boot_heap w.params) r.2.1)=fun _=>some (true,openGood q loose,(os_ w).map some)):LeftO p q loose Xt (fun s=>as.map s.heap.get?) (fun w=>(os_ w).map some) N:=fun w=>by
 obtain⟨⟨h,gs,d,k,os⟩,e,e'⟩:=Yt.mp (op w)
 obtain⟨rfl,rfl,rfl,rfl⟩:h=boot_heap w.params/\gs=Array.mk []/\d=boot_drawn/\k=boot_toks:=by simpa using e'
 obtain⟨y1,y2,y3⟩:_/\_/\_:=by simpa only[Prod.mk.injEq] using size w
 obtain⟨⟨f,s',c,x⟩,r1,r2⟩:=Yt.mp (congrFun (whole w) os)
 obtain⟨l1,l2,l3⟩:_/\_/\_:=by simpa only[look,Prod.mk.injEq] using r2
 have l4:as.map s'.abs.heap.get? =(os_ w).map some:=b1T l3
 have r:=a9N (segRun_of r1)
 rw[abs]at r
 have t:topFrom treeTable p w N ⟨boot_heap w.params,Array.mk [],boot_drawn,boot_toks,os⟩=some s'.abs:=by
  unfold topFrom
  dsimp only
  rw[y1,y2,y3,r]
  show (match staticsOk (importedModules p.main.body) (boot_heap w.params) s'.abs.heap && namesBound p s'.abs.heap && gensDone s'.abs && laidKept (boot_heap w.params) s'.abs.heap with | true=>_ | false=>_)=_
  rw[l1]
 unfold openEnds
 rw[e]
 refine(Yy (Option.map _) t).trans ?_
 exact Yy some (by show (_,as.map s'.abs.heap.get?)=(_,(os_ w).map some);rw[l2,l4])
abbrev r (a:Addr):Value:= .ref a
abbrev s (x:Str)(t:Tok):Value:= .str x t
abbrev i (x:Int)(t:Tok):Value:= .int x t
abbrev t (x:String):Value:= .type x
abbrev b (x:String):Value:= .builtin x
abbrev tp (l:List Value):Obj:=⟨.type "tuple",none,.seq l.toArray 0, #[]⟩
abbrev co (l:List Value):Obj:=⟨.type "code",none,.fields l.toArray, #[]⟩
abbrev di (c:Value)(l:List DictEntry)(n:Nat):Obj:=⟨c,none,.dict l.toArray n, #[]⟩
abbrev e (P:Params)(x:Str)(t:Tok)(v:Value):DictEntry:=⟨PyData.keyHash P x,.str x t,v⟩
abbrev cl (c:ClassData)(l:List (Option Value)):Obj:=⟨.type "type",none,.cls c,l.toArray⟩
abbrev o (v:Value):Option Value:=some v
abbrev sf (p:Program)(k:Nat):Stmt:=p.main.body.getD k default
def sub (k:Nat):Stmt->Stmt
 |.ClassDef _ _ _ b _ _ _ _ _ _ _=>b.getD k default
 |x=>x
def fn (q:Str)(d kw doc md:Value)(c bl:Addr):Stmt->Obj
 |.FunctionDef n a b _ _ _ sc _ _ _=>⟨.type "function",none,.func { name:=n,qualname:=q,params:=a,body:= .stmts b,scope:=sc,globals:=3,closure:=[],defaults:=d,kwdefaults:=kw,doc:=doc,pyModule:=md,code:= .ref c,builtins:=bl }, #[]⟩
 |_=>default
def dr:Stmt->DefRec
 |.FunctionDef n a b _ _ _ sc _ _ x=>⟨n,a,b,sc,x⟩
 |_=>⟨"",⟨[], [],none, [], [],none, []⟩, [],default,default⟩
abbrev cc (nm qn:Str)(t l a fl x tb:Nat)(d v f:Value)(z n t':Nat):Obj:=co [s nm t,s qn (t+1),s "/claim/cut.py" (t+2),i l 0,i a 0,i 0 0,i 0 0,i fl 0,r x,.bool true,i 181 0,r tb,d,v,f,r z,i n 0,i l 0,s "/claim/cut.py" t']
abbrev fo (q md:Str)(t:Tok)(c:Addr)(x:Stmt):Obj:=fn q .none .none .none (s md t) c 0 x
noncomputable def tree (P:Params):BT:=(.node (boot_o_0 P) (.node (boot_o_1 P) (.node (boot_o_3 P) (.node (boot_o_7 P) .nil .nil) .nil) (.node (boot_o_5 P) (.node (boot_o_9 P) .nil .nil) .nil)) (.node (boot_o_2 P) (.node (boot_o_4 P) (.node (boot_o_8 P) .nil .nil) .nil) (.node (boot_o_6 P) (.node (boot_o_10 P) .nil .nil) .nil)))
noncomputable def S (w:World)(os:OsState):SharedT:=⟨tree w.params,11,(boot_heap w.params).life,Array.mk [],boot_drawn,boot_toks,os⟩
theorem c7N (w:World)(os:OsState):(S w os).abs=⟨boot_heap w.params,Array.mk [],boot_drawn,boot_toks,os⟩:=by kernel_rfl
end Hd
namespace Hd
open PySem PyProof.Rows
open PySem.W PySem.Calls
set_option maxRecDepth 100000
noncomputable section
abbrev p:Program:=PySem.Challenge.pw_bitrail_k82_words_of_rows
noncomputable def K (P : Params) : Frag := (nat_lit 2, di .none [] 0) :: (nat_lit 3, di (t "dict") [e P "__name__" 165 (s "law_bitrail_k82_words_of_rows" 2171), e P "__doc__" 166 .none, e P "__package__" 167 .none, e P "__loader__" 168 (b "__main__.__loader__#opaque"), e P "__spec__" 169 .none, e P "__annotations__" 170 (r 6), e P "__builtins__" 171 (r 4), e P "__file__" 173 (s "/claim/cut.py" 172), e P "__cached__" 174 .none, e P "_wall" 193 (r 21), e P "RailError" 213 (r 31), e P "NoBits" 229 (r 44), e P "NoName" 245 (r 56), e P "NoKey" 261 (r 68), e P "NoFrame" 277 (r 80), e P "NoPost" 293 (r 92), e P "NoThing" 309 (r 104), e P "NoStrip" 325 (r 116), e P "NoRail" 341 (r 128), e P "NoWire" 366 (r 147), e P "NoRow" 391 (r 166), e P "HIGHEST_BYTE" 395 (i 255 394), e P "bits_of" 401 (r 173), e P "number_of" 410 (r 180), e P "drawn" 416 (r 185), e P "are_bytes" 422 (r 190), e P "ear" 434 (r 197), e P "PIECE_BYTES" 438 (i 5 437), e P "MOST_BYTES_things" 440 (i 75 439), e P "cut" 446 (r 202), e P "check_thing" 454 (r 209), e P "piece_of" 465 (r 216), e P "check_piece" 476 (r 223), e P "is_size" 485 (r 230), e P "Joiner" 575 (r 296), e P "divided" 588 (r 307), e P "KEY" 592 (i 64647 591), e P "CHECK_BITS" 594 (i 15 593), e P "rest_of" 601 (r 314), e P "check_of" 608 (r 321), e P "NAME_BITS" 612 (i 8 611), e P "HIGHEST_NAME" 614 (i 255 613), e P "is_name" 621 (r 328), e P "is_wanted" 629 (r 335), e P "MOST_ALIKE" 633 (i 5 632), e P "Streak" 684 (r 373), e P "put_in" 694 (r 384), e P "SIZE_AT" 698 (i 9 697), e P "SIZE_BITS" 700 (i 3 699), e P "DATA_AT" 702 (i 12 701), e P "BYTE_BITS" 704 (i 8 703), e P "MOST_BYTES_frames" 706 (i 7 705), e P "check_frame" 714 (r 391), e P "frame_bits" 724 (r 398), e P "is_complete" 731 (r 405), e P "told_size" 738 (r 412), e P "read_frame" 744 (r 417), e P "wire_of" 752 (r 424), e P "GREAT_FAULT" 756 (i 8 755), e P "SMALL_FAULT" 758 (i 1 757), e P "QUIET_FROM" 760 (i 12 759), e P "OFF_FROM" 762 (i 18 761), e P "Count" 841 (r 490), e P "Reader" 903 (r 539), e P "ANSWER_AT" 907 (i 1 906), e P "VOTES_AT" 909 (i 9 908), e P "Tail" 982 (r 595), e P "ReadTail" 1006 (r 616), e P "SpeakTail" 1030 (r 635), e P "FLAG_BITS" 1034 (i 6 1033), e P "REST_TURNS" 1036 (i 3 1035), e P "QUIET_TURNS" 1038 (i 8 1037), e P "DUEL_BITS" 1040 (i 9 1039), e P "begun_reader" 1047 (r 644), e P "unless_off" 1056 (r 651), e P "fault_of" 1064 (r 658), e P "refusal_of" 1072 (r 665), e P "blame_of" 1079 (r 672), e P "Free" 1133 (r 710), e P "Speaks" 1192 (r 752), e P "Reads" 1248 (r 794), e P "InTail" 1304 (r 836), e P "Flagging" 1359 (r 878), e P "Settles" 1412 (r 920), e P "Rests" 1465 (r 962), e P "Off" 1509 (r 997), e P "VOTES" 1515 (r 1002), e P "check_votes" 1522 (r 1009), e P "check_choice" 1529 (r 1016), e P "copies" 1535 (r 1021), e P "Post" 1666 (r 1129), e P "MOST_POSTS" 1670 (i 5 1669), e P "Rail" 1828 (r 1256), e P "heard_well" 1837 (r 1267), e P "STRIP_BITS" 1841 (i 40 1840), e P "FIGURES" 1843 (i 6 1842), e P "SIGNS" 1845 (s "_-" 1844), e P "strips" 1851 (r 1272), e P "strip_of" 1857 (r 1277), e P "MOST_FIGURES" 1861 (i 6 1860), e P "MOST_TURNS" 1863 (i 2000 1862), e P "MOST_BITS" 1865 (i 400 1864), e P "FORMS" 1923 (r 1278), e P "read_row" 1935 (r 1309), e P "value_of" 1945 (r 1316), e P "number_in" 1951 (r 1321), e P "choice_of" 1961 (r 1328), e P "dotted" 1967 (r 1333), e P "frames_text" 1973 (r 1338), e P "thing_text" 1981 (r 1345), e P "told_of" 1989 (r 1352), e P "things_of" 2000 (r 1359), e P "part_of" 2009 (r 1366), e P "say_hand" 2017 (r 1373), e P "say_thing" 2027 (r 1380), e P "say_wrong" 2035 (r 1387), e P "say_run" 2043 (r 1394), e P "say_bits" 2051 (r 1401), e P "say_draw" 2060 (r 1408), e P "say_got" 2068 (r 1415), e P "say_waits" 2076 (r 1422), e P "say_things" 2082 (r 1427), e P "say_stance" 2091 (r 1434), e P "say_faults" 2099 (r 1441), e P "ANSWERS" 2122 (r 1442), e P "Desk" 2170 (r 1473), e P "_law_draw" 2183 (r 1484), e P "_law_number" 2191 (r 1491), e P "_law_least" 2198 (r 1498), e P "_law_good" 2212 (r 1505), e P "_law_odd" 2222 (r 1512), e P "_law_is_number" 2230 (r 1519), e P "_law_is_word" 2240 (r 1526), e P "_law_first_wrong" 2248 (r 1533), e P "_law_is_rail" 2257 (r 1540), e P "_law_answer" 2269 (r 1547), e P "law" 2285 (r 1554)] 137) :: (nat_lit 30, di (t "dict") [e P "__module__" 203 (s "bitrail.errors" 194), e P "__firstlineno__" 207 (i 5 206), e P "__static_attributes__" 208 (r 29), e P "__weakref__" 210 (r 32), e P "__doc__" 211 .none] 3) :: (nat_lit 31, cl { name := "RailError", bases := [t "ValueError"], mro := [r 31, t "ValueError", t "Exception", t "BaseException", t "object"], ns := 30, qualname := "RailError", hasDict := true, subclasses := [r 44, r 56, r 68, r 80, r 92, r 104, r 116, r 128, r 147, r 166] } [o (r 22), .none, o (s "RailError" 196), o (s "RailError" 204), o (b "ValueError.__new__"), o (.bool true)]) :: (nat_lit 43, di (t "dict") [e P "__module__" 221 (s "bitrail.errors" 194), e P "__firstlineno__" 225 (i 7 224), e P "__static_attributes__" 226 (r 42), e P "__doc__" 227 .none] 2) :: (nat_lit 44, cl { name := "NoBits", bases := [r 31], mro := [r 44, r 31, t "ValueError", t "Exception", t "BaseException", t "object"], ns := 43, qualname := "NoBits", hasDict := true, subclasses := [] } [o (r 35), .none, o (s "NoBits" 214), o (s "NoBits" 222), o (b "ValueError.__new__"), o (.bool true)]) :: (nat_lit 55, di (t "dict") [e P "__module__" 237 (s "bitrail.errors" 194), e P "__firstlineno__" 241 (i 9 240), e P "__static_attributes__" 242 (r 54), e P "__doc__" 243 .none] 2) :: (nat_lit 56, cl { name := "NoName", bases := [r 31], mro := [r 56, r 31, t "ValueError", t "Exception", t "BaseException", t "object"], ns := 55, qualname := "NoName", hasDict := true, subclasses := [] } [o (r 47), .none, o (s "NoName" 230), o (s "NoName" 238), o (b "ValueError.__new__"), o (.bool true)]) :: (nat_lit 67, di (t "dict") [e P "__module__" 253 (s "bitrail.errors" 194), e P "__firstlineno__" 257 (i 11 256), e P "__static_attributes__" 258 (r 66), e P "__doc__" 259 .none] 2) :: (nat_lit 68, cl { name := "NoKey", bases := [r 31], mro := [r 68, r 31, t "ValueError", t "Exception", t "BaseException", t "object"], ns := 67, qualname := "NoKey", hasDict := true, subclasses := [] } [o (r 59), .none, o (s "NoKey" 246), o (s "NoKey" 254), o (b "ValueError.__new__"), o (.bool true)]) :: (nat_lit 79, di (t "dict") [e P "__module__" 269 (s "bitrail.errors" 194), e P "__firstlineno__" 273 (i 13 272), e P "__static_attributes__" 274 (r 78), e P "__doc__" 275 .none] 2) :: (nat_lit 80, cl { name := "NoFrame", bases := [r 31], mro := [r 80, r 31, t "ValueError", t "Exception", t "BaseException", t "object"], ns := 79, qualname := "NoFrame", hasDict := true, subclasses := [] } [o (r 71), .none, o (s "NoFrame" 262), o (s "NoFrame" 270), o (b "ValueError.__new__"), o (.bool true)]) :: (nat_lit 91, di (t "dict") [e P "__module__" 285 (s "bitrail.errors" 194), e P "__firstlineno__" 289 (i 15 288), e P "__static_attributes__" 290 (r 90), e P "__doc__" 291 .none] 2) :: (nat_lit 92, cl { name := "NoPost", bases := [r 31], mro := [r 92, r 31, t "ValueError", t "Exception", t "BaseException", t "object"], ns := 91, qualname := "NoPost", hasDict := true, subclasses := [] } [o (r 83), .none, o (s "NoPost" 278), o (s "NoPost" 286), o (b "ValueError.__new__"), o (.bool true)]) :: (nat_lit 103, di (t "dict") [e P "__module__" 301 (s "bitrail.errors" 194), e P "__firstlineno__" 305 (i 17 304), e P "__static_attributes__" 306 (r 102), e P "__doc__" 307 .none] 2) :: (nat_lit 104, cl { name := "NoThing", bases := [r 31], mro := [r 104, r 31, t "ValueError", t "Exception", t "BaseException", t "object"], ns := 103, qualname := "NoThing", hasDict := true, subclasses := [] } [o (r 95), .none, o (s "NoThing" 294), o (s "NoThing" 302), o (b "ValueError.__new__"), o (.bool true)]) :: (nat_lit 115, di (t "dict") [e P "__module__" 317 (s "bitrail.errors" 194), e P "__firstlineno__" 321 (i 19 320), e P "__static_attributes__" 322 (r 114), e P "__doc__" 323 .none] 2) :: (nat_lit 116, cl { name := "NoStrip", bases := [r 31], mro := [r 116, r 31, t "ValueError", t "Exception", t "BaseException", t "object"], ns := 115, qualname := "NoStrip", hasDict := true, subclasses := [] } [o (r 107), .none, o (s "NoStrip" 310), o (s "NoStrip" 318), o (b "ValueError.__new__"), o (.bool true)]) :: (nat_lit 127, di (t "dict") [e P "__module__" 333 (s "bitrail.errors" 194), e P "__firstlineno__" 337 (i 21 336), e P "__static_attributes__" 338 (r 126), e P "__doc__" 339 .none] 2) :: (nat_lit 128, cl { name := "NoRail", bases := [r 31], mro := [r 128, r 31, t "ValueError", t "Exception", t "BaseException", t "object"], ns := 127, qualname := "NoRail", hasDict := true, subclasses := [] } [o (r 119), .none, o (s "NoRail" 326), o (s "NoRail" 334), o (b "ValueError.__new__"), o (.bool true)]) :: (nat_lit 146, di (t "dict") [e P "__module__" 349 (s "bitrail.errors" 194), e P "__firstlineno__" 353 (i 23 352), e P "__init__" 361 (r 144), e P "__static_attributes__" 363 (r 145), e P "__doc__" 364 .none] 2) :: (nat_lit 147, cl { name := "NoWire", bases := [r 31], mro := [r 147, r 31, t "ValueError", t "Exception", t "BaseException", t "object"], ns := 146, qualname := "NoWire", hasDict := true, subclasses := [] } [o (r 131), .none, o (s "NoWire" 342), o (s "NoWire" 350), o (b "ValueError.__new__"), o (.bool true)]) :: (nat_lit 162, cc "__init__" "NoRow.__init__" 379 29 2 3 157 158 .none (r 159) (r 160) 161 384 385) :: (nat_lit 163, fo "NoRow.__init__" "bitrail.errors" 194 162 (sub 0 (sf p 12))) :: (nat_lit 165, di (t "dict") [e P "__module__" 374 (s "bitrail.errors" 194), e P "__firstlineno__" 378 (i 27 377), e P "__init__" 386 (r 163), e P "__static_attributes__" 388 (r 164), e P "__doc__" 389 .none] 2) :: (nat_lit 166, cl { name := "NoRow", bases := [r 31], mro := [r 166, r 31, t "ValueError", t "Exception", t "BaseException", t "object"], ns := 165, qualname := "NoRow", hasDict := true, subclasses := [] } [o (r 150), .none, o (s "NoRow" 367), o (s "NoRow" 375), o (b "ValueError.__new__"), o (.bool true)]) :: (nat_lit 184, cc "drawn" "drawn" 411 42 1 3 181 182 .none .none .none 183 414 415) :: (nat_lit 185, fo "drawn" "bitrail.bits" 392 184 (sf p 17)) :: (nat_lit 189, cc "are_bytes" "are_bytes" 417 44 1 3 186 187 .none .none .none 188 420 421) :: (nat_lit 190, fo "are_bytes" "bitrail.bits" 392 189 (sf p 18)) :: (nat_lit 201, cc "cut" "cut" 441 58 2 3 198 199 .none .none .none 200 444 445) :: (nat_lit 202, fo "cut" "bitrail.things" 435 201 (sf p 24)) :: (nat_lit 208, cc "check_thing" "check_thing" 447 63 2 3 203 204 .none (r 205) (r 206) 207 452 453) :: (nat_lit 209, fo "check_thing" "bitrail.things" 435 208 (sf p 25)) :: (nat_lit 215, cc "piece_of" "piece_of" 455 70 4 3 210 211 .none (r 212) (r 213) 214 463 464) :: (nat_lit 216, fo "piece_of" "bitrail.things" 435 215 (sf p 26)) :: (nat_lit 243, cc "__init__" "Joiner.__init__" 498 89 1 3 238 239 .none (r 240) (r 241) 242 502 503) :: (nat_lit 244, fo "Joiner.__init__" "bitrail.joiners" 466 243 (sub 0 (sf p 30))) :: (nat_lit 285, cc "end" "Joiner.end" 548 134 1 3 280 281 .none (r 282) (r 283) 284 552 553) :: (nat_lit 286, fo "Joiner.end" "bitrail.joiners" 466 285 (sub 6 (sf p 30))) :: (nat_lit 295, di (t "dict") [e P "__module__" 493 (s "bitrail.joiners" 466), e P "__firstlineno__" 497 (i 87 496), e P "__init__" 504 (r 244), e P "take" 513 (r 251), e P "begin_thing" 522 (r 258), e P "goes_on" 530 (r 265), e P "add_piece" 538 (r 272), e P "break_off" 547 (r 279), e P "end" 554 (r 286), e P "is_open" 561 (r 293), e P "__static_attributes__" 568 (r 294), e P "__dict__" 570 (r 297), e P "__weakref__" 572 (r 298), e P "__doc__" 573 .none] 4) :: (nat_lit 296, cl { name := "Joiner", bases := [t "object"], mro := [r 296, t "object"], ns := 295, qualname := "Joiner", hasDict := true, subclasses := [] } [.none, .none, o (s "Joiner" 486), o (s "Joiner" 494), o (b "object.__new__"), o (.bool true)]) :: (nat_lit 327, cc "is_name" "is_name" 615 164 1 3 322 323 .none (r 324) (r 325) 326 619 620) :: (nat_lit 328, fo "is_name" "bitrail.names" 609 327 (sf p 41)) :: (nat_lit 372, di (t "dict") [e P "__module__" 641 (s "bitrail.putting" 630), e P "__firstlineno__" 645 (i 170 644), e P "__init__" 652 (r 349), e P "lengthen" 660 (r 356), e P "is_full" 667 (r 363), e P "is_too_long" 674 (r 370), e P "__static_attributes__" 677 (r 371), e P "__dict__" 679 (r 374), e P "__weakref__" 681 (r 375), e P "__doc__" 682 .none] 4) :: (nat_lit 373, cl { name := "Streak", bases := [t "object"], mro := [r 373, t "object"], ns := 372, qualname := "Streak", hasDict := true, subclasses := [] } [.none, .none, o (s "Streak" 634), o (s "Streak" 642), o (b "object.__new__"), o (.bool true)]) :: (nat_lit 390, cc "check_frame" "check_frame" 707 201 2 3 385 386 .none (r 387) (r 388) 389 712 713) :: (nat_lit 391, fo "check_frame" "bitrail.frames" 695 390 (sf p 53)) :: (nat_lit 437, cc "__init__" "Count.__init__" 775 236 1 3 432 433 .none (r 434) (r 435) 436 779 780) :: (nat_lit 438, fo "Count.__init__" "bitrail.counts" 753 437 (sub 0 (sf p 64))) :: (nat_lit 472, cc "number" "Count.number" 812 252 1 3 467 468 .none (r 469) (r 470) 471 816 817) :: (nat_lit 473, fo "Count.number" "bitrail.counts" 753 472 (sub 5 (sf p 64))) :: (nat_lit 486, cc "is_off" "Count.is_off" 826 258 1 3 481 482 .none (r 483) (r 484) 485 830 831) :: (nat_lit 487, fo "Count.is_off" "bitrail.counts" 753 486 (sub 7 (sf p 64))) :: (nat_lit 489, di (t "dict") [e P "__module__" 770 (s "bitrail.counts" 753), e P "__firstlineno__" 774 (i 234 773), e P "__init__" 781 (r 438), e P "fault" 789 (r 445), e P "blame" 796 (r 452), e P "good" 803 (r 459), e P "move" 811 (r 466), e P "number" 818 (r 473), e P "is_quiet" 825 (r 480), e P "is_off" 832 (r 487), e P "__static_attributes__" 834 (r 488), e P "__dict__" 836 (r 491), e P "__weakref__" 838 (r 492), e P "__doc__" 839 .none] 4) :: (nat_lit 490, cl { name := "Count", bases := [t "object"], mro := [r 490, t "object"], ns := 489, qualname := "Count", hasDict := true, subclasses := [] } [.none, .none, o (s "Count" 763), o (s "Count" 771), o (b "object.__new__"), o (.bool true)]) :: (nat_lit 538, di (t "dict") [e P "__module__" 851 (s "bitrail.readers" 842), e P "__firstlineno__" 855 (i 261 854), e P "__init__" 862 (r 508), e P "hear" 871 (r 515), e P "judged" 878 (r 522), e P "plain" 885 (r 529), e P "frame" 892 (r 536), e P "__static_attributes__" 896 (r 537), e P "__dict__" 898 (r 540), e P "__weakref__" 900 (r 541), e P "__doc__" 901 .none] 4) :: (nat_lit 539, cl { name := "Reader", bases := [t "object"], mro := [r 539, t "object"], ns := 538, qualname := "Reader", hasDict := true, subclasses := [] } [.none, .none, o (s "Reader" 844), o (s "Reader" 852), o (b "object.__new__"), o (.bool true)]) :: (nat_lit 594, di (t "dict") [e P "__module__" 917 (s "bitrail.tails" 904), e P "__firstlineno__" 921 (i 291 920), e P "__init__" 930 (r 557), e P "says" 937 (r 564), e P "hear" 946 (r 571), e P "is_fault" 955 (r 578), e P "judged_vote" 963 (r 585), e P "place" 970 (r 592), e P "__static_attributes__" 975 (r 593), e P "__dict__" 977 (r 596), e P "__weakref__" 979 (r 597), e P "__doc__" 980 .none] 4) :: (nat_lit 595, cl { name := "Tail", bases := [t "object"], mro := [r 595, t "object"], ns := 594, qualname := "Tail", hasDict := true, subclasses := [r 616, r 635] } [.none, .none, o (s "Tail" 910), o (s "Tail" 918), o (b "object.__new__"), o (.bool true)]) :: (nat_lit 615, di (t "dict") [e P "__module__" 990 (s "bitrail.tails" 904), e P "__firstlineno__" 994 (i 323 993), e P "__init__" 1002 (r 613), e P "__static_attributes__" 1003 (r 614), e P "__doc__" 1004 .none] 2) :: (nat_lit 616, cl { name := "ReadTail", bases := [r 595], mro := [r 616, r 595, t "object"], ns := 615, qualname := "ReadTail", hasDict := true, subclasses := [] } [o (r 600), .none, o (s "ReadTail" 983), o (s "ReadTail" 991), o (b "object.__new__"), o (.bool true)]) :: (nat_lit 634, di (t "dict") [e P "__module__" 1014 (s "bitrail.tails" 904), e P "__firstlineno__" 1018 (i 327 1017), e P "__init__" 1026 (r 632), e P "__static_attributes__" 1027 (r 633), e P "__doc__" 1028 .none] 2) :: (nat_lit 635, cl { name := "SpeakTail", bases := [r 595], mro := [r 635, r 595, t "object"], ns := 634, qualname := "SpeakTail", hasDict := true, subclasses := [] } [o (r 619), .none, o (s "SpeakTail" 1007), o (s "SpeakTail" 1015), o (b "object.__new__"), o (.bool true)]) :: (nat_lit 685, cc "__init__" "Free.__init__" 1092 353 2 3 680 681 .none (r 682) (r 683) 684 1097 1098) :: (nat_lit 686, fo "Free.__init__" "bitrail.stances" 1031 685 (sub 0 (sf p 83))) :: (nat_lit 692, cc "shown" "Free.shown" 1100 356 1 3 687 688 .none (r 689) (r 690) 691 1104 1105) :: (nat_lit 693, fo "Free.shown" "bitrail.stances" 1031 692 (sub 1 (sf p 83))) :: (nat_lit 709, di (t "dict") [e P "__module__" 1087 (s "bitrail.stances" 1031), e P "__firstlineno__" 1091 (i 351 1090), e P "__init__" 1099 (r 686), e P "shown" 1106 (r 693), e P "says" 1114 (r 700), e P "step" 1124 (r 707), e P "__static_attributes__" 1126 (r 708), e P "__dict__" 1128 (r 711), e P "__weakref__" 1130 (r 712), e P "__doc__" 1131 .none] 4) :: (nat_lit 710, cl { name := "Free", bases := [t "object"], mro := [r 710, t "object"], ns := 709, qualname := "Free", hasDict := true, subclasses := [] } [.none, .none, o (s "Free" 1080), o (s "Free" 1088), o (b "object.__new__"), o (.bool true)]) :: (nat_lit 751, di (t "dict") [e P "__module__" 1141 (s "bitrail.stances" 1031), e P "__firstlineno__" 1145 (i 373 1144), e P "__init__" 1155 (r 728), e P "shown" 1162 (r 735), e P "says" 1170 (r 742), e P "step" 1181 (r 749), e P "__static_attributes__" 1185 (r 750), e P "__dict__" 1187 (r 753), e P "__weakref__" 1189 (r 754), e P "__doc__" 1190 .none] 4) :: (nat_lit 752, cl { name := "Speaks", bases := [t "object"], mro := [r 752, t "object"], ns := 751, qualname := "Speaks", hasDict := true, subclasses := [] } [.none, .none, o (s "Speaks" 1134), o (s "Speaks" 1142), o (b "object.__new__"), o (.bool true)]) :: (nat_lit 793, di (t "dict") [e P "__module__" 1200 (s "bitrail.stances" 1031), e P "__firstlineno__" 1204 (i 398 1203), e P "__init__" 1213 (r 770), e P "shown" 1220 (r 777), e P "says" 1228 (r 784), e P "step" 1238 (r 791), e P "__static_attributes__" 1241 (r 792), e P "__dict__" 1243 (r 795), e P "__weakref__" 1245 (r 796), e P "__doc__" 1246 .none] 4) :: (nat_lit 794, cl { name := "Reads", bases := [t "object"], mro := [r 794, t "object"], ns := 793, qualname := "Reads", hasDict := true, subclasses := [] } [.none, .none, o (s "Reads" 1193), o (s "Reads" 1201), o (b "object.__new__"), o (.bool true)]) :: (nat_lit 835, di (t "dict") [e P "__module__" 1256 (s "bitrail.stances" 1031), e P "__firstlineno__" 1260 (i 417 1259), e P "__init__" 1269 (r 812), e P "shown" 1276 (r 819), e P "says" 1284 (r 826), e P "step" 1294 (r 833), e P "__static_attributes__" 1297 (r 834), e P "__dict__" 1299 (r 837), e P "__weakref__" 1301 (r 838), e P "__doc__" 1302 .none] 4) :: (nat_lit 836, cl { name := "InTail", bases := [t "object"], mro := [r 836, t "object"], ns := 835, qualname := "InTail", hasDict := true, subclasses := [] } [.none, .none, o (s "InTail" 1249), o (s "InTail" 1257), o (b "object.__new__"), o (.bool true)]) :: (nat_lit 877, di (t "dict") [e P "__module__" 1312 (s "bitrail.stances" 1031), e P "__firstlineno__" 1316 (i 443 1315), e P "__init__" 1325 (r 854), e P "shown" 1332 (r 861), e P "says" 1340 (r 868), e P "step" 1349 (r 875), e P "__static_attributes__" 1352 (r 876), e P "__dict__" 1354 (r 879), e P "__weakref__" 1356 (r 880), e P "__doc__" 1357 .none] 4) :: (nat_lit 878, cl { name := "Flagging", bases := [t "object"], mro := [r 878, t "object"], ns := 877, qualname := "Flagging", hasDict := true, subclasses := [] } [.none, .none, o (s "Flagging" 1305), o (s "Flagging" 1313), o (b "object.__new__"), o (.bool true)]) :: (nat_lit 919, di (t "dict") [e P "__module__" 1367 (s "bitrail.stances" 1031), e P "__firstlineno__" 1371 (i 459 1370), e P "__init__" 1379 (r 896), e P "shown" 1386 (r 903), e P "says" 1394 (r 910), e P "step" 1403 (r 917), e P "__static_attributes__" 1405 (r 918), e P "__dict__" 1407 (r 921), e P "__weakref__" 1409 (r 922), e P "__doc__" 1410 .none] 4) :: (nat_lit 920, cl { name := "Settles", bases := [t "object"], mro := [r 920, t "object"], ns := 919, qualname := "Settles", hasDict := true, subclasses := [] } [.none, .none, o (s "Settles" 1360), o (s "Settles" 1368), o (b "object.__new__"), o (.bool true)]) :: (nat_lit 961, di (t "dict") [e P "__module__" 1420 (s "bitrail.stances" 1031), e P "__firstlineno__" 1424 (i 476 1423), e P "__init__" 1432 (r 938), e P "shown" 1439 (r 945), e P "says" 1447 (r 952), e P "step" 1456 (r 959), e P "__static_attributes__" 1458 (r 960), e P "__dict__" 1460 (r 963), e P "__weakref__" 1462 (r 964), e P "__doc__" 1463 .none] 4) :: (nat_lit 962, cl { name := "Rests", bases := [t "object"], mro := [r 962, t "object"], ns := 961, qualname := "Rests", hasDict := true, subclasses := [] } [.none, .none, o (s "Rests" 1413), o (s "Rests" 1421), o (b "object.__new__"), o (.bool true)]) :: (nat_lit 996, di (t "dict") [e P "__module__" 1473 (s "bitrail.stances" 1031), e P "__firstlineno__" 1477 (i 491 1476), e P "shown" 1484 (r 980), e P "says" 1492 (r 987), e P "step" 1501 (r 994), e P "__static_attributes__" 1502 (r 995), e P "__dict__" 1504 (r 998), e P "__weakref__" 1506 (r 999), e P "__doc__" 1507 .none] 4) :: (nat_lit 997, cl { name := "Off", bases := [t "object"], mro := [r 997, t "object"], ns := 996, qualname := "Off", hasDict := true, subclasses := [] } [.none, .none, o (s "Off" 1466), o (s "Off" 1474), o (b "object.__new__"), o (.bool true)]) :: (nat_lit 1002, tp [i 1 1512, i 3 1513, i 5 1514]) :: (nat_lit 1008, cc "check_votes" "check_votes" 1516 503 1 3 1003 1004 .none (r 1005) (r 1006) 1007 1520 1521) :: (nat_lit 1009, fo "check_votes" "bitrail.posts" 1510 1008 (sf p 93)) :: (nat_lit 1015, cc "check_choice" "check_choice" 1523 506 1 3 1010 1011 .none (r 1012) (r 1013) 1014 1527 1528) :: (nat_lit 1016, fo "check_choice" "bitrail.posts" 1510 1015 (sf p 94)) :: (nat_lit 1020, cc "copies" "copies" 1530 509 1 3 1017 1018 .none .none .none 1019 1533 1534) :: (nat_lit 1021, fo "copies" "bitrail.posts" 1510 1020 (sf p 95)) :: (nat_lit 1034, cc "__init__" "Post.__init__" 1548 513 3 3 1029 1030 .none (r 1031) (r 1032) 1033 1554 1555) :: (nat_lit 1035, fo "Post.__init__" "bitrail.posts" 1510 1034 (sub 0 (sf p 96))) :: (nat_lit 1041, cc "hand" "Post.hand" 1557 523 3 3 1036 1037 .none (r 1038) (r 1039) 1040 1563 1564) :: (nat_lit 1042, fo "Post.hand" "bitrail.posts" 1510 1041 (sub 1 (sf p 96))) :: (nat_lit 1062, cc "stance" "Post.stance" 1582 535 1 3 1057 1058 .none (r 1059) (r 1060) 1061 1586 1587) :: (nat_lit 1063, fo "Post.stance" "bitrail.posts" 1510 1062 (sub 4 (sf p 96))) :: (nat_lit 1069, cc "waits" "Post.waits" 1589 538 1 3 1064 1065 .none (r 1066) (r 1067) 1068 1593 1594) :: (nat_lit 1070, fo "Post.waits" "bitrail.posts" 1510 1069 (sub 5 (sf p 96))) :: (nat_lit 1076, cc "got" "Post.got" 1596 541 1 3 1071 1072 .none (r 1073) (r 1074) 1075 1600 1601) :: (nat_lit 1077, fo "Post.got" "bitrail.posts" 1510 1076 (sub 6 (sf p 96))) :: (nat_lit 1083, cc "faults" "Post.faults" 1603 544 1 3 1078 1079 .none (r 1080) (r 1081) 1082 1607 1608) :: (nat_lit 1084, fo "Post.faults" "bitrail.posts" 1510 1083 (sub 7 (sf p 96))) :: (nat_lit 1097, cc "is_off" "Post.is_off" 1617 550 1 3 1092 1093 .none (r 1094) (r 1095) 1096 1621 1622) :: (nat_lit 1098, fo "Post.is_off" "bitrail.posts" 1510 1097 (sub 9 (sf p 96))) :: (nat_lit 1128, di (t "dict") [e P "__module__" 1543 (s "bitrail.posts" 1510), e P "__firstlineno__" 1547 (i 511 1546), e P "__init__" 1556 (r 1035), e P "hand" 1565 (r 1042), e P "says" 1572 (r 1049), e P "hear" 1581 (r 1056), e P "stance" 1588 (r 1063), e P "waits" 1595 (r 1070), e P "got" 1602 (r 1077), e P "faults" 1609 (r 1084), e P "is_quiet" 1616 (r 1091), e P "is_off" 1623 (r 1098), e P "has_frame" 1630 (r 1105), e P "foremost_wire" 1637 (r 1112), e P "drop_foremost" 1644 (r 1119), e P "hand_up" 1652 (r 1126), e P "__static_attributes__" 1659 (r 1127), e P "__dict__" 1661 (r 1130), e P "__weakref__" 1663 (r 1131), e P "__doc__" 1664 .none] 4) :: (nat_lit 1129, cl { name := "Post", bases := [t "object"], mro := [r 1129, t "object"], ns := 1128, qualname := "Post", hasDict := true, subclasses := [] } [.none, .none, o (s "Post" 1536), o (s "Post" 1544), o (b "object.__new__"), o (.bool true)]) :: (nat_lit 1144, cc "__init__" "Rail.__init__" 1683 569 3 3 1141 1142 .none .none .none 1143 1686 1687) :: (nat_lit 1145, fo "Rail.__init__" "bitrail.rails" 1667 1144 (sub 0 (sf p 99))) :: (nat_lit 1151, cc "hand" "Rail.hand" 1689 579 4 3 1146 1147 .none (r 1148) (r 1149) 1150 1697 1698) :: (nat_lit 1152, fo "Rail.hand" "bitrail.rails" 1667 1151 (sub 1 (sf p 99))) :: (nat_lit 1175, cc "post_at" "Rail.post_at" 1722 610 2 3 1170 1171 .none (r 1172) (r 1173) 1174 1727 1728) :: (nat_lit 1176, fo "Rail.post_at" "bitrail.rails" 1667 1175 (sub 5 (sf p 99))) :: (nat_lit 1189, cc "bits" "Rail.bits" 1737 618 1 3 1184 1185 .none (r 1186) (r 1187) 1188 1741 1742) :: (nat_lit 1190, fo "Rail.bits" "bitrail.rails" 1667 1189 (sub 7 (sf p 99))) :: (nat_lit 1203, cc "heard" "Rail.heard" 1752 625 2 3 1198 1199 .none (r 1200) (r 1201) 1202 1757 1758) :: (nat_lit 1204, fo "Rail.heard" "bitrail.rails" 1667 1203 (sub 9 (sf p 99))) :: (nat_lit 1217, cc "stance" "Rail.stance" 1767 632 2 3 1212 1213 .none (r 1214) (r 1215) 1216 1772 1773) :: (nat_lit 1218, fo "Rail.stance" "bitrail.rails" 1667 1217 (sub 11 (sf p 99))) :: (nat_lit 1224, cc "waits" "Rail.waits" 1775 635 2 3 1219 1220 .none (r 1221) (r 1222) 1223 1780 1781) :: (nat_lit 1225, fo "Rail.waits" "bitrail.rails" 1667 1224 (sub 12 (sf p 99))) :: (nat_lit 1231, cc "got" "Rail.got" 1783 638 2 3 1226 1227 .none (r 1228) (r 1229) 1230 1788 1789) :: (nat_lit 1232, fo "Rail.got" "bitrail.rails" 1667 1231 (sub 13 (sf p 99))) :: (nat_lit 1238, cc "faults" "Rail.faults" 1791 641 2 3 1233 1234 .none (r 1235) (r 1236) 1237 1796 1797) :: (nat_lit 1239, fo "Rail.faults" "bitrail.rails" 1667 1238 (sub 14 (sf p 99))) :: (nat_lit 1252, cc "is_off" "Rail.is_off" 1807 647 2 3 1247 1248 .none (r 1249) (r 1250) 1251 1812 1813) :: (nat_lit 1253, fo "Rail.is_off" "bitrail.rails" 1667 1252 (sub 16 (sf p 99))) :: (nat_lit 1255, di (t "dict") [e P "__module__" 1678 (s "bitrail.rails" 1667), e P "__firstlineno__" 1682 (i 567 1681), e P "__init__" 1688 (r 1145), e P "hand" 1699 (r 1152), e P "turn" 1709 (r 1159), e P "run" 1715 (r 1164), e P "make_turn" 1721 (r 1169), e P "post_at" 1729 (r 1176), e P "turns" 1736 (r 1183), e P "bits" 1743 (r 1190), e P "said" 1751 (r 1197), e P "heard" 1759 (r 1204), e P "events" 1766 (r 1211), e P "stance" 1774 (r 1218), e P "waits" 1782 (r 1225), e P "got" 1790 (r 1232), e P "faults" 1798 (r 1239), e P "is_quiet" 1806 (r 1246), e P "is_off" 1814 (r 1253), e P "__static_attributes__" 1821 (r 1254), e P "__dict__" 1823 (r 1257), e P "__weakref__" 1825 (r 1258), e P "__doc__" 1826 .none] 4) :: (nat_lit 1256, cl { name := "Rail", bases := [t "object"], mro := [r 1256, t "object"], ns := 1255, qualname := "Rail", hasDict := true, subclasses := [] } [.none, .none, o (s "Rail" 1671), o (s "Rail" 1679), o (b "object.__new__"), o (.bool true)]) :: (nat_lit 1271, cc "strips" "strips" 1846 655 2 3 1268 1269 .none .none .none 1270 1849 1850) :: (nat_lit 1272, fo "strips" "bitrail.strips" 1838 1271 (sf p 105)) :: (nat_lit 1278, di (t "dict") [e P "rail" 1866 (r 1280), e P "hand" 1870 (r 1282), e P "thing" 1874 (r 1284), e P "wrong" 1879 (r 1286), e P "run" 1883 (r 1288), e P "bits" 1886 (r 1290), e P "draw" 1890 (r 1292), e P "got" 1895 (r 1294), e P "waits" 1898 (r 1296), e P "things" 1901 (r 1298), e P "stance" 1905 (r 1300), e P "faults" 1908 (r 1302)] 12) :: (nat_lit 1279, tp [s "number" 1867, s "choice" 1868]) :: (nat_lit 1280, tp [r 1279, s "choice" 1869]) :: (nat_lit 1281, tp [s "number" 1871, s "number" 1872]) :: (nat_lit 1282, tp [r 1281, s "number" 1873]) :: (nat_lit 1283, tp [s "number" 1875, s "number" 1876, s "number" 1877]) :: (nat_lit 1284, tp [r 1283, s "number" 1878]) :: (nat_lit 1285, tp [s "number" 1880, s "number" 1881]) :: (nat_lit 1286, tp [r 1285, s "" 1882]) :: (nat_lit 1287, tp [s "turns" 1884]) :: (nat_lit 1288, tp [r 1287, s "" 1885]) :: (nat_lit 1289, tp [s "number" 1887, s "end" 1888]) :: (nat_lit 1290, tp [r 1289, s "" 1889]) :: (nat_lit 1291, tp [s "number" 1891, s "number" 1892, s "end" 1893]) :: (nat_lit 1292, tp [r 1291, s "" 1894]) :: (nat_lit 1293, tp [s "number" 1896]) :: (nat_lit 1294, tp [r 1293, s "" 1897]) :: (nat_lit 1295, tp [s "number" 1899]) :: (nat_lit 1296, tp [r 1295, s "" 1900]) :: (nat_lit 1297, tp [s "number" 1902, s "number" 1903]) :: (nat_lit 1298, tp [r 1297, s "" 1904]) :: (nat_lit 1299, tp [s "number" 1906]) :: (nat_lit 1300, tp [r 1299, s "" 1907]) :: (nat_lit 1301, tp [s "number" 1909]) :: (nat_lit 1302, tp [r 1301, s "" 1910]) :: (nat_lit 1308, cc "read_row" "read_row" 1924 664 1 3 1303 1304 .none (r 1305) (r 1306) 1307 1933 1934) :: (nat_lit 1309, fo "read_row" "bitrail.desk" 1858 1308 (sf p 112)) :: (nat_lit 1315, cc "value_of" "value_of" 1936 678 3 3 1310 1311 .none (r 1312) (r 1313) 1314 1943 1944) :: (nat_lit 1316, fo "value_of" "bitrail.desk" 1858 1315 (sf p 113)) :: (nat_lit 1320, cc "number_in" "number_in" 1946 691 1 3 1317 1318 .none .none .none 1319 1949 1950) :: (nat_lit 1321, fo "number_in" "bitrail.desk" 1858 1320 (sf p 114)) :: (nat_lit 1327, cc "choice_of" "choice_of" 1952 699 1 3 1322 1323 .none (r 1324) (r 1325) 1326 1959 1960) :: (nat_lit 1328, fo "choice_of" "bitrail.desk" 1858 1327 (sf p 115)) :: (nat_lit 1332, cc "dotted" "dotted" 1962 708 1 3 1329 1330 .none .none .none 1331 1965 1966) :: (nat_lit 1333, fo "dotted" "bitrail.desk" 1858 1332 (sf p 116)) :: (nat_lit 1337, cc "frames_text" "frames_text" 1968 710 1 3 1334 1335 .none .none .none 1336 1971 1972) :: (nat_lit 1338, fo "frames_text" "bitrail.desk" 1858 1337 (sf p 117)) :: (nat_lit 1358, cc "things_of" "things_of" 1990 722 2 3 1353 1354 .none (r 1355) (r 1356) 1357 1998 1999) :: (nat_lit 1359, fo "things_of" "bitrail.desk" 1858 1358 (sf p 120)) :: (nat_lit 1365, cc "part_of" "part_of" 2001 729 3 3 1360 1361 .none (r 1362) (r 1363) 1364 2007 2008) :: (nat_lit 1366, fo "part_of" "bitrail.desk" 1858 1365 (sf p 121)) :: (nat_lit 1372, cc "say_hand" "say_hand" 2010 731 2 3 1367 1368 .none (r 1369) (r 1370) 1371 2015 2016) :: (nat_lit 1373, fo "say_hand" "bitrail.desk" 1858 1372 (sf p 122)) :: (nat_lit 1379, cc "say_thing" "say_thing" 2018 734 2 3 1374 1375 .none (r 1376) (r 1377) 1378 2025 2026) :: (nat_lit 1380, fo "say_thing" "bitrail.desk" 1858 1379 (sf p 123)) :: (nat_lit 1386, cc "say_wrong" "say_wrong" 2028 739 2 3 1381 1382 .none (r 1383) (r 1384) 1385 2033 2034) :: (nat_lit 1387, fo "say_wrong" "bitrail.desk" 1858 1386 (sf p 124)) :: (nat_lit 1400, cc "say_bits" "say_bits" 2044 746 2 3 1395 1396 .none (r 1397) (r 1398) 1399 2049 2050) :: (nat_lit 1401, fo "say_bits" "bitrail.desk" 1858 1400 (sf p 126)) :: (nat_lit 1407, cc "say_draw" "say_draw" 2052 748 2 3 1402 1403 .none (r 1404) (r 1405) 1406 2058 2059) :: (nat_lit 1408, fo "say_draw" "bitrail.desk" 1858 1407 (sf p 127)) :: (nat_lit 1414, cc "say_got" "say_got" 2061 751 2 3 1409 1410 .none (r 1411) (r 1412) 1413 2066 2067) :: (nat_lit 1415, fo "say_got" "bitrail.desk" 1858 1414 (sf p 128)) :: (nat_lit 1421, cc "say_waits" "say_waits" 2069 753 2 3 1416 1417 .none (r 1418) (r 1419) 1420 2074 2075) :: (nat_lit 1422, fo "say_waits" "bitrail.desk" 1858 1421 (sf p 129)) :: (nat_lit 1426, cc "say_things" "say_things" 2077 755 2 3 1423 1424 .none .none .none 1425 2080 2081) :: (nat_lit 1427, fo "say_things" "bitrail.desk" 1858 1426 (sf p 130)) :: (nat_lit 1433, cc "say_stance" "say_stance" 2083 757 2 3 1428 1429 .none (r 1430) (r 1431) 1432 2089 2090) :: (nat_lit 1434, fo "say_stance" "bitrail.desk" 1858 1433 (sf p 131)) :: (nat_lit 1440, cc "say_faults" "say_faults" 2092 760 2 3 1435 1436 .none (r 1437) (r 1438) 1439 2097 2098) :: (nat_lit 1441, fo "say_faults" "bitrail.desk" 1858 1440 (sf p 132)) :: (nat_lit 1442, di (t "dict") [e P "hand" 2100 (r 1373), e P "thing" 2101 (r 1380), e P "wrong" 2102 (r 1387), e P "run" 2103 (r 1394), e P "bits" 2104 (r 1401), e P "draw" 2105 (r 1408), e P "got" 2106 (r 1415), e P "waits" 2107 (r 1422), e P "things" 2108 (r 1427), e P "stance" 2109 (r 1434), e P "faults" 2110 (r 1441)] 11) :: (nat_lit 1455, cc "__init__" "Desk.__init__" 2135 765 1 3 1450 1451 .none (r 1452) (r 1453) 1454 2139 2140) :: (nat_lit 1456, fo "Desk.__init__" "bitrail.desk" 1858 1455 (sub 0 (sf p 134))) :: (nat_lit 1462, cc "say" "Desk.say" 2142 769 2 3 1457 1458 .none (r 1459) (r 1460) 1461 2150 2151) :: (nat_lit 1463, fo "Desk.say" "bitrail.desk" 1858 1462 (sub 1 (sf p 134))) :: (nat_lit 1469, cc "put_up" "Desk.put_up" 2153 779 2 3 1464 1465 .none (r 1466) (r 1467) 1468 2158 2159) :: (nat_lit 1470, fo "Desk.put_up" "bitrail.desk" 1858 1469 (sub 2 (sf p 134))) :: (nat_lit 1472, di (t "dict") [e P "__module__" 2130 (s "bitrail.desk" 1858), e P "__firstlineno__" 2134 (i 763 2133), e P "__init__" 2141 (r 1456), e P "say" 2152 (r 1463), e P "put_up" 2160 (r 1470), e P "__static_attributes__" 2163 (r 1471), e P "__dict__" 2165 (r 1474), e P "__weakref__" 2167 (r 1475), e P "__doc__" 2168 .none] 4) :: (nat_lit 1473, cl { name := "Desk", bases := [t "object"], mro := [r 1473, t "object"], ns := 1472, qualname := "Desk", hasDict := true, subclasses := [] } [.none, .none, o (s "Desk" 2123), o (s "Desk" 2131), o (b "object.__new__"), o (.bool true)]) :: (nat_lit 1483, cc "_law_draw" "_law_draw" 2173 784 3 3 1478 1479 .none (r 1480) (r 1481) 1482 2181 2182) :: (nat_lit 1484, fo "_law_draw" "law_bitrail_k82_words_of_rows" 2171 1483 (sf p 136)) :: (nat_lit 1490, cc "_law_number" "_law_number" 2184 788 2 3 1485 1486 .none (r 1487) (r 1488) 1489 2189 2190) :: (nat_lit 1491, fo "_law_number" "law_bitrail_k82_words_of_rows" 2171 1490 (sf p 137)) :: (nat_lit 1497, cc "_law_least" "_law_least" 2192 792 1 3 1492 1493 .none (r 1494) (r 1495) 1496 2196 2197) :: (nat_lit 1498, fo "_law_least" "law_bitrail_k82_words_of_rows" 2171 1497 (sf p 138)) :: (nat_lit 1504, cc "_law_good" "_law_good" 2199 798 1 3 1499 1500 .none (r 1501) (r 1502) 1503 2210 2211) :: (nat_lit 1505, fo "_law_good" "law_bitrail_k82_words_of_rows" 2171 1504 (sf p 139)) :: (nat_lit 1511, cc "_law_odd" "_law_odd" 2213 820 2 3 1506 1507 .none (r 1508) (r 1509) 1510 2220 2221) :: (nat_lit 1512, fo "_law_odd" "law_bitrail_k82_words_of_rows" 2171 1511 (sf p 140)) :: (nat_lit 1518, cc "_law_is_number" "_law_is_number" 2223 826 1 3 1513 1514 .none (r 1515) (r 1516) 1517 2228 2229) :: (nat_lit 1519, fo "_law_is_number" "law_bitrail_k82_words_of_rows" 2171 1518 (sf p 141)) :: (nat_lit 1525, cc "_law_is_word" "_law_is_word" 2231 831 2 3 1520 1521 .none (r 1522) (r 1523) 1524 2238 2239) :: (nat_lit 1526, fo "_law_is_word" "law_bitrail_k82_words_of_rows" 2171 1525 (sf p 142)) :: (nat_lit 1532, cc "_law_first_wrong" "_law_first_wrong" 2241 845 1 3 1527 1528 .none (r 1529) (r 1530) 1531 2246 2247) :: (nat_lit 1533, fo "_law_first_wrong" "law_bitrail_k82_words_of_rows" 2171 1532 (sf p 143)) :: (nat_lit 1539, cc "_law_is_rail" "_law_is_rail" 2249 852 1 3 1534 1535 .none (r 1536) (r 1537) 1538 2255 2256) :: (nat_lit 1540, fo "_law_is_rail" "law_bitrail_k82_words_of_rows" 2171 1539 (sf p 144)) :: (nat_lit 1546, cc "_law_answer" "_law_answer" 2258 860 2 3 1541 1542 .none (r 1543) (r 1544) 1545 2267 2268) :: (nat_lit 1547, fo "_law_answer" "law_bitrail_k82_words_of_rows" 2171 1546 (sf p 145)) :: (nat_lit 1553, cc "law" "law" 2270 877 1 3 1548 1549 .none (r 1550) (r 1551) 1552 2283 2284) :: (nat_lit 1554, fo "law" "law_bitrail_k82_words_of_rows" 2171 1553 (sf p 146)) :: []
noncomputable def as:List Addr:=2::3::30::31::43::44::55::56::67::68::79::80::91::92::103::104::115::116::127::128::146::147::162::163::165::166::184::185::189::190::201::202::208::209::215::216::243::244::285::286::295::296::327::328::372::373::390::391::437::438::472::473::486::487::489::490::538::539::594::595::615::616::634::635::685::686::692::693::709::710::751::752::793::794::835::836::877::878::919::920::961::962::996::997::1002::1008::1009::1015::1016::1020::1021::1034::1035::1041::1042::1062::1063::1069::1070::1076::1077::1083::1084::1097::1098::1128::1129::1144::1145::1151::1152::1175::1176::1189::1190::1203::1204::1217::1218::1224::1225::1231::1232::1238::1239::1252::1253::1255::1256::1271::1272::1278::1279::1280::1281::1282::1283::1284::1285::1286::1287::1288::1289::1290::1291::1292::1293::1294::1295::1296::1297::1298::1299::1300::1301::1302::1308::1309::1315::1316::1320::1321::1327::1328::1332::1333::1337::1338::1358::1359::1365::1366::1372::1373::1379::1380::1386::1387::1400::1401::1407::1408::1414::1415::1421::1422::1426::1427::1433::1434::1440::1441::1442::1455::1456::1462::1463::1469::1470::1472::1473::1483::1484::1490::1491::1497::1498::1504::1505::1511::1512::1518::1519::1525::1526::1532::1533::1539::1540::1546::1547::1553::1554::[]
noncomputable def L (P:Params):List (Nat×Obj):=K P
theorem K_L (P:Params):K P=L P:=rfl
theorem K_as (P:Params):as=(K P).map (·.1):=by kernel_rfl
def qv:Program:=view p [146]
def loose:List Str:="_wall"::"RailError"::"NoBits"::"NoName"::"NoKey"::"NoFrame"::"NoPost"::"NoThing"::"NoStrip"::"NoRail"::"NoWire"::"NoRow"::"HIGHEST_BYTE"::"bits_of"::"number_of"::"drawn"::"are_bytes"::"ear"::"PIECE_BYTES"::"MOST_BYTES_things"::"cut"::"check_thing"::"piece_of"::"check_piece"::"is_size"::"Joiner"::"divided"::"KEY"::"CHECK_BITS"::"rest_of"::"check_of"::"NAME_BITS"::"HIGHEST_NAME"::"is_name"::"is_wanted"::"MOST_ALIKE"::"Streak"::"put_in"::"SIZE_AT"::"SIZE_BITS"::"DATA_AT"::"BYTE_BITS"::"MOST_BYTES_frames"::"check_frame"::"frame_bits"::"is_complete"::"told_size"::"read_frame"::"wire_of"::"GREAT_FAULT"::"SMALL_FAULT"::"QUIET_FROM"::"OFF_FROM"::"Count"::"Reader"::"ANSWER_AT"::"VOTES_AT"::"Tail"::"ReadTail"::"SpeakTail"::"FLAG_BITS"::"REST_TURNS"::"QUIET_TURNS"::"DUEL_BITS"::"begun_reader"::"unless_off"::"fault_of"::"refusal_of"::"blame_of"::"Free"::"Speaks"::"Reads"::"InTail"::"Flagging"::"Settles"::"Rests"::"Off"::"VOTES"::"check_votes"::"check_choice"::"copies"::"Post"::"MOST_POSTS"::"Rail"::"heard_well"::"STRIP_BITS"::"FIGURES"::"SIGNS"::"strips"::"strip_of"::"MOST_FIGURES"::"MOST_TURNS"::"MOST_BITS"::"FORMS"::"read_row"::"value_of"::"number_in"::"choice_of"::"dotted"::"frames_text"::"thing_text"::"told_of"::"things_of"::"part_of"::"say_hand"::"say_thing"::"say_wrong"::"say_run"::"say_bits"::"say_draw"::"say_got"::"say_waits"::"say_things"::"say_stance"::"say_faults"::"ANSWERS"::"Desk"::"_law_draw"::"_law_number"::"_law_least"::"_law_good"::"_law_odd"::"_law_is_number"::"_law_is_word"::"_law_first_wrong"::"_law_is_rail"::"_law_answer"::[]
abbrev N:Nat:=11902
theorem c4S:∀w:World,(fencedOpening treeTable p w N).map (fun s=>(s.heap,s.gens,s.drawn,s.toks))=some (boot_heap w.params,Array.mk [],boot_drawn,boot_toks):=boot_open (by kernel_rfl) (by decide) (fun s=>by kernel_rfl)
def ann:Option Value:=some (.ref 6)
def whole (w:World)(os:OsState):=(segRunT treeTable p w 11 ann 0 N (S w os) (topStub p)).map fun r=>look p qv loose (xlAt qv []) as (boot_heap w.params) r.2.1
def good (w:World)(_:OsState):=some (true,openGood qv loose,((L w.params).map fun p=>p.2).map some)
def sz (w : World) := ((boot_heap w.params).isNs mainGlobals, (boot_heap w.params).objs.size, (boot_heap w.params).nsMap mainGlobals "__annotations__")
def sg (_:World):=(true,11,ann)
theorem c1T:whole=whole:=rfl
theorem c5I:good=good:=rfl
theorem c7S:sz=sz:=rfl
noncomputable def _root_.PySem.W.Fast.tw17789987301646872044:Program:=PySem.Challenge.pw_bitrail_k82_words_of_rows
theorem _root_.PySem.W.Fast.te17789987301646872044:PySem.Challenge.pw_bitrail_k82_words_of_rows=PySem.W.Fast.tw17789987301646872044:=rfl
noncomputable def _root_.PySem.W.Fast.tw9140266817696972190:Params->List (Nat×Obj):=Hd.L
theorem _root_.PySem.W.Fast.te9140266817696972190:Hd.L=PySem.W.Fast.tw9140266817696972190:=rfl
noncomputable def _root_.PySem.W.Fast.tw7625976266985363445:List Str:=Hd.loose
theorem _root_.PySem.W.Fast.te7625976266985363445:Hd.loose=PySem.W.Fast.tw7625976266985363445:=rfl
name_quick wq for whole by c1T
name_quick gq for good by c5I
name_quick zq for sz by c7S
theorem z_g (w:World):PySem.W.Fast.zq w=sg w:=by kernel_rfl
theorem w_f (w:World):PySem.W.Fast.wq (w.withFollow "special-get-raises" false)=PySem.W.Fast.gq (w.withFollow "special-get-raises" false):=by kernel_rfl
theorem w_t (w:World):PySem.W.Fast.wq (w.withFollow "special-get-raises" true)=PySem.W.Fast.gq (w.withFollow "special-get-raises" true):=by kernel_rfl
theorem w_g (w:World):PySem.W.Fast.wq w=PySem.W.Fast.gq w:=by
 have e:=World.withFollow_self w "special-get-raises"
 cases hb:w.params.followText "special-get-raises" <;> rw[hb]at e
 ·exact e▸w_f w
 ·exact e▸w_t w
theorem c6X:LeftO p qv loose (xlAt qv []) (fun s=>as.map s.heap.get?) (fun w=>((L w.params).map fun p=>p.2).map some) N:=b5T S c4S (fun w=>(congrFun PySem.W.Fast.zq_eq w).trans (z_g w)) c7N fun w=>((congrFun PySem.W.Fast.wq_eq w).trans (w_g w)).trans (congrFun PySem.W.Fast.gq_eq w).symm
theorem left:LeftO p qv loose (xlAt qv []) (fun s=>as.map s.heap.get?) (fun w=>(K w.params).map fun p=>some p.2) N:=fun w=>(c6X w).trans (by show some (_,((L w.params).map _).map _)=some (_,(K w.params).map _);rw[K_L,List.map_map];rfl)
def dl:DefRec:=dr (sf p 146)
def da:=(defOf qv "law",p.theDef "law")
def db:=(some (dl,([]:List (Str×PySem.Expr))),some (dl.params,dl.body,dl.scope))
theorem c7Z:da=da:=rfl
theorem c7Y:db=db:=rfl
name_quick daq for da by c7Z
name_quick dbq for db by c7Y
theorem d_q:PySem.W.Fast.daq=PySem.W.Fast.dbq:=by kernel_rfl
theorem d_e:da=db:=PySem.W.Fast.daq_eq.trans (d_q.trans PySem.W.Fast.dbq_eq.symm)
theorem dl_1:defOf qv "law"=some (dl, []):=Yy Prod.fst d_e
theorem dl_2:p.theDef "law"=some (dl.params,dl.body,dl.scope):=Yy Prod.snd d_e
end
end Hd
set_option Elab.async false
set_option linter.all false
set_option maxRecDepth 100000
/-! THE HAND LAYER,for ints,bools,texts,own classes,LISTS and tuples (index,slices,in,append,pop ..),calls,loops. Paste it whole ahead of your own text;what your proof does not reach may be deleted. -/
namespace L2
open PySem PySem.Spec PyProof.Rows

/-- a key:an int or a str -/
abbrev Key:=Sum Int Str
def keyIs:Key->Value->Bool
 |.inl k,v=>Value.isInt k v
 |.inr x,v=>Value.isStrOf x v
def keyH (w:World):Key->Int
 |.inl k=>hashInt k
 |.inr x=>hashStr w x
theorem jZ:∀{k:Key}{v:Value},keyIs k v=true->(∃i t,k=Sum.inl i/\v=Value.int i t)\/(∃x t,k=Sum.inr x/\v=Value.str x t)
 | .inl i,v,h=>by
  obtain⟨t,e⟩:=Value.isInt_shape (k:=i) (v:=v) h
  exact .inl ⟨i,t,rfl,e⟩
 | .inr x,v,h=>by
  obtain⟨t,e⟩:=Value.isStrOf_shape (x:=x) (v:=v) h
  exact .inr ⟨x,t,rfl,e⟩
theorem b8G (i:Int)(t:Tok):keyIs (.inl i) (.int i t)=true:=by simp[keyIs,Value.isInt]
theorem a7L (x:Str)(t:Tok):keyIs (.inr x) (.str x t)=true:=by simp[keyIs,Value.isStrOf]
theorem c5D (a b:Int):decide ((Sum.inl a:Key)=Sum.inl b)=(a == b):=by
 by_cases e:a=b
 ·subst e;simp
 ·have h:¬ (Sum.inl a:Key)=Sum.inl b:=fun q=>e (Sum.inl.inj q)
  rw[Yi h]
  exact(Y6.mpr e).symm
theorem c5A (a b:Str):decide ((Sum.inr a:Key)=Sum.inr b)=decide (a=b):=by
 by_cases e:a=b
 ·subst e;simp
 ·have h:¬ (Sum.inr a:Key)=Sum.inr b:=fun q=>e (Sum.inr.inj q)
  rw[Yi h,Yi e]
theorem c5C (a:Int)(b:Str):decide ((Sum.inl a:Key)=Sum.inr b)=false:=Yi (fun q=>nomatch q)
theorem c5B (a:Str)(b:Int):decide ((Sum.inr a:Key)=Sum.inl b)=false:=Yi (fun q=>nomatch q)

def mixKind (prog:Program)(w:World):PySem.KeyKind prog w Key where
 is:=keyIs
 hash:=keyH w
 inj :=fun v a b ha hb=>by
  rcases jZ ha with ⟨i,t,rfl,rfl⟩ | ⟨x,t,rfl,rfl⟩
  ·rcases jZ hb with ⟨j,u,rfl,e⟩ | ⟨y,u,rfl,e⟩
   ·injection e with e1 _;rw[e1]
   ·exact nomatch e
  ·rcases jZ hb with ⟨j,u,rfl,e⟩ | ⟨y,u,rfl,e⟩
   ·exact nomatch e
   ·injection e with e1 _;rw[e1]
 byValue:=fun k v h=>by
  rcases jZ h with ⟨i,t,rfl,rfl⟩ | ⟨x,t,rfl,rfl⟩ <;> rfl
 pyHash:=fun hv h=>by
  rcases jZ hv with ⟨i,t,rfl,rfl⟩ | ⟨x,t,rfl,rfl⟩
  ·exact wpAny_pyHash_int h
  ·exact wpAny_pyHash_str h
 eqBool:=fun hu hv h=>by
  rcases jZ hu with ⟨i,t,rfl,rfl⟩ | ⟨x,t,rfl,rfl⟩
  ·rcases jZ hv with ⟨j,u,rfl,rfl⟩ | ⟨y,u,rfl,rfl⟩
   ·rw[c5D]at h;exact wpAny_eqBool_int h
   ·rw[c5C]at h;exact SeqAt.EqAt.int_str i t y u _ _ _ _ h
  ·rcases jZ hv with ⟨j,u,rfl,rfl⟩ | ⟨y,u,rfl,rfl⟩
   ·rw[c5B]at h;exact SeqAt.EqAt.str_int x t j u _ _ _ _ h
   ·rw[c5A]at h;exact wpAny_eqBool_str h
 «strs»:=fun k x t v h=>by
  rcases jZ h with ⟨i,u,rfl,e⟩ | ⟨y,u,rfl,e⟩
  ·exact nomatch e
  ·injection e with e1 _
   subst e1
   cases v <;> rfl

theorem b4B (prog:Program)(w:World)(i:Int)(t:Tok):(mixKind prog w).is (.inl i) (.int i t)=true:=b8G i t
theorem b4A (prog:Program)(w:World)(x:Str)(t:Tok):(mixKind prog w).is (.inr x) (.str x t)=true:=a7L x t
end L2

namespace L2
open PySem PySem.Spec PyProof.Rows

/-- a value,without the heap -/
inductive V where
 |non | bl (b:Bool) | int (i:Int) | str (x:Str) | byt (b:Array UInt8) | flt (b:UInt64) | ref (a:Addr) | ty (n:String)
 deriving DecidableEq

def RelV:V->Value->Prop
 |.non,u=>u=Value.none
 |.bl b,u=>u=Value.bool b
 |.int i,u=>∃t,u=Value.int i t
 |.str x,u=>∃t,u=Value.str x t
 |.byt b,u=>∃t,u=Value.bytes b t
 |.flt b,u=>∃t,u=Value.float b t
 |.ref a,u=>u=Value.ref a
 |.ty n,u=>u=Value.type n

abbrev Vals:List V->List Value->Prop:=Paired RelV
theorem Vals.length {xs:List V}{us:List Value}(r:Vals xs us):xs.length=us.length:=Paired.length r
theorem Vals.get:∀{xs:List V}{us:List Value}{i:Nat}{x:V},Vals xs us->xs[i]? =some x->∃u,us[i]? =some u/\RelV x u
 |_,_,_,_,.nil,e=>by simp at e
 |_,_,0,_,.cons r _,e=>by simp at e;subst e;exact⟨_,rfl,r⟩
 | _,_,i+1,x,.cons _ t,e=>by
  obtain⟨u,h1,h2⟩:=Vals.get (i:=i) (x:=x) t (by simpa using e)
  exact⟨u,by simpa using h1,h2⟩
theorem Vals.set {x:V}{u:Value}(r:RelV x u):∀{xs:List V}{us:List Value}(i:Nat),Vals xs us->Vals (xs.set i x) (us.set i u)
 |_,_,_,.nil=> .nil
 |_,_,0,.cons _ t=> .cons r t
 |_,_,i+1,.cons q t=> .cons q (Vals.set r i t)
theorem Vals.append:∀{xs ys:List V}{us ws:List Value},Vals xs us->Vals ys ws->Vals (xs++ys) (us++ws)
 |_,_,_,_,.nil,s=>s
 |_,_,_,_,.cons r t,s=> .cons r (Vals.append t s)
theorem Vals.take:∀{xs:List V}{us:List Value}(n:Nat),Vals xs us->Vals (xs.take n) (us.take n)
 |_,_,0,_=> .nil
 |_,_,_+1,.nil=> .nil
 |_,_,n+1,.cons r t=> .cons r (Vals.take n t)
theorem Vals.drop:∀{xs:List V}{us:List Value}(n:Nat),Vals xs us->Vals (xs.drop n) (us.drop n)
 |_,_,0,r=>r
 |_,_,_+1,.nil=> .nil
 |_,_,n+1,.cons _ t=>Vals.drop n t
def RelO:Option V->Option Value->Prop
 |some v,some u=>RelV v u
 |none,none=>True
 |_,_=>False
def KV {κ:Type}:List (κ×V)->List (κ×Value)->Prop:=Paired fun (p:κ×V) (q:κ×Value)=>p.1=q.1/\RelV p.2 q.2

/-- a key of a dict (00_mix):an int or a text -/
def kV:Key->V
 |.inl i=> .int i
 |.inr x=> .str x

/-- what stands at a tracked address -/
inductive HO where
 /-- a list -/
 |lst (xs:List V)
 /-- a tuple (never changes) -/
 |tup (xs:List V)
 /-- a dict whose keys are ints and texts;one whose keys are tuples of ints and texts (the empty one is both) -/
 |dK (kvs:List (Key×V)) | dT (kvs:List (List Key×V))
 /-- a set of ints:its members,its size -/
 |set (S:Int->Bool) (n:Nat)
 /-- an instance of the class at C,its dict at dx,its attributes -/
 |ins (C dx:Addr) (fs:List (Str×V))
 /-- the dict of the instance at x -/
 |own (x:Addr)
 /-- the dict of an exception -/
 |xd (fs:List (Str×V))
 /-- a bound method,f of x -/
 |met (f x:Addr)
 /-- a range object lo,lo+1, .. below hi -/
 |rng (lo hi:Int)
 /-- a thing that is known to the object (the script;a dict while a loop walks it):read,never written while it is so -/
 |frz (o:Obj) (u:HO)
 /-- a code object's table -/
 |tbl (ps:Array Value)
 /-- any other thing,by what is true of its one object (a def of one's own:SetO a S n:=HO.ext fun h=> ..) -/
 |ext (φ:Heap->Prop)

abbrev Hp:=Addr->Option HO
def upd (H:Hp)(a:Addr)(o:HO):Hp:=fun b=>if b=a then some o else H b
theorem aK {H:Hp}{a:Addr}{o:HO}:upd H a o a=some o:=by unfold upd;rw[if_pos rfl]
theorem aQ {H:Hp}{a b:Addr}{o:HO}(h:b≠a):upd H a o b=H b:=by unfold upd;rw[if_neg h]
/-- two objects of different content stand apart -/
theorem b1P {H:Hp}{a b:Addr}{o u:HO}(h:H a=some o)(h':H b=some u)(d:o≠u):a≠b:=by
 intro e;subst e;rw[h]at h';exact d (YE h')
theorem bO {H:Hp}{a b:Addr}{o:HO}(h:H a=some o)(h':H b=none):a≠b:=by
 intro e;subst e;rw[h]at h';cases h'

section
variable (P:Program)(w:World)
def ObjOk (H:Hp)(h:Heap)(a:Addr):HO->Prop
  |.lst xs=>xs.length<=sizeLine/\∃(its:List Value)(n:Nat),Vals xs its/\h.get? a=some { cls:= .type "list",data:= .seq its.toArray n }
  |.tup xs=>xs.length<=sizeLine/\∃its:List Value,Vals xs its/\IsTup h a its.toArray
  |.dK kvs=>kvs.length<=sizeLine/\(a == sysModules)=false/\∃vs,KV kvs vs/\h.DictOf (mixKind P w) a vs
  | .dT kvs=>kvs.length<=sizeLine/\(a == sysModules)=false/\∃xs:List (List Key×Addr×Value),
      Paired (fun (p:List Key×V) (q:List Key×Addr×Value)=>p.1=q.1/\H q.2.1=some (.tup (p.1.map kV))/\RelV p.2 q.2.2) kvs xs/\
      ∃o es ep,h.get? a=some o/\o.ExactDict/\o.data= .dict es ep/\es.toList=xs.map (entryOfKey (tupleKind (mixKind P w)))/\(xs.map (·.1)).Nodup
  |.set S n=>h.SetOf (intKind P w) a S n
  | .ins C dx fs=>H dx=some (.own a)/\fs.length<=1000/\dx≠a/\h.get? a=some (W.instObj C dx)/\
      ∃mA,h.Ns1 dx mA/\(∀f,RelO (fs.lookup f) (mA f))/\PySem.Within mA (fs.map (·.1))
  |.own _=>∃o,h.get? a=some o
  |.xd fs=>∃mA,h.Ns1 a mA/\∀f,RelO (fs.lookup f) (mA f)
  |.rng lo hi=>∃t u v,h.get? a=some { cls:= .type "range",data:= .fields #[.int lo t,.int hi u,.int 1 v] }
  |.frz o u=>h.get? a=some o/\ObjOk H h a u
  |.tbl ps=>h.get? a=some { cls:= .none,data:= .fields ps }
  |.met f x=>h.get? a=some (W.methodObj (.ref f) (.ref x))
  |.ext φ=>φ h/\(∃o,h.get? a=some o)/\∀h1 h2:Heap,φ h1->(∀o,h1.get? a=some o->h2.get? a=some o)->φ h2
/-- the abstract heap is held -/
def HOk (H:Hp)(h:Heap):Prop:=∀a o,H a=some o->ObjOk P w H h a o
end

section
variable {P:Program}{w:World}{H H':Hp}{h h':Heap}{a:Addr}{o:HO}
theorem ObjOk.lt (x:ObjOk P w H h a o):a<h.objs.size:=by
 cases o with
 |lst xs=>obtain⟨_,_,_,_,e⟩:=x;exact Ym e
 |tup xs=>obtain⟨_,_,_,p⟩:=x;exact p.lt
 |dK kvs=>obtain⟨_,_,_,_,o,_,_,e,_⟩:=x;exact Ym e
 |dT kvs=>obtain⟨_,_,_,_,o,_,_,e,_⟩:=x;exact Ym e
 |set S n=>obtain⟨o,_,_,_,e,_⟩:=x;exact Ym e
 |ins C dx fs=>obtain⟨_,_,_,e,_⟩:=x;exact Ym e
 |own y=>obtain⟨_,e⟩:=x;exact Ym e
 |xd fs=>obtain⟨_,⟨_,_,_,e,_⟩,_⟩:=x;exact Ym e
 |rng lo hi=>obtain⟨_,_,_,e⟩:=x;exact Ym e
 |frz ob u=>obtain⟨e,_⟩:=x;exact Ym e
 |tbl ps=>exact Ym (show h.get? a=some _ from x)
 |met f y=>exact Ym (show h.get? a=some _ from x)
 |ext φ=>obtain⟨_,⟨_,e⟩,_⟩:=x;exact Ym e
theorem Paired.mapP {α β:Type}{F G:α->β->Prop}:∀{l₁:List α}{l₂:List β},Paired F l₁ l₂->(∀a b,F a b->G a b)->Paired G l₁ l₂
 |_,_,.nil,_=> .nil
 |_,_,.cons r t,f=> .cons (f _ _ r) (Paired.mapP t f)
/-- what an object's description leans on:its own object,its own dict,the tuples -/
theorem ObjOk.stay (x:ObjOk P w H h a o)(k:∀b u,(b=a\/H b=some (.own a))->h.get? b=some u->h'.get? b=some u)
  (ho:∀b,H b=some (.own a)->H' b=some (.own a)) (ht:∀b xs,H b=some (.tup xs)->H' b=some (.tup xs)):ObjOk P w H' h' a o:=by
 induction o with
 |lst xs=>obtain⟨z,its,n,r,e⟩:=x;exact⟨z,its,n,r,k _ _ (.inl rfl) e⟩
 |tup xs=>obtain⟨z,its,r,ob,e,c⟩:=x;exact⟨z,its,r,ob,k _ _ (.inl rfl) e,c⟩
 |dK kvs=>obtain⟨z,y,vs,r,ob,es,ep,e,c⟩:=x;exact⟨z,y,vs,r,ob,es,ep,k _ _ (.inl rfl) e,c⟩
 | dT kvs=>
  obtain⟨z,y,xs,r,ob,es,ep,e,c⟩:=x
  exact⟨z,y,xs,Paired.mapP r fun p q z=>⟨z.1,ht _ _ z.2.1,z.2.2⟩,ob,es,ep,k _ _ (.inl rfl) e,c⟩
 |set S n=>obtain⟨ob,es,ep,t,e,c⟩:=x;exact⟨ob,es,ep,t,k _ _ (.inl rfl) e,c⟩
 | ins C dx fs=>
  obtain⟨d,z,ne,e,mA,⟨od,es,ep,e2,c⟩,r⟩:=x
  exact⟨ho _ d,z,ne,k _ _ (.inl rfl) e,mA,⟨od,es,ep,k _ _ (.inr d) e2,c⟩,r⟩
 |own y=>obtain⟨ob,e⟩:=x;exact⟨ob,k _ _ (.inl rfl) e⟩
 |xd fs=>obtain⟨mA,⟨od,es,ep,e,c⟩,r⟩:=x;exact⟨mA,⟨od,es,ep,k _ _ (.inl rfl) e,c⟩,r⟩
 |rng lo hi=>obtain⟨t,u,v,e⟩:=x;exact⟨t,u,v,k _ _ (.inl rfl) e⟩
 |frz ob u ih=>obtain⟨e,q⟩:=x;exact⟨k _ _ (.inl rfl) e,ih q⟩
 | tbl ps=>
  have e:h.get? a=some { cls:= .none,data:= .fields ps }:=x
  show h'.get? a=some { cls:= .none,data:= .fields ps }
  exact k a _ (.inl rfl) e
 | met f y=>
  have e:h.get? a=some (W.methodObj (.ref f) (.ref y)):=x
  show h'.get? a=some (W.methodObj (.ref f) (.ref y))
  exact k a _ (.inl rfl) e
 |ext φ=>obtain⟨p,⟨o,e⟩,st⟩:=x;exact⟨st _ _ p fun o q=>k _ _ (.inl rfl) q,⟨o,k _ _ (.inl rfl) e⟩,st⟩
theorem HOk.lt (x:HOk P w H h)(e:H a=some o):a<h.objs.size:=(x a o e).lt
theorem HOk.fresh (x:HOk P w H h)(e:h.objs.size<=a):H a=none:=by
 cases q:H a with
 |none=>rfl
 |some u=>exact absurd (Yp (x.lt q) e) (YW _)
/-- every object of the heap is kept -/
theorem HOk.kept (x:HOk P w H h)(k:∀b u,h.get? b=some u->h'.get? b=some u):HOk P w H h':=fun a o e=>
 (x a o e).stay (fun b u _ q=>k b u q) (fun _ q=>q) fun _ _ q=>q
/-- a new object is laid and tracked -/
theorem HOk.laid (x:HOk P w H h)(k:∀b u,h.get? b=some u->h'.get? b=some u)(hp:h.objs.size<=a)(new:ObjOk P w (upd H a o) h' a o):HOk P w (upd H a o) h':=fun b u e=>by
 have hn:=x.fresh hp
 by_cases hb:b=a
 ·subst hb;rw[aK]at e;cases e;exact new
 ·rw[aQ hb]at e
  exact(x b u e).stay (fun c v _ q=>k c v q) (fun c q=>by rw[aQ (bO q hn)];exact q) fun c xs q=>by rw[aQ (bO q hn)];exact q
end

/-- what may be read as u:it is u,or a known u -/
def Rd (H:Hp)(a:Addr)(u:HO):Prop:=H a=some u\/∃o,H a=some (.frz o u)
theorem Rd.ok {P:Program}{w:World}{H:Hp}{h:Heap}{a:Addr}{u:HO}(r:Rd H a u)(x:HOk P w H h):ObjOk P w H h a u:=by
 rcases r with r | ⟨o,r⟩
 ·exact x a u r
 ·obtain⟨_,q⟩:=x a _ r
  exact q
/-- what may be written -/
def Mut:Option HO->Prop
 |some (.lst _)=>True
 |some (.dK _)=>True
 |some (.dT _)=>True
 |some (.set _ _)=>True
 |some (.ins _ _ _)=>True
 |some (.ext _)=>True
 |_=>False
section
variable {P:Program}{w:World}{H:Hp}{h h':Heap}{x e:Addr}{o':HO}
/-- the object at e is changed:x itself,or the dict of the instance x -/
theorem HOk.write (ok:HOk P w H h)(mu:Mut (H x))(he:e=x\/H e=some (.own x))(k:∀b u,b≠e->h.get? b=some u->h'.get? b=some u)(heo:∃u,h'.get? e=some u)
  (new:ObjOk P w (upd H x o') h' x o'):HOk P w (upd H x o') h':=fun b u q=>by
 have nown:∀c y,H c=some (.own y)->c≠x:=fun c y r z=>by subst z;rw[r]at mu;exact mu
 have ntup:∀c xs,H c=some (.tup xs)->c≠x:=fun c xs r z=>by subst z;rw[r]at mu;exact mu
 by_cases hb:b=x
 ·subst hb;rw[aK]at q;cases q;exact new
 ·rw [aQ hb]at q
  by_cases hbe:b=e
  ·have q':H b=some (.own x):=by
    rcases he with z | z
    ·exact absurd (hbe.trans z) hb
    ·rw[hbe];exact z
   rw[q]at q';cases q'
   obtain⟨v,hv⟩:=heo
   exact⟨v,by rw[hbe];exact hv⟩
  ·refine(ok b u q).stay (fun c v hc r=>k c v ?_ r) (fun c r=>by rw[aQ (nown c b r)];exact r) fun c xs r=>by rw[aQ (ntup c xs r)];exact r
   rcases hc with rfl | hc
   ·exact hbe
   ·rintro rfl
    rcases he with z | z
    ·exact nown c b hc z
    ·rw[hc]at z;cases z;exact hb rfl
end

/-! ### kept unless tracked;of the frames at fs (the callers') the slots may change (an exception that passes writes there);of the records at ex (iterators) nothing is said -/
structure Un (fs ex:List Addr)(H H':Hp)(h h':Heap):Prop where
 keep:∀b o,h.get? b=some o->H b=none->b∉fs->b∉ex->h'.get? b=some o
 slot:∀b o,h.get? b=some o->H b=none->b∈fs->b∉ex->∃sl,h'.get? b=some { o with slots:=sl }
 free:∀b o,h.get? b=some o->H b=none->b∉ex->H' b=none
 there:∀b o,h.get? b=some o->b∉ex->∃o',h'.get? b=some o'
 tups:∀b xs,H b=some (.tup xs)->H' b=some (.tup xs)
 frzs:∀b o u,H b=some (.frz o u)->H' b=some (.frz o u)
 tbls:∀b ps,H b=some (.tbl ps)->∃more,H' b=some (.tbl (ps++more))
section
variable {fs fs' ex ex':List Addr}{H H1 H2:Hp}{h h1 h2 h':Heap}{a x e:Addr}{o:HO}
theorem Un.any (u:Un fs ex H H1 h h1){b:Addr}{ob:Obj}(q:h.get? b=some ob)(n:H b=none)(hx:b∉ex):∃sl,h1.get? b=some { ob with slots:=sl }:=by
 by_cases hb:b∈fs
 ·exact u.slot b ob q n hb hx
 ·exact⟨ob.slots,u.keep b ob q n hb hx⟩
theorem Un.kept (k:∀b u,h.get? b=some u->h'.get? b=some u):Un fs ex H H h h':=
 ⟨fun b ob q _ _ _=>k b ob q,fun b ob q _ _ _=>⟨ob.slots,k b ob q⟩,fun _ _ _ n _=>n,fun b ob q _=>⟨ob,k b ob q⟩,fun _ _ q=>q,fun _ _ _ q=>q,fun _ ps q=>⟨#[],by rw[q];simp⟩⟩
theorem Un.refl:Un fs ex H H h h:=Un.kept fun _ _ q=>q
theorem Un.laid (k:∀b u,h.get? b=some u->h'.get? b=some u)(hp:h.objs.size<=a)(hn:H a=none):Un fs ex H (upd H a o) h h' where
 keep:=fun b u q _ _ _=>k b u q
 slot:=fun b u q _ _ _=>⟨u.slots,k b u q⟩
 free:=fun b u q n _=>by rw[aQ (YL (Yp (Ym q) hp))];exact n
 there:=fun b u q _=>⟨u,k b u q⟩
 tups:=fun b xs q=>by rw[aQ (bO q hn)];exact q
 frzs:=fun b u xs q=>by rw[aQ (bO q hn)];exact q
 tbls:=fun b ps q=>⟨#[],by rw[aQ (bO q hn),q];simp⟩
theorem Un.write (mu:Mut (H x))(he:e=x\/H e=some (.own x))(k:∀b u,b≠e->h.get? b=some u->h'.get? b=some u)(heo:∃u,h'.get? e=some u):Un fs ex H (upd H x o) h h':=by
 have hx:∀b,H b=none->b≠x:=fun b n z=>by subst z;rw[n]at mu;exact mu
 have hb:∀b,H b=none->b≠e:=fun b n z=>by
  subst z
  rcases he with r | r
  ·exact hx b n r
  ·rw[n]at r;cases r
 have hm:∀b u,H b=some u->¬ Mut (some u)->b≠x:=fun b u q nm z=>by subst z;rw[q]at mu;exact nm mu
 refine⟨fun b u q n _ _=>k b u (hb b n) q,fun b u q n _ _=>⟨u.slots,k b u (hb b n) q⟩,fun b u q n _=>by rw[aQ (hx b n)];exact n,fun b u q _=>?_,
  fun b xs q=>by rw[aQ (hm b _ q fun z=>z)];exact q,fun b u xs q=>by rw[aQ (hm b _ q fun z=>z)];exact q,fun b ps q=>⟨#[],by rw[aQ (hm b _ q fun z=>z),q];simp⟩⟩
 by_cases hbe:b=e
 ·subst hbe;exact heo
 ·exact⟨u,k b u hbe q⟩
end

/-! ### the heap without what is tracked -/
def trk (h:Heap)(H:Hp):List Addr:=(List.range h.objs.size).filter fun a=>(H a).isSome
def hidT (h:Heap)(H:Hp):Heap:=W.hideAll h (trk h H)
theorem b8J (h:Heap)(H:Hp):(hidT h H).objs.size=h.objs.size:=W.hideAll_size _ _
theorem c0U {h:Heap}{H:Hp}{b:Addr}{o:Obj}(e:h.get? b=some o)(n:H b=none):(hidT h H).get? b=some o:=
 W.hideAll_get _ e fun hm=>by
  have q:(H b).isSome=true:=(List.mem_filter.mp hm).2
  rw[n]at q;simp at q
theorem c2S {h:Heap}{H:Hp}{b:Addr}{o:Obj}(e:(hidT h H).get? b=some o):h.get? b=some o/\H b=none:=by
 have e':h.get? b=some o:=W.of_hideAll (trk h H) e
 refine⟨e',?_⟩
 cases q:H b with
 |none=>rfl
 | some x=>
  have hm:b∈trk h H:=List.mem_filter.mpr ⟨List.mem_range.mpr (Ym e'),by simp[q]⟩
  have z:(hidT h H).get? b=none:=W.hideAll_none (trk h H) hm
  rw[z]at e;cases e

/-! ### OpenK's ledger,filled with every new object but one -/
end L2

namespace L2
open PySem PySem.Spec PyProof.Rows

/-- the module's facts,over the base:the heap at the law's entry without what is tracked there -/
structure Mod (K:W.Frag)(mg:Str->Option Value)(base:Heap):Prop where
 kin:K.In base
 glob:base.Ns mainGlobals mg
 blt:∃mb,base.Ns builtinsNs mb/\∀x:Str,x≠"__name__"->mb x=bootBuiltins x
 nolimit:base.NoLimit

/-- the context:a def's body (or a comprehension's block) running. base:fixed through the whole law;s₀,H₀:the entry;outer:the frames whose slots others may change (a def's callers);stack:all frames that run;
   ex:iterators that were made ahead of the entry and are walked here (a comprehension's);fn:the names whose cells were made at the entry (a def:all;a comprehension's block:its own);calm:not within an except suite;pn:pins that every state bears;xe:what is wanted of an exception that leaves the code -/
structure Cx where
 prog:Program
 w:World
 K:W.Frag
 mg:Str->Option Value
 base:Heap
 A:Around
 N:List Str
 s₀:Shared
 H₀:Hp
 env:Env
 outer:List Env
 stack:List Env
 ex:List Addr
 fn:Str->Bool
 calm:Bool
 pn:List (Addr×Obj)
 xe:Value->Shared->Prop
/-- the callers' frames -/
def frs (l:List Env):List Addr:=l.filterMap (·.frame)
abbrev Cx.fs (X:Cx):List Addr:=frs X.outer

def Vis (sc:Scope)(x:Str):Prop:=sc.names.lookup x=some .local\/sc.names.lookup x=some .cell\/sc.names.lookup x=some .free
def Loc (sc:Scope)(x:Str):Prop:=sc.names.lookup x=some .local\/sc.names.lookup x=some .cell
def Look (env:Env)(h:Heap)(m:Str->Option Value)(x:Str)(u:Value):Prop:=
 (env.kindOf x=some .local/\m x=some u)\/((env.kindOf x=some .cell\/env.kindOf x=some .free)/\∃c,env.cells.lookup x=some c/\h.IsCell c (some u))

structure Cx.Ok (X:Cx):Prop where
 mod:Mod X.K X.mg X.base
 kind:X.env.scope.kind= .function
 glob:X.env.globals=mainGlobals
 blt:X.env.builtins=builtinsNs
 above:X.s₀.heap.objs.size<=X.env.locals
 inj:∀x y c,X.env.cells.lookup x=some c->X.env.cells.lookup y=some c->x=y
 has:∀x,(X.env.kindOf x=some .cell\/X.env.kindOf x=some .free)->∃c,X.env.cells.lookup x=some c
 cab:∀x c,X.fn x=true->X.env.cells.lookup x=some c->X.s₀.heap.objs.size<=c
 hd:X.calm=true->X.A.handled=none
 frames:X.A.frames=some X.stack
 stk:X.stack=X.outer\/(X.stack=X.env::X.outer/\X.env.frame=some X.env.locals)
 exf:∀b∈X.ex,b≠X.env.locals/\∀x c,X.env.cells.lookup x=some c->c≠b
 bs:∀b o,X.base.get? b=some o->X.s₀.heap.get? b=some o/\X.H₀ b=none
 bsz:X.base.objs.size<=X.s₀.heap.objs.size
 noex:∀b o,X.base.get? b=some o->b∉X.ex
 exfs:∀b∈X.ex,b∉X.fs
 funs:X.s₀.heap.FunFrames X.base X.outer
 frf:∀b∈X.fs,X.H₀ b=none

structure Inv (X:Cx)(pins:List (Addr×Obj))(σ:List (Option V))(H:Hp)(s:Shared):Prop where
 ok:X.Ok
 os:s.os=X.s₀.os
 bare:AllBare s.gens
 base:Un X.fs X.ex X.H₀ H X.s₀.heap s.heap
 loc:∃m,s.heap.Ns X.env.locals m/\∀(i:Nat)(x:Str)(v:V),X.N[i]? =some x->σ[i]? =some (some v)->Vis X.env.scope x->∃u,RelV v u/\Look X.env s.heap m x u
 cell:∀x c,X.env.cells.lookup x=some c->∃v,s.heap.IsCell c v
 free:H X.env.locals=none
 freeC:∀x c,X.env.cells.lookup x=some c->H c=none
 pin:∀p∈X.pn++pins,s.heap.get? p.1=some p.2/\H p.1=none/\p.1≠X.env.locals/\p.1∉X.fs/\∀v,p.2.data≠ .cell v
 hok:HOk X.prog X.w H s.heap
 len:σ.length=X.N.length

section
variable {X:Cx}{pins:List (Addr×Obj)}{σ:List (Option V)}{H H':Hp}{s:Shared}{h':Heap}

theorem Cx.Ok.nofr (ok:X.Ok){b:Addr}{o:Obj}(e:X.base.get? b=some o):b∉X.fs:=fun hb=>by
 have:=(ok.funs.mem hb).1
 rw[e]at this;cases this
theorem Inv.bs (I:Inv X pins σ H s):∀b o,X.base.get? b=some o->s.heap.get? b=some o/\H b=none:=fun b o e=>
 ⟨I.base.keep b o (I.ok.bs b o e).1 (I.ok.bs b o e).2 (I.ok.nofr e) (I.ok.noex b o e),I.base.free b o (I.ok.bs b o e).1 (I.ok.bs b o e).2 (I.ok.noex b o e)⟩
theorem Inv.bk (I:Inv X pins σ H s):∀b o,X.base.get? b=some o->s.heap.get? b=some o:=fun b o e=>(I.bs b o e).1
theorem Inv.mod (I:Inv X pins σ H s):Mod X.K X.mg X.base:=I.ok.mod
theorem Inv.kIn (I:Inv X pins σ H s):X.K.In s.heap:=I.ok.mod.kin.keeps I.bk
/-- the frame over the base:for OpenK's rules (K.In X.base is I.mod.kin) -/
theorem Inv.fr (I:Inv X pins σ H s):∃m,Fr X.base X.env.locals s.heap m:=
 let ⟨m,hn,_⟩:=I.loc
 ⟨m,hn,I.bk,Yn I.ok.bsz I.ok.above⟩
theorem Inv.lt (I:Inv X pins σ H s):X.env.locals<s.heap.objs.size:=let ⟨_,hn,_⟩:=I.loc;hn.lt
theorem Inv.sz (I:Inv X pins σ H s):X.s₀.heap.objs.size<=s.heap.objs.size:=Yn I.ok.above (Xl I.lt)
theorem Inv.nofs (I:Inv X pins σ H s){a:Addr}(h:s.heap.objs.size<=a):a∉X.fs:=fun hb=>by
 obtain⟨_,o,ho,_⟩:=I.ok.funs.mem hb
 exact absurd (Yp (Ym ho) (Yn I.sz h)) (YW _)
theorem Inv.cne (I:Inv X pins σ H s):∀x c,X.env.cells.lookup x=some c->c≠X.env.locals:=fun x c e z=>by
 obtain⟨v,o,ho,hd⟩:=I.cell x c e
 obtain⟨m,⟨o',es,ep,ho',hd',_⟩,_⟩:=I.loc
 rw[z,ho']at ho;cases ho;rw[hd']at hd;cases hd
theorem Inv.funs (I:Inv X pins σ H s):s.heap.FunFrames X.base X.outer:=by
 have all:∀(l:List Env),(∀b∈frs l,b∈X.fs)->X.s₀.heap.FunFrames X.base l->s.heap.FunFrames X.base l:=by
  intro l
  induction l with
  |nil=>intro _ _;trivial
  | cons env r ih=>
   intro hs hl
   obtain⟨hk,⟨L,o,hf,hn,ho,hd⟩,hr⟩:=hl
   have hL:L∈X.fs:=hs L (by unfold frs;rw[List.filterMap_cons,hf];exact Yw)
   obtain⟨sl,e⟩:=I.base.slot L o ho (I.ok.frf L hL) hL fun z=>I.ok.exfs L z hL
   exact⟨hk,⟨L,_,hf,hn,e,hd⟩,ih (fun b hb=>hs b (by unfold frs;rw[List.filterMap_cons,hf];exact Yf _ hb)) hr⟩
 exact all X.outer (fun _ hb=>hb) I.ok.funs

/-- the frames that run,for a call -/
theorem Inv.stack (I:Inv X pins σ H s):s.heap.FunFrames X.base X.stack:=by
 rcases I.ok.stk with e | ⟨e,hf⟩
 ·rw[e];exact I.funs
 ·rw[e]
  obtain⟨m,hn,_⟩:=I.loc
  refine .cons (by rw[I.ok.kind];decide) hf hn ?_ I.funs
  exact Heap.get?_none_of_le (Yn I.ok.bsz I.ok.above)
theorem Inv.stkSub (I:Inv X pins σ H s):∀b∈frs X.stack,b∈X.env.locals::X.fs:=fun b hb=>by
 rcases I.ok.stk with e | ⟨e,hf⟩
 ·rw[e]at hb;exact Yf _ hb
 ·rw[e]at hb
  unfold frs at hb
  rw[List.filterMap_cons,hf]at hb
  exact hb
theorem Inv.stkFree (I:Inv X pins σ H s):∀b∈frs X.stack,H b=none:=fun b hb=>by
 rcases Yv.mp (I.stkSub b hb) with e | hb
 ·rw[e];exact I.free
 ·obtain⟨_,o,ho,_⟩:=I.ok.funs.mem hb
  exact I.base.free b o ho (I.ok.frf b hb) fun z=>I.ok.exfs b z hb

/-- THE STEP:the untracked objects but the frame and the records at ch are kept (the callers' frames up to slots),the frame's map is kept,the new abstract heap is held -/
theorem Inv.step {g':Array GenState}{t':Nat}{d':Drawn}{ch:List Addr}(I:Inv X pins σ H s)
  (hch:∀b∈ch,(b∈X.ex\/X.s₀.heap.objs.size<=b)/\b≠X.env.locals/\(∀x c,X.env.cells.lookup x=some c->c≠b)/\∀p∈X.pn++pins,p.1≠b)
  (keep:∀b o,b≠X.env.locals->b∉X.fs->b∉ch->s.heap.get? b=some o->H b=none->h'.get? b=some o)
  (slot:∀b o,b≠X.env.locals->b∈X.fs->b∉ch->s.heap.get? b=some o->H b=none->∃sl,h'.get? b=some { o with slots:=sl }) (free:∀b o,b∉ch->s.heap.get? b=some o->H b=none->H' b=none)
  (there:∀b o,b∉ch->s.heap.get? b=some o->∃o',h'.get? b=some o')
  (tups:∀b xs,H b=some (.tup xs)->H' b=some (.tup xs)) (frzs:∀b o u,H b=some (.frz o u)->H' b=some (.frz o u)) (tbls:∀b ps,H b=some (.tbl ps)->∃more,H' b=some (.tbl (ps++more)))
  (ns:∀m,s.heap.Ns X.env.locals m->h'.Ns X.env.locals m) (hok:HOk X.prog X.w H' h') (hg:AllBare g') :
  Inv X pins σ H' { s with heap:=h',gens:=g',drawn:=d',toks:=t' }:=by
 have neL:∀b o,X.s₀.heap.get? b=some o->b≠X.env.locals:=fun b o e=>YL (Yp (Ym e) I.ok.above)
 have neC:∀b o,X.s₀.heap.get? b=some o->b∉X.ex->b∉ch:=fun b o e hx hb=>by
  rcases (hch b hb).1 with z | z
  ·exact hx z
  ·exact absurd (Yp (Ym e) z) (YW _)
 have cellK:∀x c,X.env.cells.lookup x=some c->∀v,s.heap.IsCell c v->h'.IsCell c v:=fun x c e v ⟨o,ho,hd⟩=>by
  have nch:c∉ch:=fun z=>(hch c z).2.2.1 x c e rfl
  by_cases hc:c∈X.fs
  ·obtain⟨sl,q⟩:=slot c o (I.cne x c e) hc nch ho (I.freeC x c e)
   exact⟨_,q,hd⟩
  ·exact⟨o,keep c o (I.cne x c e) hc nch ho (I.freeC x c e),hd⟩
 refine⟨I.ok,I.os,hg,⟨fun b o e n hb hx=>?_,fun b o e n hb hx=>?_,fun b o e n hx=>?_,fun b o e hx=>?_,fun b xs e=>tups b xs (I.base.tups b xs e),fun b o xs e=>frzs b o xs (I.base.frzs b o xs e),fun b ps e=>?_⟩,?_,fun x c e=>?_,?_,fun x c e=>?_,fun p hp=>?_,hok,I.len⟩
 ·exact keep b o (neL b o e) hb (neC b o e hx) (I.base.keep b o e n hb hx) (I.base.free b o e n hx)
 ·obtain⟨sl,e1⟩:=I.base.slot b o e n hb hx
  obtain⟨sl',e2⟩:=slot b _ (neL b o e) hb (neC b o e hx) e1 (I.base.free b o e n hx)
  exact⟨sl',e2⟩
 ·obtain⟨o',e1⟩:=I.base.there b o e hx
  exact free b o' (neC b o e hx) e1 (I.base.free b o e n hx)
 ·obtain⟨o',e1⟩:=I.base.there b o e hx
  exact there b o' (neC b o e hx) e1
 ·obtain⟨m1,e1⟩:=I.base.tbls b ps e
  obtain⟨m2,e2⟩:=tbls b _ e1
  exact⟨m1++m2,by rw[e2,Array.append_assoc]⟩
 ·obtain⟨m,hn,hl⟩:=I.loc
  refine⟨m,ns m hn,fun i x v e1 e2 e3=>?_⟩
  obtain⟨u,r,l⟩:=hl i x v e1 e2 e3
  refine⟨u,r,?_⟩
  rcases l with l | ⟨k,c,e,z⟩
  ·exact .inl l
  ·exact .inr ⟨k,c,e,cellK x c e _ z⟩
 ·obtain⟨v,z⟩:=I.cell x c e
  exact⟨v,cellK x c e v z⟩
 ·obtain⟨m,⟨o,_,_,ho,_⟩,_⟩:=I.loc
  exact free _ o (fun z=>(hch _ z).2.1 rfl) ho I.free
 ·obtain⟨v,o,ho,hd⟩:=I.cell x c e
  exact free c o (fun z=>(hch c z).2.2.1 x c e rfl) ho (I.freeC x c e)
 ·obtain⟨e,n,ne,nf,d⟩:=I.pin p hp
  have nch:p.1∉ch:=fun z=>(hch p.1 z).2.2.2 p hp rfl
  exact⟨keep p.1 p.2 ne nf nch e n,free p.1 p.2 nch e n,ne,nf,d⟩
/-- .. where the frame's own object is kept too -/
theorem Inv.un {t':Nat}(I:Inv X pins σ H s)(u:Un X.fs [] H H' s.heap h')(hok:HOk X.prog X.w H' h'):Inv X pins σ H' { s with heap:=h',toks:=t' }:=by
 obtain⟨m,⟨o,es,ep,ho,r⟩,_⟩:=id I.loc
 obtain⟨sl,hL⟩:=u.any ho I.free (by simp)
 exact I.step (g':=s.gens) (d':=s.drawn) (ch:=[]) (fun _ z=>nomatch z) (fun b o _ hb _ e n=>u.keep b o e n hb (by simp)) (fun b o _ hb _ e n=>u.slot b o e n hb (by simp)) (fun b o _ e n=>u.free b o e n (by simp)) (fun b o _ e=>u.there b o e (by simp)) u.tups u.frzs u.tbls (fun m' hm=>by
  obtain⟨o',es',ep',ho',r'⟩:=hm
  rw[ho]at ho';cases ho'
  exact⟨_,es',ep',hL,r'⟩) hok I.bare
/-- behind a call (or a comprehension's block):the slots of this frame may have changed too,the records at ch may have turned -/
theorem Inv.call {g':Array GenState}{t':Nat}{d':Drawn}{ch:List Addr}(I:Inv X pins σ H s)(u:Un (frs X.stack) ch H H' s.heap h')(hok:HOk X.prog X.w H' h')(hg:AllBare g')
  (hch:∀b∈ch,(b∈X.ex\/X.s₀.heap.objs.size<=b)/\b≠X.env.locals/\(∀x c,X.env.cells.lookup x=some c->c≠b)/\∀p∈X.pn++pins,p.1≠b) :
  Inv X pins σ H' { s with heap:=h',gens:=g',drawn:=d',toks:=t' }:=by
 obtain⟨m,⟨o,es,ep,ho,r⟩,_⟩:=id I.loc
 obtain⟨sl,hL⟩:=u.any ho I.free fun z=>(hch _ z).2.1 rfl
 exact I.step (ch:=ch) hch (fun b o hL hb hc e n=>u.keep b o e n (fun z=>(Yv.mp (I.stkSub b z)).elim hL hb) hc) (fun b o _ _ hc e n=>u.any e n hc) (fun b o hc e n=>u.free b o e n hc) (fun b o hc e=>u.there b o e hc) u.tups u.frzs u.tbls (fun m' hm=>by
  obtain⟨o',es',ep',ho',r'⟩:=hm
  rw[ho]at ho';cases ho'
  exact⟨_,es',ep',hL,r'⟩) hok hg
/-- an untracked record of ours (an iterator) has turned -/
theorem Inv.turned {t':Nat}{it:Addr}(I:Inv X pins σ H s)(k:∀b o,b≠it->s.heap.get? b=some o->h'.get? b=some o)(hn:H it=none)(hL:it≠X.env.locals)
  (h1:it∈X.ex\/X.s₀.heap.objs.size<=it) (h2:∀x c,X.env.cells.lookup x=some c->c≠it) (h3:∀p∈X.pn++pins,p.1≠it):Inv X pins σ H { s with heap:=h',toks:=t' }:=by
 have nit:∀b u,H b=some u->b≠it:=fun b u e z=>by rw[z,hn]at e;cases e
 refine I.step (g':=s.gens) (d':=s.drawn) (ch:=[it]) (fun b hb=>?_) (fun b o _ _ hc e _=>k b o (fun z=>hc (by simp[z])) e) (fun b o _ _ hc e _=>⟨o.slots,k b o (fun z=>hc (by simp[z])) e⟩) (fun _ _ _ _ n=>n)
  (fun b o hc e=>⟨o,k b o (fun z=>hc (by simp[z])) e⟩) (fun _ _ e=>e) (fun _ _ _ e=>e) (fun b ps e=>⟨#[],by rw[e];simp⟩) (fun m hm=>?_) (fun b u e=>?_) I.bare
 ·have e:b=it:=by simpa using hb
  subst e
  exact⟨h1,hL,h2,h3⟩
 ·obtain⟨o,es,ep,ho,r⟩:=hm
  exact⟨o,es,ep,k _ o (Ne.symm hL) ho,r⟩
 ·refine(I.hok b u e).stay (fun c v hc q=>k c v ?_ q) (fun _ q=>q) fun _ _ q=>q
  rcases hc with z | z
  ·rw[z];exact nit b u e
  ·exact nit c _ z
theorem Inv.tok (I:Inv X pins σ H s)(t:Nat):Inv X pins σ H { s with toks:=t }:=I.un (h':=s.heap) (t':=t) Un.refl I.hok
/-- all objects kept -/
theorem Inv.kept {t':Nat}(I:Inv X pins σ H s)(k:∀b u,s.heap.get? b=some u->h'.get? b=some u):Inv X pins σ H { s with heap:=h',toks:=t' }:=I.un (Un.kept k) (I.hok.kept k)
/-- a new object laid and tracked -/
theorem Inv.laid {a:Addr}{o:HO}{t':Nat}(I:Inv X pins σ H s)(k:∀b u,s.heap.get? b=some u->h'.get? b=some u)(hp:s.heap.objs.size<=a)(new:ObjOk X.prog X.w (upd H a o) h' a o) :
  Inv X pins σ (upd H a o) { s with heap:=h',toks:=t' }:=I.un (Un.laid k hp (I.hok.fresh hp)) (I.hok.laid k hp new)
/-- an object written -/
theorem Inv.write {x e:Addr}{o:HO}{t':Nat}(I:Inv X pins σ H s)(mu:Mut (H x))(he:e=x\/H e=some (.own x))(k:∀b u,b≠e->s.heap.get? b=some u->h'.get? b=some u)(heo:∃u,h'.get? e=some u)
  (new:ObjOk X.prog X.w (upd H x o) h' x o):Inv X pins σ (upd H x o) { s with heap:=h',toks:=t' }:=I.un (Un.write mu he k heo) (I.hok.write mu he k heo new)
/-- forgetting slots,pins -/
theorem Inv.weak {σ':List (Option V)}(I:Inv X pins σ H s)(hl:σ'.length=σ.length)(w:∀(i:Nat) v,σ'[i]? =some (some v)->σ[i]? =some (some v)):Inv X pins σ' H s:=
 ⟨I.ok,I.os,I.bare,I.base,let ⟨m,hn,hl'⟩:=I.loc;⟨m,hn,fun i x v e1 e2 e3=>hl' i x v e1 (w i v e2) e3⟩,I.cell,I.free,I.freeC,I.pin,I.hok,hl.trans I.len⟩
theorem Inv.pins_of {pins':List (Addr×Obj)}(I:Inv X pins σ H s)(h:∀p∈pins',s.heap.get? p.1=some p.2/\H p.1=none/\p.1≠X.env.locals/\p.1∉X.fs/\∀v,p.2.data≠ .cell v):Inv X pins' σ H s:=
 ⟨I.ok,I.os,I.bare,I.base,I.loc,I.cell,I.free,I.freeC,fun p hp=>(YX.mp hp).elim (fun z=>I.pin p (XD _ z)) (h p),I.hok,I.len⟩

theorem a9X {N:List Str}(hN:N.Nodup){i j:Nat}{x:Str}(a:N[i]? =some x)(b:N[j]? =some x):i=j:=by
 obtain⟨h1,e1⟩:=Yc.mp a
 obtain⟨h2,e2⟩:=Yc.mp b
 exact(List.getElem_inj hN).mp (e1.trans e2.symm)

/-- a name is stored;what changed -/
theorem b7K {M:Model}{A:Around}{E:Value->Shared->Prop}{i:Nat}{x:Str}{v:V}{u:Value}{Q:Unit->Shared->Prop}(I:Inv X pins σ H s)(hN:X.N.Nodup)(hi:X.N[i]? =some x)(hx:Loc X.env.scope x)(r:RelV v u)
  (h:∀s',Inv X pins (σ.set i (some v)) H s'->(∃a,Heap.SameBut a s.heap s'.heap/\(a=X.env.locals\/X.env.cells.lookup x=some a))->Q () s') (hf:X.fn x=true\/X.env.scope.names.lookup x=some .local:=by first | exact .inl rfl | exact .inr rfl | assumption):wpAny M A (storeName X.env x u) Q E s:=by
 obtain⟨m,hn,hl⟩:=id I.loc
 have hcls:(X.env.scope.kind == .class || (X.env.scope.kind == .module && X.env.locals != X.env.globals))=false:=by rw[I.ok.kind];rfl
 have hiσ:i<σ.length:=by rw[I.len];exact(Yc.mp hi).1
 have cne:=I.cne
 have tracked:∀{a:Addr}{h':Heap},(∃o,s.heap.get? a=some o/\H a=none)->Heap.SameBut a s.heap h'->HOk X.prog X.w H h':=fun {a h'} ha hs b ob e=>by
  obtain⟨_,_,hfree⟩:=ha
  refine(I.hok b ob e).stay (fun c w' hc q=>(hs.2 c ?_).trans q) (fun _ q=>q) fun _ _ q=>q
  rintro rfl
  rcases hc with rfl | hc
  ·rw[hfree]at e;cases e
  ·rw[hfree]at hc;cases hc
 rcases hx with hk | hk
 ·refine wpAny_storeName_local hk hn (fun h' hn' hs=>?_) hcls
  obtain⟨oL,_,_,hoL,_⟩:=id hn
  refine h _ ⟨I.ok,I.os,I.bare,⟨fun b o e n hb hx=>?_,fun b o e n hb hx=>?_,I.base.free,fun b o e hx=>?_,I.base.tups,I.base.frzs,I.base.tbls⟩,⟨_,hn',fun j y v' e1 e2 e3=>?_⟩,fun y c e=>?_,I.free,I.freeC,fun p hp=>?_,tracked ⟨oL,hoL,I.free⟩ hs,by simpa using I.len⟩ ⟨_,hs,.inl rfl⟩
  ·exact(hs.2 b (YL (Yp (Ym e) I.ok.above))).trans (I.base.keep b o e n hb hx)
  ·obtain⟨sl,e1⟩:=I.base.slot b o e n hb hx
   exact⟨sl,(hs.2 b (YL (Yp (Ym e) I.ok.above))).trans e1⟩
  ·obtain⟨o',e1⟩:=I.base.there b o e hx
   exact⟨o',(hs.2 b (YL (Yp (Ym e) I.ok.above))).trans e1⟩
  ·by_cases hj:j=i
   ·subst hj
    rw[hi]at e1;cases e1
    rw[List.getElem?_set_self hiσ]at e2
    cases e2
    exact⟨u,r,.inl ⟨hk,by simp⟩⟩
   ·rw [Xb (Ne.symm hj)]at e2
    obtain⟨u',r',q⟩:=hl j y v' e1 e2 e3
    refine⟨u',r',?_⟩
    rcases q with ⟨k,e⟩ | ⟨k,c,e,z⟩
    ·refine .inl ⟨k,?_⟩
     have:y≠x:=fun e=>hj (a9X hN e1 (e▸hi))
     simp[this,e]
    ·exact .inr ⟨k,c,e,z.sameBut hs (cne y c e)⟩
  ·obtain⟨w',z⟩:=I.cell y c e
   exact⟨w',z.sameBut hs (cne y c e)⟩
  ·obtain⟨e,n,ne,nf,d⟩:=I.pin p hp
   exact⟨(hs.2 p.1 ne).trans e,n,ne,nf,d⟩
 ·have hfn:X.fn x=true:=by
   rcases hf with z | z
   ·exact z
   ·rw[z]at hk;cases hk
  obtain⟨c,hc⟩:=I.ok.has x (.inl hk)
  obtain⟨w',z⟩:=I.cell x c hc
  refine wpAny_storeName_cell I.ok.kind hk hc z (fun h' hc' hs=>?_)
  obtain⟨oc,hoc,hocd⟩:=id z
  refine h { s with heap:=h' } ⟨I.ok,I.os,I.bare,⟨fun b o e n hb hx=>?_,fun b o e n hb hx=>?_,I.base.free,fun b o e hx=>?_,I.base.tups,I.base.frzs,I.base.tbls⟩,⟨m,hn.sameBut hs (Ne.symm (cne x c hc)),fun j y v' e1 e2 e3=>?_⟩,fun y c' e=>?_,I.free,I.freeC,fun p hp=>?_,tracked ⟨oc,hoc,I.freeC x c hc⟩ hs,by simpa using I.len⟩ ⟨c,hs,.inr hc⟩
  ·exact(hs.2 b (YL (Yp (Ym e) (I.ok.cab x c hfn hc)))).trans (I.base.keep b o e n hb hx)
  ·obtain⟨sl,e1⟩:=I.base.slot b o e n hb hx
   exact⟨sl,(hs.2 b (YL (Yp (Ym e) (I.ok.cab x c hfn hc)))).trans e1⟩
  ·obtain⟨o',e1⟩:=I.base.there b o e hx
   exact⟨o',(hs.2 b (YL (Yp (Ym e) (I.ok.cab x c hfn hc)))).trans e1⟩
  ·by_cases hj:j=i
   ·subst hj
    rw[hi]at e1;cases e1
    rw[List.getElem?_set_self hiσ]at e2
    cases e2
    exact⟨u,r,.inr ⟨.inl hk,c,hc,hc'⟩⟩
   ·rw [Xb (Ne.symm hj)]at e2
    obtain⟨u',r',q⟩:=hl j y v' e1 e2 e3
    refine⟨u',r',?_⟩
    rcases q with q | ⟨k,c',e,z'⟩
    ·exact .inl q
    ·refine .inr ⟨k,c',e,z'.sameBut hs ?_⟩
     rintro rfl
     exact hj (a9X hN e1 (I.ok.inj _ _ _ e hc▸hi))
  ·by_cases hcc:c'=c
   ·subst hcc;exact⟨_,hc'⟩
   ·obtain⟨w2,z2⟩:=I.cell y c' e
    exact⟨w2,z2.sameBut hs hcc⟩
  ·obtain⟨e,n,ne,nf,d⟩:=I.pin p hp
   refine⟨(hs.2 p.1 ?_).trans e,n,ne,nf,d⟩
   intro q
   rw[q,hoc]at e
   have q':oc=p.2:=YE e
   exact d w' (by rw[<-q'];exact hocd)
theorem a5J {M:Model}{A:Around}{E:Value->Shared->Prop}{i:Nat}{x:Str}{v:V}{u:Value}{Q:Unit->Shared->Prop}(I:Inv X pins σ H s)(hN:X.N.Nodup)(hi:X.N[i]? =some x)(hx:Loc X.env.scope x)(r:RelV v u)
  (h:∀s',Inv X pins (σ.set i (some v)) H s'->Q () s') (hf:X.fn x=true\/X.env.scope.names.lookup x=some .local:=by first | exact .inl rfl | exact .inr rfl | assumption):wpAny M A (storeName X.env x u) Q E s:=
 b7K I hN hi hx r (fun s' I' _=>h s' I') hf
/-- behind a call or a block,the state as it is -/
theorem Inv.call' {s':Shared}{ch:List Addr}(I:Inv X pins σ H s)(ho:s'.os=s.os)(u:Un (frs X.stack) ch H H' s.heap s'.heap)(hok:HOk X.prog X.w H' s'.heap)(hg:AllBare s'.gens)
  (hch:∀b∈ch,(b∈X.ex\/X.s₀.heap.objs.size<=b)/\b≠X.env.locals/\(∀x c,X.env.cells.lookup x=some c->c≠b)/\∀p∈X.pn++pins,p.1≠b):Inv X pins σ H' s':=by
 obtain⟨h',g',d',t',o'⟩:=s'
 have e:o'=s.os:=ho
 subst e
 exact I.call (g':=g') (t':=t') (d':=d') u hok hg hch
end

/-! ### the judgements -/
/-- an exception:its class,its own dict's address (where it has one),the abstract heap behind it -/
abbrev XK:=Value->Option Addr->Hp->Prop
abbrev St:=List (Option V)
abbrev VK:=V->Hp->Prop
/-- an expression's reading;a test's;an argument list's -/
abbrev TE:=St->Hp->VK->Prop
abbrev TT:=St->Hp->(Bool->Hp->Prop)->Prop
abbrev TA:=St->Hp->(List V->Hp->Prop)->Prop
/-- what is wanted behind a statement -/
structure Ends where
 nx:St->Hp->Prop
 rt:VK
 bk:St->Hp->Prop:=fun _ _=>False
 ct:St->Hp->Prop:=fun _ _=>False
abbrev TS:=Ends->St->Hp->Prop

def EP (X:Cx)(pins:List (Addr×Obj))(σ:St)(Q:VK)(u:Value)(s':Shared):Prop:=∃v H',Inv X pins σ H' s'/\RelV v u/\Q v H'
def TP (X:Cx)(pins:List (Addr×Obj))(σ:St)(Q:Bool->Hp->Prop)(b:Bool)(s':Shared):Prop:=∃H',Inv X pins σ H' s'/\Q b H'
def AP (X:Cx)(pins:List (Addr×Obj))(σ:St)(Q:List V->Hp->Prop)(us:List Value)(s':Shared):Prop:=∃vs H',Inv X pins σ H' s'/\Vals vs us/\Q vs H'
def SP (X:Cx)(pins:List (Addr×Obj))(D:Ends)(f:Flow)(s':Shared):Prop:=
 match f with
 |.next=>∃σ' H',Inv X pins σ' H' s'/\D.nx σ' H'
 |.brk=>∃σ' H',Inv X pins σ' H' s'/\D.bk σ' H'
 |.cont=>∃σ' H',Inv X pins σ' H' s'/\D.ct σ' H'
 |.ret u=>∃v σ' H',Inv X pins σ' H' s'/\RelV v u/\D.rt v H'

def PE (X:Cx)(e:Expr)(t:TE):Prop:=
 ∀(pins:List (Addr×Obj))(s:Shared)(σ:St)(H:Hp)(Q:VK),Inv X pins σ H s->t σ H Q->wpAny (model X.prog X.w) X.A (eval e X.env) (EP X pins σ Q) X.xe s
def PT (X:Cx)(e:Expr)(t:TT):Prop:=
 ∀(pins:List (Addr×Obj))(s:Shared)(σ:St)(H:Hp)(Q:Bool->Hp->Prop),Inv X pins σ H s->t σ H Q->wpAny (model X.prog X.w) X.A (isTrue e X.env (eval e X.env)) (TP X pins σ Q) X.xe s
/-- a test whatever its 'whole' is (and,or) -/
def PW (X:Cx)(e:Expr)(t:TT):Prop:=
 ∀(whole:Sem Value)(pins:List (Addr×Obj))(s:Shared)(σ:St)(H:Hp)(Q:Bool->Hp->Prop),Inv X pins σ H s->t σ H Q->wpAny (model X.prog X.w) X.A (isTrue e X.env whole) (TP X pins σ Q) X.xe s
theorem PW.pt {X:Cx}{e:Expr}{t:TT}(h:PW X e t):PT X e t:=h _
/-- an argument list (no star),from the left -/
def PA (X:Cx)(es:List Expr)(t:TA):Prop:=
 ∀(pos:Pos)(pins:List (Addr×Obj))(s:Shared)(σ:St)(H:Hp)(Q:List V->Hp->Prop),Inv X pins σ H s->t σ H Q->wpAny (model X.prog X.w) X.A (spliced (backTo pos (starEach es X.env))) (AP X pins σ Q) X.xe s
def PS (X:Cx)(st:Stmt)(t:TS):Prop:=
 ∀(pins:List (Addr×Obj))(s:Shared)(σ:St)(H:Hp)(D:Ends),Inv X pins σ H s->t D σ H->wpAny (model X.prog X.w) X.A (exec st X.env) (SP X pins D) X.xe s
def PSs (X:Cx)(st:List Stmt)(t:TS):Prop:=
 ∀(pins:List (Addr×Obj))(s:Shared)(σ:St)(H:Hp)(D:Ends),Inv X pins σ H s->t D σ H->wpAny (model X.prog X.w) X.A (execs st X.env) (SP X pins D) X.xe s
/-- weaken the end -/
theorem thn {α:Type}{t:Sem α}{Q Q':α->Shared->Prop}{M:Model}{A:Around}{E:Value->Shared->Prop}{s:Shared}(h:wpAny M A t Q E s)(hQ:∀a s,Q a s->Q' a s):wpAny M A t Q' E s:=YQ h hQ fun _ _ x=>x
end L2

namespace L2
open PySem PySem.Spec PyProof.Rows
section
variable {X:Cx}

/-- two expressions in a row -/
theorem bin {a b:Expr}{ta tb:TE}(ha:PE X a ta)(hb:PE X b tb){pins:List (Addr×Obj)}{s:Shared}{σ:St}{H:Hp}{R:V->V->Hp->Prop}(I:Inv X pins σ H s)(h:ta σ H fun x H1=>tb σ H1 fun y H2=>R x y H2)
  {α:Type} {Q:α->Shared->Prop} {f:Value->Value->Sem α}
  (hf:∀v u s2 x y H2,Inv X pins σ H2 s2->RelV x v->RelV y u->R x y H2->wpAny (model X.prog X.w) X.A (f v u) Q X.xe s2) :
  wpAny (model X.prog X.w) X.A (eval a X.env) (fun v s₁=>wpAny (model X.prog X.w) X.A (eval b X.env) (fun u s₂=>wpAny (model X.prog X.w) X.A (f v u) Q X.xe s₂) X.xe s₁) X.xe s:=by
 refine thn (ha pins s σ H _ I h) fun v s1 hz9=>?_
 obtain⟨x,H1,I1,r1,q1⟩:=hz9
 refine thn (hb pins s1 σ H1 _ I1 q1) fun u s2 hz9=>?_
 obtain⟨y,H2,I2,r2,q2⟩:=hz9
 exact hf v u s2 x y H2 I2 r1 r2 q2

/-! ### names and constants -/
def tVar (i:Nat):TE:=fun σ H Q=>∃v,σ[i]? =some (some v)/\Q v H
def tC (v:V):TE:=fun _ H Q=>Q v H
theorem b9X {i:Nat}{x:Str}{pos:Pos}(hN:X.N[i]? =some x)(hv:Vis X.env.scope x)(hd:(x == ("__debug__":Str))=false:=by decide)(hcd:(x == ("__classdict__":Str))=false:=by decide):PE X (.Name x pos) (tVar i):=by
 intro pins s σ H Q I h
 obtain⟨v,e,h⟩:=h
 obtain⟨m,hn,hl⟩:=I.loc
 obtain⟨u,r,l⟩:=hl i x v hN e hv
 have fin:EP X pins σ Q u s:=⟨v,H,I,r,h⟩
 rcases l with ⟨hk,hm⟩ | ⟨hk,c,hc,hcell⟩
 ·exact wpAny_Name (wpAny_loadName_local I.ok.kind hk hn hm fin) hd
 ·rcases hk with hk | hk
  ·exact wpAny_Name (wpAny_loadName_cell I.ok.kind hk hc hcell fin) hd
  ·exact wpAny_Name (wpAny_loadName_free I.ok.kind hk hc hcell fin hcd) hd
theorem aH {i j pos}:PE X (.Constant (.int i) j pos) (tC (.int i)):=fun _ _ _ H _ I h=>wpAny_Constant_int ⟨.int i,H,I.tok _,⟨_,rfl⟩,h⟩
theorem wW {b j pos}:PE X (.Constant (.bool b) j pos) (tC (.bl b)):=fun _ _ _ H _ I h=>Constant_bool ⟨.bl b,H,I,rfl,h⟩
theorem lW {j pos}:PE X (.Constant .none j pos) (tC .non):=fun _ _ _ H _ I h=>Constant_none ⟨.non,H,I,rfl,h⟩
theorem aR {x j pos}:PE X (.Constant (.str x) j pos) (tC (.str x)):=fun _ _ _ H _ I h=>Calls.Constant_str ⟨.str x,H,I.tok _,⟨_,rfl⟩,h⟩

/-- a global name of the def -/
def Gl (X:Cx)(x:Str):Prop:=X.env.kindOf x=some .globalImplicit
theorem zV {E:Value->Shared->Prop}{pins:List (Addr×Obj)}{s:Shared}{σ:St}{H:Hp}{x:Str}{u:Value}{pos:Pos}{Q:Value->Shared->Prop}(I:Inv X pins σ H s)(hg:Gl X x)(hm:X.mg x=some u)(h:Q u s)
  (hd:(x == ("__debug__":Str))=false:=by decide):wpAny (model X.prog X.w) X.A (eval (.Name x pos) X.env) Q E s:=
 Calls.Name_function_global I.ok.kind hg (Calls.loadGlobal_global (by rw[I.ok.glob];exact I.mod.glob.keeps I.bk) hm h) hd
theorem a2A {E:Value->Shared->Prop}{pins:List (Addr×Obj)}{s:Shared}{σ:St}{H:Hp}{x:Str}{u:Value}{pos:Pos}{Q:Value->Shared->Prop}(I:Inv X pins σ H s)(hg:Gl X x)(hm:X.mg x=none)(hv:bootBuiltins x=some u)(h:Q u s)
  (hn:x≠"__name__":=by decide) (hd:(x == ("__debug__":Str))=false:=by decide):wpAny (model X.prog X.w) X.A (eval (.Name x pos) X.env) Q E s:=by
 obtain⟨mb,h1,h2⟩:=I.mod.blt
 exact Calls.Name_function_global I.ok.kind hg (Calls.loadGlobal_builtin (by rw[I.ok.glob];exact I.mod.glob.keeps I.bk) hm (by rw[I.ok.blt];exact h1.keeps I.bk) ((h2 x hn).trans hv) h) hd
/-- a module's constant,a class,a function,as a value -/
theorem dH {x:Str}{v:V}{u:Value}{pos:Pos}(hg:Gl X x)(hm:X.mg x=some u)(r:RelV v u)(hd:(x == ("__debug__":Str))=false:=by decide):PE X (.Name x pos) (tC v):=
 fun _ _ _ H _ I h=>zV I hg hm ⟨v,H,I,r,h⟩ hd
theorem b6K {x:Str}{v:V}{u:Value}{pos:Pos}(hg:Gl X x)(hm:X.mg x=none)(hv:bootBuiltins x=some u)(r:RelV v u)(hn:x≠"__name__":=by decide)(hd:(x == ("__debug__":Str))=false:=by decide):PE X (.Name x pos) (tC v):=
 fun _ _ _ H _ I h=>a2A I hg hm hv ⟨v,H,I,r,h⟩ hn hd

/-! ### arithmetic -/
variable {a b:Expr}{ta tb:TE}{pos:Pos}
/-! ### comparisons -/
def PC (X:Cx)(op:CmpOp)(a b:Expr)(t:TE):Prop:=
 ∀ (pins:List (Addr×Obj))(s:Shared)(σ:St)(H:Hp)(Q:VK),Inv X pins σ H s->t σ H Q->
  wpAny (model X.prog X.w) X.A (eval a X.env) (fun v s₁=>wpAny (model X.prog X.w) X.A (eval b X.env) (fun u s₂=>wpAny (model X.prog X.w) X.A (compareOp op v u) (EP X pins σ Q) X.xe s₂) X.xe s₁) X.xe s
/-- a comparison as a value,as a test -/
def tB (t:TE):TT:=fun σ H Q=>t σ H fun x H1=>∃c,x= .bl c/\Q c H1
theorem c4L {op:CmpOp}{t:TE}(h:PC X op a b t)(h1:behindInMarks op b=false:=by first | exact nobehind _ (by decide) (by decide) | rfl):PT X (.Compare a [op] [b] pos) (tB t):=by
 intro pins s σ H Q I hw
 refine wpAny_isTrue_Compare1 (thn (h pins s σ H _ I hw) fun v s1 h1=>thn h1 fun u s2 h2=>thn h2 fun c s3 hz9=>?_) h1
 obtain⟨x,H1,I1,r1,q1⟩:=hz9
 obtain⟨d,rfl,q⟩:=q1
 cases r1
 exact Y0 ⟨H1,I1,q⟩
/-- an expression whose value is a bool,as a test -/
theorem c4K {e:Expr}{t:TE}(h:PE X e t)(he:∀whole,isTrue e X.env whole=(do let v<-whole;standAt e.pos;holding [v] (truthy v)):=by intro _;rfl):PT X e (tB t):=by
 intro pins s σ H Q I hw
 refine isTrue_plain (thn (h pins s σ H _ I hw) fun v s1 hz9=>?_) (he _)
 obtain⟨x,H1,I1,r1,q1⟩:=hz9
 obtain⟨d,rfl,q⟩:=q1
 cases r1
 exact Y0 ⟨H1,I1,q⟩

/-! ### and,or,not -/
variable {tA tB':TT}{rest:List Expr}
def tAnd (t u:TT):TT:=fun σ H Q=>t σ H fun c H1=>if c=true then u σ H1 Q else Q false H1
def tOr (t u:TT):TT:=fun σ H Q=>t σ H fun c H1=>if c=true then Q true H1 else u σ H1 Q
def tNot (t:TT):TT:=fun σ H Q=>t σ H fun c H1=>Q (!c) H1
theorem sG (ha:PT X a tA):PW X (.BoolOp .And [a] pos) tA:=by
 intro wh pins s σ H Q I h
 refine isTrue_and (thn (ha pins s σ H Q I h) fun c s1 e=>?_)
 cases c with
 |true=>exact isTrue_and_nil e
 |false=>exact e
theorem a1J (ha:PT X a tA):PW X (.BoolOp .Or [a] pos) tA:=by
 intro wh pins s σ H Q I h
 refine isTrue_or (thn (ha pins s σ H Q I h) fun c s1 e=>?_)
 cases c with
 |false=>exact isTrue_or_nil e
 |true=>exact e
theorem vD (ha:PT X a tA)(hb:PW X (.BoolOp .And (b::rest) pos) tB'):PW X (.BoolOp .And (a::b::rest) pos) (tAnd tA tB'):=by
 intro wh pins s σ H Q I h
 refine isTrue_and (thn (ha pins s σ H _ I h) fun c s1 hz9=>?_)
 obtain⟨H1,I1,q1⟩:=hz9
 cases c with
 |true=>exact hb wh pins s1 σ H1 Q I1 q1
 |false=>exact⟨H1,I1,q1⟩
theorem a5L (ha:PT X a tA)(hb:PW X (.BoolOp .Or (b::rest) pos) tB'):PW X (.BoolOp .Or (a::b::rest) pos) (tOr tA tB'):=by
 intro wh pins s σ H Q I h
 refine isTrue_or (thn (ha pins s σ H _ I h) fun c s1 hz9=>?_)
 obtain⟨H1,I1,q1⟩:=hz9
 cases c with
 |true=>exact⟨H1,I1,q1⟩
 |false=>exact hb wh pins s1 σ H1 Q I1 q1
theorem sH (ha:PT X a tA):PT X (.UnaryOp .Not a pos) (tNot tA):=by
 intro pins s σ H Q I h
 exact isTrue_not (ha pins s σ H (fun c H1=>Q (!c) H1) I h)
/-- .. as values (bools) -/
def tAndV (ta tb:TE):TE:=fun σ H Q=>ta σ H fun x H1=>∃c,x= .bl c/\if c=true then tb σ H1 Q else Q (.bl false) H1
def tOrV (ta tb:TE):TE:=fun σ H Q=>ta σ H fun x H1=>∃c,x= .bl c/\if c=true then Q (.bl true) H1 else tb σ H1 Q
theorem a7H {op}{t:TE}(h:PE X a t):PE X (.BoolOp op [a] pos) t:=fun pins s σ H Q I hw=>BoolOp_one (h pins s σ H Q I hw)
theorem c4P (ha:PE X a ta)(hb:PE X (.BoolOp .And (b::rest) pos) tb):PE X (.BoolOp .And (a::b::rest) pos) (tAndV ta tb):=by
 intro pins s σ H Q I h
 refine BoolOp_and (thn (ha pins s σ H _ I h) fun v s1 hz9=>?_)
 obtain⟨x,H1,I1,r1,q1⟩:=hz9
 obtain⟨c,rfl,q1⟩:=q1
 cases r1
 refine Y0 ?_
 cases c with
 |true=>exact hb pins s1 σ H1 Q I1 q1
 |false=>exact⟨.bl false,H1,I1,rfl,q1⟩
theorem c6K (ha:PE X a ta)(hb:PE X (.BoolOp .Or (b::rest) pos) tb):PE X (.BoolOp .Or (a::b::rest) pos) (tOrV ta tb):=by
 intro pins s σ H Q I h
 refine BoolOp_or (thn (ha pins s σ H _ I h) fun v s1 hz9=>?_)
 obtain⟨x,H1,I1,r1,q1⟩:=hz9
 obtain⟨c,rfl,q1⟩:=q1
 cases r1
 refine Y0 ?_
 cases c with
 |false=>exact hb pins s1 σ H1 Q I1 q1
 |true=>exact⟨.bl true,H1,I1,rfl,q1⟩
/-- a if t else b -/
def tIf (t:TT)(ta tb:TE):TE:=fun σ H Q=>t σ H fun c H1=>if c=true then ta σ H1 Q else tb σ H1 Q
theorem nU {c:Expr}(hc:PT X c tA)(ha:PE X a ta)(hb:PE X b tb):PE X (.IfExp c a b pos) (tIf tA ta tb):=by
 intro pins s σ H Q I h
 refine wpAny_IfExp (thn (hc pins s σ H _ I h) fun d s1 hz9=>?_)
 obtain⟨H1,I1,q1⟩:=hz9
 cases d with
 |true=>exact ha pins s1 σ H1 Q I1 q1
 |false=>exact hb pins s1 σ H1 Q I1 q1
end
end L2

namespace L2
open PySem PySem.Spec PyProof.Rows

/-! ### a list,a tuple that is read:tracked,frozen,or an object of the module -/
def SqL (K:W.Frag)(H:Hp)(a:Addr)(xs:List V):Prop:=
 Rd H a (.lst xs)\/
  ∃(o:Obj)(its:Array Value)(n:Nat),K.lookup a=some o/\o.cls= .type "list"/\o.dict=none/\o.data= .seq its n/\its.size<=sizeLine/\Vals xs its.toList
def SqT (K:W.Frag)(H:Hp)(a:Addr)(xs:List V):Prop:=
 Rd H a (.tup xs)\/
  ∃(o:Obj)(its:Array Value)(n:Nat),K.lookup a=some o/\o.cls= .type "tuple"/\o.data= .seq its n/\its.size<=sizeLine/\Vals xs its.toList
def absV:Value->Option V
 |.none=>some .non
 |.bool b=>some (.bl b)
 |.int i _=>some (.int i)
 |.str x _=>some (.str x)
 |.bytes b _=>some (.byt b)
 |.float b _=>some (.flt b)
 |.ref a=>some (.ref a)
 |.type n=>some (.ty n)
 |_=>none
theorem RelV.abs {x:V}{u:Value}(r:RelV x u):absV u=some x:=by
 cases x with
 |non=>cases r;rfl
 |bl _=>cases r;rfl
 |int _=>obtain⟨t,rfl⟩:=r;rfl
 |str _=>obtain⟨t,rfl⟩:=r;rfl
 |byt _=>obtain⟨t,rfl⟩:=r;rfl
 |flt _=>obtain⟨t,rfl⟩:=r;rfl
 |ref _=>cases r;rfl
 |ty _=>cases r;rfl
theorem RelV.inj {x y:V}{u:Value}(r:RelV x u)(q:RelV y u):x=y:=YE (r.abs.symm.trans q.abs)
theorem Vals.inj:∀{xs ys:List V}{us:List Value},Vals xs us->Vals ys us->xs=ys
 |_,_,_,.nil,.nil=>rfl
 |_,_,_,.cons r t,.cons r' t'=>by rw[r.inj r',Vals.inj t t']
section
variable {X:Cx}{pins:List (Addr×Obj)}{σ:St}{H:Hp}{s:Shared}{a:Addr}{xs ys:List V}
theorem SqL.of {K:W.Frag}(h:H a=some (.lst xs)):SqL K H a xs:= .inl (.inl h)
theorem SqT.of {K:W.Frag}(h:H a=some (.tup xs)):SqT K H a xs:= .inl (.inl h)
theorem Inv.list (I:Inv X pins σ H s)(h:SqL X.K H a xs):∃its:List Value,Vals xs its/\PlainL s.heap a its.toArray/\xs.length<=sizeLine:=by
 rcases h with h | ⟨o,its,n,hk,hc,hd,hs,hz,r⟩
 ·obtain⟨z,its,n,r,e⟩:=h.ok I.hok
  exact⟨its,r,⟨_,n,e,rfl,rfl,rfl⟩,z⟩
 ·refine⟨its.toList,r,⟨o,n,I.kIn a o hk,hc,hd,by simpa using hs⟩,?_⟩
  have e:=r.length
  simp only[Array.length_toList]at e
  omega
theorem Inv.tuple (I:Inv X pins σ H s)(h:SqT X.K H a xs):∃its:List Value,Vals xs its/\IsTup s.heap a its.toArray/\xs.length<=sizeLine:=by
 rcases h with h | ⟨o,its,n,hk,hc,hs,hz,r⟩
 ·obtain⟨z,its,r,p⟩:=h.ok I.hok
  exact⟨its,r,p,z⟩
 ·refine⟨its.toList,r,⟨o,I.kIn a o hk,hc,n,by simpa using hs⟩,?_⟩
  have e:=r.length
  simp only[Array.length_toList]at e
  omega
theorem Inv.list_inj (I:Inv X pins σ H s)(h:SqL X.K H a xs)(h':SqL X.K H a ys):xs=ys:=by
 obtain⟨its,r,⟨o,n,e,_,_,d⟩,_⟩:=I.list h
 obtain⟨its',r',⟨o',n',e',_,_,d'⟩,_⟩:=I.list h'
 rw[e]at e';cases e'
 rw[d]at d'
 injection d' with d1 _
 have:its=its':=by simpa using Yy Array.toList d1
 subst this
 exact r.inj r'
theorem Inv.tuple_inj (I:Inv X pins σ H s)(h:SqT X.K H a xs)(h':SqT X.K H a ys):xs=ys:=by
 obtain⟨its,r,⟨o,e,_,n,d⟩,_⟩:=I.tuple h
 obtain⟨its',r',⟨o',e',_,n',d'⟩,_⟩:=I.tuple h'
 rw[e]at e';cases e'
 rw[d]at d'
 injection d' with d1 _
 have:its=its':=by simpa using Yy Array.toList d1
 subst this
 exact r.inj r'
end

/-! ### another wish about exceptions -/
abbrev Cx.wish (X:Cx)(E:Value->Shared->Prop):Cx:={ X with xe:=E }
/-- no exception leaves -/
abbrev Cx.nox (X:Cx):Cx:=X.wish fun _ _=>False
theorem Cx.Ok.wish {X:Cx}(ok:X.Ok)(E:Value->Shared->Prop):(X.wish E).Ok:=
 ⟨ok.mod,ok.kind,ok.glob,ok.blt,ok.above,ok.inj,ok.has,ok.cab,ok.hd,ok.frames,ok.stk,ok.exf,ok.bs,ok.bsz,ok.noex,ok.exfs,ok.funs,ok.frf⟩
theorem Cx.Ok.unwish {X:Cx}{E:Value->Shared->Prop}(ok:(X.wish E).Ok):X.Ok:=
 ⟨ok.mod,ok.kind,ok.glob,ok.blt,ok.above,ok.inj,ok.has,ok.cab,ok.hd,ok.frames,ok.stk,ok.exf,ok.bs,ok.bsz,ok.noex,ok.exfs,ok.funs,ok.frf⟩
section
variable {X:Cx}{pins:List (Addr×Obj)}{σ:St}{H:Hp}{s:Shared}{E:Value->Shared->Prop}
theorem Inv.wish (I:Inv X pins σ H s)(E:Value->Shared->Prop):Inv (X.wish E) pins σ H s:=⟨I.ok.wish E,I.os,I.bare,I.base,I.loc,I.cell,I.free,I.freeC,I.pin,I.hok,I.len⟩
theorem Inv.unwish (I:Inv (X.wish E) pins σ H s):Inv X pins σ H s:=⟨I.ok.unwish,I.os,I.bare,I.base,I.loc,I.cell,I.free,I.freeC,I.pin,I.hok,I.len⟩
theorem SP.unwish {D:Ends}{f:Flow}{s':Shared}(h:SP (X.wish E) pins D f s'):SP X pins D f s':=by
 cases f with
 |next=>obtain⟨σ',H',I,q⟩:=h;exact⟨σ',H',I.unwish,q⟩
 |brk=>obtain⟨σ',H',I,q⟩:=h;exact⟨σ',H',I.unwish,q⟩
 |cont=>obtain⟨σ',H',I,q⟩:=h;exact⟨σ',H',I.unwish,q⟩
 |ret u=>obtain⟨v,σ',H',I,r,q⟩:=h;exact⟨v,σ',H',I.unwish,r,q⟩
theorem PSs.nox {st:List Stmt}{t:TS}(h:PSs X.nox st t):PSs X st t:=fun pins s σ H D I hw=>
 YQ (h pins s σ H D (I.wish _) hw) (fun _ _ q=>q.unwish) fun _ _ z=>False.elim z
end

/-! ### blocks and small statements -/
section
variable {X:Cx}{st:Stmt}{rest:List Stmt}{t u:TS}{e:Expr}{te:TE}{pos:Pos}
def tNext:TS:=fun D σ H=>D.nx σ H
def tSeq (t u:TS):TS:=fun D σ H=>t { D with nx:=u D } σ H
theorem bC:PSs X [] tNext:=fun _ _ σ H _ I h=>wpAny_execs_nil ⟨σ,H,I,h⟩
theorem aD (h1:PS X st t)(h2:PSs X rest u):PSs X (st::rest) (tSeq t u):=by
 intro pins s σ H D I h
 refine wpAny_execs_cons (thn (h1 pins s σ H { D with nx:=u D } I h) fun f s1 q=>?_)
 cases f with
 | next=>
  obtain⟨σ',H',I',q⟩:=q
  exact h2 pins s1 σ' H' D I' q
 |ret v=>exact q
 |brk=>exact q
 |cont=>exact q
theorem aJ (h1:PS X st t):PSs X [st] t:=by
 intro pins s σ H D I h
 refine wpAny_execs_cons (thn (h1 pins s σ H D I h) fun f s1 q=>?_)
 cases f with
 |next=>exact wpAny_execs_nil q
 |ret v=>exact q
 |brk=>exact q
 |cont=>exact q
/-- in a def's body nothing is shown -/
theorem Inv.quiet {pins:List (Addr×Obj)}{σ:St}{H:Hp}{s:Shared}(I:Inv X pins σ H s):interactive X.env=false:=by simp[interactive,I.ok.kind]
/-- an expression whose value is dropped -/
def tDrop (te:TE):TS:=fun D σ H=>te σ H fun _ H1=>D.nx σ H1
theorem jY (he:PE X e te)(hs:swapsWith e none pos.line X.env=pure false:=by rfl):PS X (.Expr e pos) (tDrop te):=by
 intro pins s σ H D I h
 exact wpAny_Expr_any (thn (he pins s σ H _ I h) fun v s1 ⟨x,H1,I1,r1,q1⟩=>⟨σ,H1,I1,q1⟩) I.quiet hs
def tRet (te:TE):TS:=fun D σ H=>te σ H D.rt
theorem aW (he:PE X e te):PS X (.Return (some e) pos) (tRet te):=by
 intro pins s σ H D I h
 exact wpAny_Return_some (thn (he pins s σ H _ I h) fun v s1 ⟨x,H1,I1,r1,q1⟩=>⟨x,σ,H1,I1,r1,q1⟩)
def tIfS (c:TT)(t u:TS):TS:=fun D σ H=>c σ H fun b H1=>if b=true then t D σ H1 else u D σ H1
theorem cM {c:Expr}{a b:List Stmt}{tc:TT}(hc:PT X c tc)(ha:PSs X a t)(hb:PSs X b u):PS X (.If c a b pos) (tIfS tc t u):=by
 intro pins s σ H D I h
 refine wpAny_If (thn (hc pins s σ H _ I h) fun d s1 hz9=>?_)
 obtain⟨H1,I1,q1⟩:=hz9
 cases d with
 |true=>exact ha pins s1 σ H1 D I1 q1
 |false=>exact hb pins s1 σ H1 D I1 q1
end

/-! ### targets -/
abbrev TG:=V->St->Hp->(St->Hp->Prop)->Prop
def PG (X:Cx)(target:Expr)(t:TG):Prop:=
 ∀ (pins:List (Addr×Obj))(s:Shared)(σ:St)(H:Hp)(v:V)(u:Value)(Q:St->Hp->Prop),Inv X pins σ H s->RelV v u->t v σ H Q->
  wpAny (model X.prog X.w) X.A (assign target X.env u) (fun _ s'=>∃σ' H',Inv X pins σ' H' s'/\Q σ' H') X.xe s
/-- o[i]=v,by values -/
abbrev TSet:=V->V->V->Hp->(Hp->Prop)->Prop
def PSet (X:Cx)(t:TSet):Prop:=
 ∀ (pins:List (Addr×Obj))(s:Shared)(σ:St)(H:Hp)(o i v:V)(ov iv u:Value)(Q:Hp->Prop),Inv X pins σ H s->RelV o ov->RelV i iv->RelV v u->t o i v H Q->
  wpAny (model X.prog X.w) X.A (setItem ov iv u) (fun _ s'=>∃H',Inv X pins σ H' s'/\Q H') X.xe s
section
variable {X:Cx}{pos:Pos}
def gName (i:Nat):TG:=fun v σ H Q=>Q (σ.set i (some v)) H
theorem vJ {i:Nat}{x:Str}(hN:X.N.Nodup)(hi:X.N[i]? =some x)(hx:Loc X.env.scope x)(hf:X.fn x=true\/X.env.scope.names.lookup x=some .local:=by first | exact .inl rfl | exact .inr rfl | assumption):PG X (.Name x pos) (gName i):=by
 intro pins s σ H v u Q I r h
 exact wpAny_assign_Name (a5J I hN hi hx r (fun s' I'=>⟨_,H,I',h⟩) hf)
/-- o[i]= .. -/
def gSub (to ti:TE)(t:TSet):TG:=fun v σ H Q=>to σ H fun o H1=>ti σ H1 fun i H2=>t o i v H2 fun H3=>Q σ H3
theorem b2S {o i:Expr}{to ti:TE}{t:TSet}(ho:PE X o to)(hi:PE X i ti)(hs:PSet X t)
  (ha:∀v,assign (.Subscript o i pos) X.env v=(do
   let ov<-holding [v] (eval o X.env)
   let iv<-holding [v,ov] (eval i X.env)
   standAt pos
   holding [v,ov,iv] (setItem ov iv v)
   release [v,ov,iv] []):=by intro _;rfl):PG X (.Subscript o i pos) (gSub to ti t):=by
 intro pins s σ H v u Q I r h
 rw[ha]
 refine Yb (Y9 (thn (ho pins s σ H _ I h) fun ov s1 hz9=>?_))
 obtain⟨x,H1,I1,r1,q1⟩:=hz9
 refine Yb (Y9 (thn (hi pins s1 σ H1 _ I1 q1) fun iv s2 hz9=>?_))
 obtain⟨y,H2,I2,r2,q2⟩:=hz9
 refine Yb (wpAny_standAt (Yb (Y9 (thn (hs pins s2 σ H2 x y v ov iv u _ I2 r1 r2 r q2) fun _ s3 hz9=>?_))))
 obtain⟨H3,I3,q3⟩:=hz9
 exact wpAny_release ⟨σ,H3,I3,q3⟩
/-- target=value -/
def tAsg (te:TE)(g:TG):TS:=fun D σ H=>te σ H fun x H1=>g x σ H1 D.nx
theorem b2R {tg e:Expr}{te:TE}{g:TG}(he:PE X e te)(hg:PG X tg g)(hs:swapsWithSole [tg] e pos.line X.env=pure false:=by rfl)(hw:swappedStores [tg] e X.env=pure none:=by rfl)
  (h1:(assignEach [tg] X.env).map (·.2)= [assign tg X.env]:=by rfl):PS X (.Assign [tg] e pos) (tAsg te g):=by
 intro pins s σ H D I h
 refine wpAny_Assign_stores (thn (he pins s σ H _ I h) fun v s1 hz9=>?_) hs hw
 obtain⟨x,H1,I1,r1,q1⟩:=hz9
 rw[h1]
 exact thn (hg pins s1 σ H1 x v _ I1 r1 q1) fun _ s2 q=>q
/-- name=value -/
theorem bZ {i:Nat}{x:Str}{e:Expr}{te:TE}{pos':Pos}(hN:X.N.Nodup)(hi:X.N[i]? =some x)(hx:Loc X.env.scope x)(he:PE X e te)(hs:swapsWith e (some (.Name x pos')) pos.line X.env=pure false:=by rfl)(hf:X.fn x=true\/X.env.scope.names.lookup x=some .local:=by first | exact .inl rfl | exact .inr rfl | assumption) :
  PS X (.Assign [.Name x pos'] e pos) (tAsg te (gName i)):=by
 intro pins s σ H D I h
 refine wpAny_Assign_Name (thn (he pins s σ H _ I h) fun v s1 hz9=>?_) hs
 obtain⟨y,H1,I1,r1,q1⟩:=hz9
 exact a5J I1 hN hi hx r1 (fun s2 I2=>⟨_,H1,I2,q1⟩) hf
end

/-! ### while -/
section
variable {X:Cx}{pos:Pos}
end

/-! ### what a loop or a comprehension walks -/
/-- at turn i:it yields x (the heap may grow),or it stops -/
structure It where
 go:Nat->Hp->Prop
 yld:Nat->Hp->V->Hp->Prop
 stop:Nat->Hp->Prop
/-- the iterator's own objects may turn:they are not the frame's,not pinned,younger than the entry (or a comprehension's own) -/
def FpOk (X:Cx)(pins:List (Addr×Obj))(H:Hp)(b:Addr):Prop:=
 H b=none/\b≠X.env.locals/\b∉X.fs/\(b∈X.ex\/X.s₀.heap.objs.size<=b)/\(∀x c,X.env.cells.lookup x=some c->c≠b)/\∀p∈X.pn++pins,p.1≠b
theorem Inv.fpOk {X:Cx}{pins:List (Addr×Obj)}{σ:St}{H H':Hp}{s:Shared}{b:Addr}(I:Inv X pins σ H s)(hb:s.heap.objs.size<=b)(hn:H' b=none):FpOk X pins H' b:=by
 refine⟨hn,Nat.ne_of_gt (Yp I.lt hb),I.nofs hb,.inr (Yn I.sz hb),fun x c e z=>?_,fun p hp z=>?_⟩
 ·obtain⟨v,q⟩:=I.cell x c e
  exact absurd (Yp q.lt (by rw[z];exact hb)) (YW _)
 ·exact absurd (Yp (Ym (I.pin p hp).1) (by rw[z];exact hb)) (YW _)
structure Turn (P:Program)(w:World)(K:W.Frag)(tg:Expr)(J:It)(fp:List Addr)(it:Addr)(tn:Nat->Heap->Prop):Prop where
 mem:it∈fp
 obj:∀i h,tn i h->∀b∈fp,∃o,h.get? b=some o/\∀v,o.data≠ .cell v
 keep:∀i h h',tn i h->(∀b∈fp,∀o,h.get? b=some o->h'.get? b=some o)->tn i h'
 item :∀(X:Cx),X.prog=P->X.w=w->X.K=K->X.calm=true->∀(i:Nat)(pins:List (Addr×Obj))(s:Shared)(σ:St)(H:Hp)(E:Value->Shared->Prop),Inv X pins σ H s->(∀b∈fp,FpOk X pins H b)->tn i s.heap->J.go i H->
  wpAny (model P w) X.A (pyNext (.ref it)) (fun r s1=>∃u,r=some u/\
   wpAny (model P w) X.A (letOwnedTupleGo tg (.ref it) u) (fun _ s2=>∃x H',Inv X pins σ H' s2/\RelV x u/\J.yld i H x H'/\tn (i+1) s2.heap/\∀b∈fp,H' b=none) E s1) E s
 done:∀(X:Cx),X.prog=P->X.w=w->X.K=K->X.calm=true->∀(i:Nat)(pins:List (Addr×Obj))(s:Shared)(σ:St)(H:Hp)(E:Value->Shared->Prop),Inv X pins σ H s->(∀b∈fp,FpOk X pins H b)->tn i s.heap->J.stop i H->
  wpAny (model P w) X.A (pyNext (.ref it)) (fun r s1=>r=none/\Inv X pins σ H s1) E s
 self:∀(A:Around)(i:Nat)(s:Shared)(Q:Value->Shared->Prop)(E:Value->Shared->Prop),tn i s.heap->Q (.ref it) s->wpAny (model P w) A (pyIter (.ref it)) Q E s
abbrev TI:=St->Hp->(It->Hp->Prop)->Prop
/-- an iterator has come -/
def PIE (X:Cx)(pins:List (Addr×Obj))(σ:St)(tg:Expr)(R:It->Hp->Prop)(itv:Value)(s2:Shared):Prop:=
 ∃(it:Addr)(fp:List Addr)(tn:Nat->Heap->Prop)(J:It)(H':Hp),itv= .ref it/\Inv X pins σ H' s2/\Turn X.prog X.w X.K tg J fp it tn/\tn 0 s2.heap/\(∀b∈fp,FpOk X pins H' b)/\R J H'
def PI (X:Cx)(tg iter:Expr)(wi:TI):Prop:=
 ∀ (pins:List (Addr×Obj))(s:Shared)(σ:St)(H:Hp)(R:It->Hp->Prop),Inv X pins σ H s->wi σ H R->
  wpAny (model X.prog X.w) X.A (eval iter X.env) (fun v s1=>wpAny (model X.prog X.w) X.A (pyIter v) (PIE X pins σ tg R) X.xe s1) X.xe s

/-- the step ahead of the store is nothing for an iterator that keeps no tuple -/
theorem b4U {M:Model}{A:Around}{E:Value->Shared->Prop}{s:Shared}{tg:Expr}{it:Addr}{u:Value}{o:Obj}{n:String}{vs:Array Value}{Q:Unit->Shared->Prop}(ho:s.heap.get? it=some o)(hc:o.cls= .type n)(hd:o.data= .fields vs)
    (hn:["enumerate","zip","dict_itemiterator","dict_reverseitemiterator","odict_iterator","itertools.zip_longest","itertools.pairwise"].contains n=false) (hQ:Q () s):wpAny M A (letOwnedTupleGo tg (.ref it) u) Q E s:=by
  unfold letOwnedTupleGo
  cases tg <;> first
    |exact YI hQ
    | (cases u <;> first
        |exact YI hQ
        | (refine Yb (wpAny_load ho ?_)
           rw[hc,hd]
           show wpAny M A (if (["enumerate","zip","dict_itemiterator","dict_reverseitemiterator","odict_iterator","itertools.zip_longest","itertools.pairwise"].contains n && vs[0]? == some (rawInt _))=true then _ else _) Q E s
           rw[if_neg (by intro h;rw[hn,Bool.false_and]at h;cases h)]
           exact YI hQ))

/-- the list at a,as it stands at each turn (a loop may append to it) -/
def Itl (K:W.Frag)(a:Addr):It:=
 ⟨fun i H=>∃xs x,SqL K H a xs/\xs[i]? =some x,fun i H x H'=>H'=H/\∀xs,SqL K H a xs->xs[i]? =some x,fun i H=>∃xs,SqL K H a xs/\xs.length<=i⟩
def Itt (K:W.Frag)(a:Addr):It:=
 ⟨fun i H=>∃xs x,SqT K H a xs/\xs[i]? =some x,fun i H x H'=>H'=H/\∀xs,SqT K H a xs->xs[i]? =some x,fun i H=>∃xs,SqT K H a xs/\xs.length<=i⟩
/-- lo,lo+1, .. (n of them) -/
def Itr (lo:Int)(n:Nat):It:=⟨fun i _=>i<n,fun i H x H'=>H'=H/\x= .int (lo+i),fun i _=>n<=i⟩
theorem b1J {P:Program}{w:World}{K:W.Frag}{tg:Expr}(a it:Addr):Turn P w K tg (Itl K a) [it] it (fun i h=>h.IsListIter it a i) where
 mem:=by simp
 obj:=fun i h st b hb=>by
  have e:b=it:=by simpa using hb
  subst e
  obtain⟨o,e,c,d⟩:=st
  exact⟨o,e,fun v z=>by rw[d]at z;cases z⟩
 keep:=fun i h h' st k=>st.at fun o e=>k it (by simp) o e
 item:=by
  intro X hP hw hK hc i pins s σ H E I hf st hg
  subst hP hw hK
  obtain⟨xs,x,hq,hx⟩:=hg
  obtain⟨its,rv,p,hz⟩:=I.list hq
  obtain⟨u,hu,ru⟩:=rv.get hx
  obtain⟨f0,f1,f2,f3,f4,f5⟩:=hf it (by simp)
  refine wpAny_pyNext_list_item st p.isList (x:=u) (by simpa using hu) fun h' st' sb=>?_
  have I1:Inv X pins σ H { s with heap:=h' }:=I.turned (t':=s.toks) (fun b o hb e=>(sb.2 b hb).trans e) f0 f1 f3 f4 f5
  obtain⟨o,e,c,d⟩:=id st'
  exact⟨u,rfl,b4U (s:={ s with heap:=h' }) e c d (by decide) ⟨x,H,I1,ru,⟨rfl,fun ys hy=>by rw[I.list_inj hy hq];exact hx⟩,st',fun b hb=>(hf b hb).1⟩⟩
 done:=by
  intro X hP hw hK hc i pins s σ H E I hf st hg
  subst hP hw hK
  obtain⟨xs,hq,hx⟩:=hg
  obtain⟨its,rv,p,hz⟩:=I.list hq
  obtain⟨f0,f1,f2,f3,f4,f5⟩:=hf it (by simp)
  have hl:=rv.length
  exact wpAny_pyNext_list_end (I.ok.hd hc) st p.isList (by simp;omega) fun h' eb=>⟨rfl,I.turned (t':=s.toks) (fun b o hb e=>eb b o hb e) f0 f1 f3 f4 f5⟩
 self:=fun _ _ _ _ _ st h=>wpAny_pyIter_listiter st h
theorem b5I {P:Program}{w:World}{K:W.Frag}{tg:Expr}(a it:Addr):Turn P w K tg (Itt K a) [it] it (fun i h=>h.IsTupleIter it a i) where
 mem:=by simp
 obj:=fun i h st b hb=>by
  have e:b=it:=by simpa using hb
  subst e
  obtain⟨o,e,c,d⟩:=st
  exact⟨o,e,fun v z=>by rw[d]at z;cases z⟩
 keep:=fun i h h' st k=>st.at fun o e=>k it (by simp) o e
 item:=by
  intro X hP hw hK hc i pins s σ H E I hf st hg
  subst hP hw hK
  obtain⟨xs,x,hq,hx⟩:=hg
  obtain⟨its,rv,p,hz⟩:=I.tuple hq
  obtain⟨u,hu,ru⟩:=rv.get hx
  obtain⟨f0,f1,f2,f3,f4,f5⟩:=hf it (by simp)
  refine wpAny_pyNext_tuple_item st (show s.heap.IsTuple a its.toArray from p) (x:=u) (by simpa using hu) fun h' st' sb=>?_
  have I1:Inv X pins σ H { s with heap:=h' }:=I.turned (t':=s.toks) (fun b o hb e=>(sb.2 b hb).trans e) f0 f1 f3 f4 f5
  obtain⟨o,e,c,d⟩:=id st'
  exact⟨u,rfl,b4U (s:={ s with heap:=h' }) e c d (by decide) ⟨x,H,I1,ru,⟨rfl,fun ys hy=>by rw[I.tuple_inj hy hq];exact hx⟩,st',fun b hb=>(hf b hb).1⟩⟩
 done:=by
  intro X hP hw hK hc i pins s σ H E I hf st hg
  subst hP hw hK
  obtain⟨xs,hq,hx⟩:=hg
  obtain⟨its,rv,p,hz⟩:=I.tuple hq
  obtain⟨f0,f1,f2,f3,f4,f5⟩:=hf it (by simp)
  have hl:=rv.length
  exact wpAny_pyNext_tuple_end (I.ok.hd hc) st (show s.heap.IsTuple a its.toArray from p) (by simp;omega) fun h' eb=>⟨rfl,I.turned (t':=s.toks) (fun b o hb e=>eb b o hb e) f0 f1 f3 f4 f5⟩
 self:=fun _ _ _ _ _ st h=>wpAny_pyIter_tupleiter st h
theorem b5J {P:Program}{w:World}{K:W.Frag}{tg:Expr}(it:Addr)(lo:Int)(n:Nat):Turn P w K tg (Itr lo n) [it] it (fun i h=>IsRangeIter h it (lo+(i:Nat)*1) ((n:Int)-(i:Nat)) 1) where
 mem:=by simp
 obj :=fun i h st b hb=>by
  have e:b=it:=by simpa using hb
  subst e
  exact⟨_,st,fun v z=>by
   have z':Data.fields _=Data.cell v:=z
   cases z'⟩
 keep:=fun i h h' st k=>k it (by simp) _ st
 item:=by
  intro X hP hw hK hc i pins s σ H E I hf st hg
  subst hP hw hK
  obtain⟨f0,f1,f2,f3,f4,f5⟩:=hf it (by simp)
  have W:=Walks.range (prog:=X.prog) (w:=X.w) (I.ok.hd hc) it lo 1 n
  refine W.item i s _ _ hg st fun v h' tk hv st' kk=>?_
  obtain⟨t,rfl⟩:=hv
  have I1:Inv X pins σ H { s with heap:=h',toks:=tk }:=I.turned (fun b o hb e=>kk b o (by simpa using hb) e) f0 f1 f3 f4 f5
  refine⟨_,rfl,b4U (s:={ s with heap:=h',toks:=tk }) (n:="range_iterator") st' rfl rfl (by decide) ⟨.int (lo+i),H,I1,⟨t,?_⟩,⟨rfl,rfl⟩,st',fun b hb=>(hf b hb).1⟩⟩
  rw[Int.mul_one]
 done:=by
  intro X hP hw hK hc i pins s σ H E I hf st hg
  subst hP hw hK
  obtain⟨f0,f1,f2,f3,f4,f5⟩:=hf it (by simp)
  exact wpAny_pyNext_range_end (I.ok.hd hc) st (by have:n<=i:=hg;omega) fun h' eb=>⟨rfl,I.turned (t':=s.toks) (fun b o hb e=>eb b o hb e) f0 f1 f3 f4 f5⟩
 self:=fun _ _ _ _ _ st h=>wpAny_pyIter_rangeiter st h
end L2

namespace L2
open PySem PySem.Spec PyProof.Rows
section
variable {X:Cx}{tg:Expr}
def iList (K:W.Frag)(tl:TE):TI:=fun σ H R=>tl σ H fun x H1=>∃a,x= .ref a/\(∃xs,SqL K H1 a xs)/\R (Itl K a) H1
theorem c2L {l:Expr}{tl:TE}(hl:PE X l tl):PI X tg l (iList X.K tl):=by
 intro pins s σ H R I h
 refine thn (hl pins s σ H _ I h) fun v s1 hz9=>?_
 obtain⟨x,H1,I1,r1,q1⟩:=hz9
 obtain⟨a,e,⟨xs,hq⟩,q⟩:=q1
 subst e
 cases r1
 obtain⟨its,rv,p,hz⟩:=I1.list hq
 refine wpAny_pyIter_list p.isList ?_
 refine⟨s1.heap.objs.size, [s1.heap.objs.size],_,_,H1,rfl,I1.kept (t':=s1.toks) fun b o e=>Yd _ e,b1J a _,⟨_,YB _ rfl,rfl,rfl⟩,fun b hb=>?_,q⟩
 have e:b=s1.heap.objs.size:=by simpa using hb
 subst e
 exact I1.fpOk (Ye _) (I1.hok.fresh (Ye _))
/-- a range object just made,walked -/
theorem b3X {pins:List (Addr×Obj)}{σ:St}{H:Hp}{s:Shared}{R:It->Hp->Prop}{E:Value->Shared->Prop}{lo hi:Int}{t u v:Tok}{tk:Nat}(I:Inv X pins σ H s)(h1: -(2 ^ 62)<=lo)(h2:lo<2 ^ 62)(h3: -(2 ^ 62)<=hi)(h4:hi<2 ^ 62)
  (q:R (Itr lo (hi-lo).toNat) H):wpAny (model X.prog X.w) X.A (pyIter (.ref s.heap.objs.size)) (PIE X pins σ tg R) E { s with heap:=s.heap.push { cls:= .type "range",data:= .fields #[.int lo t,.int hi u,.int 1 v] },toks:=tk }:=by
 refine wpAny_pyIter_range (IsRange.new ..) (small_one h1 h2 h3 h4) ?_
 have I1:Inv X pins σ H { s with heap:=s.heap.push { cls:= .type "range",data:= .fields #[.int lo t,.int hi u,.int 1 v] },toks:=tk }:=I.kept fun b o e=>Yd _ e
 refine⟨(s.heap.push { cls:= .type "range",data:= .fields #[.int lo t,.int hi u,.int 1 v] }).objs.size, [(s.heap.push { cls:= .type "range",data:= .fields #[.int lo t,.int hi u,.int 1 v] }).objs.size],_,_,H,rfl,
  I1.kept (t':=tk) fun b o e=>Yd _ e,b5J _ lo (hi-lo).toNat,?_,fun b hb=>?_,q⟩
 ·have e1:lo+((0:Nat):Int)*1=lo:=by simp
  have e2:(((hi-lo).toNat:Nat):Int)-((0:Nat):Int)=Builtin.Range.rangeSize lo hi 1:=by rw[rangeSize_one];split <;> omega
  show IsRangeIter _ _ (lo+((0:Nat):Int)*1) ((((hi-lo).toNat:Nat):Int)-((0:Nat):Int)) 1
  rw[e1,e2]
  exact YB _ rfl
 ·have e:b=(s.heap.push { cls:= .type "range",data:= .fields #[.int lo t,.int hi u,.int 1 v] }).objs.size:=by simpa using hb
  subst e
  exact I1.fpOk (Ye _) (I1.hok.fresh (Ye _))
def iRng1 (ta:TA):TI:=fun σ H R=>ta σ H fun vs H1=>∃j:Int,vs= [.int j]/\ -(2 ^ 62)<=j/\j<2 ^ 62/\R (Itr 0 j.toNat) H1
def iRng2 (ta:TA):TI:=fun σ H R=>ta σ H fun vs H1=>∃i j:Int,vs= [.int i,.int j]/\(-(2 ^ 62)<=i/\i<2 ^ 62/\ -(2 ^ 62)<=j/\j<2 ^ 62)/\R (Itr i (j-i).toNat) H1
theorem b7R {a:Expr}{ta:TA}{p pos:Pos}(hg:Gl X "range")(hm:X.mg "range"=none)(ha:PA X [a] ta)(hs:starEach [a] X.env= [(false,eval a X.env)]:=by rfl):PI X tg (.Call (.Name "range" p) [a] [] pos) (iRng1 ta):=by
 intro pins s σ H R I h
 refine Call_ (a2A I hg hm boot_range (YZ (thn (ha pos pins s σ H _ I h) fun us s1 hz9=>?_) hs rfl))
 obtain⟨vs,H1,I1,r1,q1⟩:=hz9
 obtain⟨j,e,q1,q2,q⟩:=q1
 subst e
 cases r1 with
 | cons r rr=>
  cases rr
  obtain⟨t,rfl⟩:=r
  exact call_range_1 (b3X I1 (by omega) (by omega) q1 q2 (by simpa using q))
theorem b7Q {a b:Expr}{ta:TA}{p pos:Pos}(hg:Gl X "range")(hm:X.mg "range"=none)(ha:PA X [a,b] ta)(hs:starEach [a,b] X.env= [(false,eval a X.env),(false,eval b X.env)]:=by rfl)(hs2:starEach [b] X.env= [(false,eval b X.env)]:=by rfl) :
  PI X tg (.Call (.Name "range" p) [a,b] [] pos) (iRng2 ta):=by
 intro pins s σ H R I h
 refine Call_ (a2A I hg hm boot_range (YZ (thn (ha pos pins s σ H _ I h) fun us s1 hz9=>?_) (by rw[hs,hs2]) (by rw[hs2];rfl)))
 obtain⟨vs,H1,I1,r1,q1⟩:=hz9
 obtain⟨i,j,e,⟨q1,q2,q3,q4⟩,q⟩:=q1
 subst e
 cases r1 with
 | cons r rr=>
  cases rr with
  | cons r' rr=>
   cases rr
   obtain⟨t,rfl⟩:=r
   obtain⟨t',rfl⟩:=r'
   exact call_range_2 (b3X I1 q1 q2 q3 q4 q)

/-! ### for -/
/-- W:the invariant by the turn and a measure;N:what the body is to reach -/
def tFor (wi:TI)(g:TG)(tb:TS):TS:=fun D σ H=>wi σ H fun J H1=>∃W:Nat->Nat->St->Hp->Prop,(∃m,W 0 m σ H1)/\∀i m σ H,W i m σ H->
 (J.stop i H/\D.nx σ H)\/(J.go i H/\∃N:St->Hp->Prop,(∀σ' H',N σ' H'->∃m',m'<m/\W (i+1) m' σ' H')/\∀x H',J.yld i H x H'->g x σ H' fun σ2 H2=>tb { D with nx:=N,ct:=N,bk:=D.nx } σ2 H2)
/-- the records at fp as they stand -/
def pinsAt (fp:List Addr)(h:Heap):List (Addr×Obj):=fp.filterMap fun b=>(h.get? b).map fun o=>(b,o)
theorem zT {fp:List Addr}{h:Heap}{b:Addr}{o:Obj}(hb:b∈fp)(e:h.get? b=some o):(b,o)∈pinsAt fp h:=YR.mpr ⟨b,hb,by rw[e];rfl⟩
theorem b7U {fp:List Addr}{h:Heap}{p:Addr×Obj}(hp:p∈pinsAt fp h):p.1∈fp/\h.get? p.1=some p.2:=by
 obtain⟨b,hb,e⟩:=YR.mp hp
 cases q:h.get? b with
 |none=>rw[q]at e;cases e
 | some o=>
  rw[q]at e
  have e':(b,o)=p:=YE e
  subst e'
  exact⟨hb,q⟩
theorem Inv.pinned {pins:List (Addr×Obj)}{σ:St}{H:Hp}{s:Shared}{fp:List Addr}(I:Inv X pins σ H s)(hf:∀b∈fp,FpOk X pins H b)(ho:∀b∈fp,∃o,s.heap.get? b=some o/\∀v,o.data≠ .cell v):Inv X (pins++pinsAt fp s.heap) σ H s:=
 I.pins_of fun p hp=>(YX.mp hp).elim (fun z=>I.pin p (YK _ z)) fun z=>by
  obtain⟨hb,e⟩:=b7U z
  obtain⟨f0,f1,f2,_⟩:=hf p.1 hb
  obtain⟨o,e',d⟩:=ho p.1 hb
  rw[e]at e';cases e'
  exact⟨e,f0,f1,f2,d⟩
theorem Inv.unpinned {pins pl:List (Addr×Obj)}{σ:St}{H:Hp}{s:Shared}(I:Inv X (pins++pl) σ H s):Inv X pins σ H s:=I.pins_of fun p hp=>I.pin p (YK _ (XD _ hp))
theorem zP {iter:Expr}{body:List Stmt}{wi:TI}{g:TG}{tb:TS}{pos:Pos}(hp:PassesOwn (model X.prog X.w) X.A X.env X.xe)(hc:X.calm=true)(hi:PI X tg iter wi)(hg:PG X tg g)(hb:PSs X body tb)
  (hs:∀x,foldedSetIterable iter X.env x=pure x:=by intro _;rfl):PS X (.For tg iter body [] pos) (tFor wi g tb):=by
 intro pins s σ H D I h
 refine wpAny_For (thn (hi pins s σ H _ I h) fun v s1 h1=>thn h1 fun itv s2 h2=>?_) hs
 obtain⟨it,fp,tn,J,H2,e,I2,T,st2,f2,W,⟨m0,w0⟩,turn⟩:=h2
 subst e
 -- what stays true of the iterator's objects through the loop
 have stat:∀{H':Hp},(∀b∈fp,H' b=none)->∀b∈fp,FpOk X pins H' b:=fun hn b hb=>⟨hn b hb,(f2 b hb).2⟩
 refine codeAny_forLoop_any (fun n s'=>∃i σ' H',Inv X pins σ' H' s'/\tn i s'.heap/\(∀b∈fp,H' b=none)/\W i n σ' H') ?_ m0 ⟨0,σ,H2,I2,st2,fun b hb=>(f2 b hb).1,w0⟩
 rintro n s3 ⟨i,σ3,H3,I3,st3,fr3,w3⟩
 rcases turn i n σ3 H3 w3 with ⟨stop,qn⟩ | ⟨go,N,hN,step⟩
 ·refine XR hp (thn (T.done X rfl rfl rfl hc i pins s3 σ3 H3 X.xe I3 (stat fr3) st3 stop) fun r s4 ⟨hr,I4⟩=>?_)
  subst hr
  exact wpAny_execs_nil ⟨σ3,H3,I4,qn⟩
 ·refine XR hp (thn (T.item X rfl rfl rfl hc i pins s3 σ3 H3 X.xe I3 (stat fr3) st3 go) fun r s4 hz9=>?_)
  obtain⟨u,hr,h4⟩:=hz9
  subst hr
  refine XR hp (thn h4 fun _ s5 hz9=>?_)
  obtain⟨x,H5,I5,r5,y5,st5,fr5⟩:=hz9
  have I5':=I5.pinned (stat fr5) (T.obj _ _ st5)
  refine XR hp (thn (hg _ s5 σ3 H5 x u _ I5' r5 (step x H5 y5)) fun _ s6 hz9=>?_)
  obtain⟨σ6,H6,I6,q6⟩:=hz9
  refine XR hp (thn (hb _ s6 σ6 H6 _ I6 q6) fun f s7 q7=>?_)
  have again:∀{σ7:St}{H7:Hp},Inv X (pins++pinsAt fp s5.heap) σ7 H7 s7->N σ7 H7->∃m,m<n/\∃i σ' H',Inv X pins σ' H' s7/\tn i s7.heap/\(∀b∈fp,H' b=none)/\W i m σ' H':=fun {σ7 H7} I7 n7=>by
   obtain⟨m',hm,w7⟩:=hN σ7 H7 n7
   refine⟨m',hm,i+1,σ7,H7,I7.unpinned,T.keep _ _ _ st5 fun b hb o e=>(I7.pin (b,o) (YK _ (YK _ (zT hb e)))).1,fun b hb=>?_,w7⟩
   obtain⟨o,e,d⟩:=T.obj _ _ st5 b hb
   exact(I7.pin (b,o) (YK _ (YK _ (zT hb e)))).2.1
  cases f with
  |next=>obtain⟨σ7,H7,I7,n7⟩:=q7;exact again I7 n7
  |cont=>obtain⟨σ7,H7,I7,n7⟩:=q7;exact again I7 n7
  |brk=>obtain⟨σ7,H7,I7,q7⟩:=q7;exact⟨σ7,H7,I7.unpinned,q7⟩
  |ret v=>obtain⟨x7,σ7,H7,I7,r7,q7⟩:=q7;exact⟨x7,σ7,H7,I7.unpinned,r7,q7⟩
end

/-! ### the forms one uses -/
/-- over a list that the body leaves as it is -/
theorem b0I {K:W.Frag}{a:Addr}{xs:List V}{g:TG}{tb:TS}{D:Ends}{σ:St}{H:Hp}(Pv:Nat->St->Hp->Prop)(h0:Pv 0 σ H)(hl:∀i σ H,i<=xs.length->Pv i σ H->SqL K H a xs)
  (hs:∀i x σ H,xs[i]? =some x->Pv i σ H->g x σ H fun σ2 H2=>tb { D with nx:=Pv (i+1),ct:=Pv (i+1),bk:=D.nx } σ2 H2) (hd:∀σ H,Pv xs.length σ H->D.nx σ H) :
  ∃ W:Nat->Nat->St->Hp->Prop,(∃m,W 0 m σ H)/\∀i m σ H,W i m σ H->
   ((Itl K a).stop i H/\D.nx σ H)\/((Itl K a).go i H/\∃N:St->Hp->Prop,(∀σ' H',N σ' H'->∃m',m'<m/\W (i+1) m' σ' H')/\∀x H',(Itl K a).yld i H x H'->g x σ H' fun σ2 H2=>tb { D with nx:=N,ct:=N,bk:=D.nx } σ2 H2):=by
 refine⟨fun i m σ H=>m=xs.length-i/\i<=xs.length/\Pv i σ H,⟨xs.length,by simp,YO _,h0⟩,?_⟩
 rintro i m σ H ⟨rfl,hi,p⟩
 have q:=hl i σ H hi p
 by_cases hlt:i<xs.length
 ·refine .inr ⟨⟨xs,xs[i],q,by simp[hlt]⟩,Pv (i+1),fun σ' H' p'=>⟨xs.length-(i+1),by omega,rfl,hlt,p'⟩,fun x H' y=>?_⟩
  obtain⟨e,y⟩:=y
  subst e
  exact hs i x σ _ (y xs q) p
 ·have e:i=xs.length:=by omega
  subst e
  exact .inl ⟨⟨xs,q,Ye _⟩,hd σ H p⟩
theorem yU {lo:Int}{n:Nat}{g:TG}{tb:TS}{D:Ends}{σ:St}{H:Hp}(Pv:Nat->St->Hp->Prop)(h0:Pv 0 σ H)
  (hs:∀i σ H,i<n->Pv i σ H->g (.int (lo+i)) σ H fun σ2 H2=>tb { D with nx:=Pv (i+1),ct:=Pv (i+1),bk:=D.nx } σ2 H2) (hd:∀σ H,Pv n σ H->D.nx σ H) :
  ∃ W:Nat->Nat->St->Hp->Prop,(∃m,W 0 m σ H)/\∀i m σ H,W i m σ H->
   ((Itr lo n).stop i H/\D.nx σ H)\/((Itr lo n).go i H/\∃N:St->Hp->Prop,(∀σ' H',N σ' H'->∃m',m'<m/\W (i+1) m' σ' H')/\∀x H',(Itr lo n).yld i H x H'->g x σ H' fun σ2 H2=>tb { D with nx:=N,ct:=N,bk:=D.nx } σ2 H2):=by
 refine⟨fun i m σ H=>m=n-i/\i<=n/\Pv i σ H,⟨n,by simp,YO _,h0⟩,?_⟩
 rintro i m σ H ⟨rfl,hi,p⟩
 by_cases hlt:i<n
 ·refine .inr ⟨hlt,Pv (i+1),fun σ' H' p'=>⟨n-(i+1),by omega,rfl,hlt,p'⟩,fun x H' y=>?_⟩
  obtain⟨e,y⟩:=y
  subst e y
  exact hs i σ _ hlt p
 ·have e:i=n:=by omega
  subst e
  exact .inl ⟨Ye _,hd σ H p⟩
end L2

namespace L2
open PySem PySem.Spec PyProof.Rows

abbrev R2:=V->V->Hp->VK->Prop
/-- a two-place operation on values:f is binaryOp op,inplaceOp op or compareOp op -/
def OpR (X:Cx)(f:Value->Value->Sem Value)(r:R2):Prop:=
 ∀ (pins:List (Addr×Obj))(s:Shared)(σ:St)(H:Hp)(x y:V)(v u:Value)(Q:VK),Inv X pins σ H s->RelV x v->RelV y u->r x y H Q->
  wpAny (model X.prog X.w) X.A (f v u) (EP X pins σ Q) X.xe s
/-- a one-place operation -/
def UnR (X:Cx)(f:Value->Sem Value)(r:V->Hp->VK->Prop):Prop:=
 ∀ (pins:List (Addr×Obj))(s:Shared)(σ:St)(H:Hp)(x:V)(v:Value)(Q:VK),Inv X pins σ H s->RelV x v->r x H Q->
  wpAny (model X.prog X.w) X.A (f v) (EP X pins σ Q) X.xe s
/-- a call of a value that is known (a builtin,a type) with values -/
def CallR (X:Cx)(f:Value)(r:List V->Hp->VK->Prop):Prop:=
 ∀ (pins:List (Addr×Obj))(s:Shared)(σ:St)(H:Hp)(xs:List V)(us:List Value)(Q:VK),Inv X pins σ H s->Vals xs us->r xs H Q->
  wpAny (model X.prog X.w) X.A (call f us) (EP X pins σ Q) X.xe s
def tOp (r:R2)(ta tb:TE):TE:=fun σ H Q=>ta σ H fun x H1=>tb σ H1 fun y H2=>r x y H2 Q
def tUn (r:V->Hp->VK->Prop)(ta:TE):TE:=fun σ H Q=>ta σ H fun x H1=>r x H1 Q
/-- ints in,under C,and a value out -/
def rI (C:Int->Int->Prop)(g:Int->Int->V):R2:=fun x y H Q=>∃i j,x= .int i/\y= .int j/\C i j/\Q (g i j) H
def rI0 (g:Int->Int->V):R2:=fun x y H Q=>∃i j,x= .int i/\y= .int j/\Q (g i j) H
def rU (g:Int->V):V->Hp->VK->Prop:=fun x H Q=>∃i,x= .int i/\Q (g i) H

section
variable {X:Cx}{a b c:Expr}{ta tb tc:TE}{pos:Pos}

theorem c5S (ha:PE X a ta)(hb:PE X b tb){pins:List (Addr×Obj)}{s:Shared}{σ:St}{H:Hp}{R:V->V->Hp->Prop}(I:Inv X pins σ H s)
  (h:ta σ H fun x H1=>tb σ H1 fun y H2=>R x y H2) {Q:Value->Shared->Prop} {f:Value->Value->Sem Value}
  (hf:∀v u s2 x y H2,Inv X pins σ H2 s2->RelV x v->RelV y u->R x y H2->wpAny (model X.prog X.w) X.A (f v u) Q X.xe s2) :
  wpAny (model X.prog X.w) X.A (eval a X.env) (fun v s₁=>wpAny (model X.prog X.w) X.A (eval b X.env) (fun u s₂=>wpAny (model X.prog X.w) X.A (f v u) Q X.xe s₂) X.xe s₁) X.xe s:=by
 refine thn (ha pins s σ H _ I h) fun v s1 hz9=>?_
 obtain⟨x,H1,I1,r1,q1⟩:=hz9
 refine thn (hb pins s1 σ H1 _ I1 q1) fun u s2 hz9=>?_
 obtain⟨y,H2,I2,r2,q2⟩:=hz9
 exact hf v u s2 x y H2 I2 r1 r2 q2

theorem bY {op:Operator}{r:R2}(ho:OpR X (binaryOp op) r)(ha:PE X a ta)(hb:PE X b tb):PE X (.BinOp a op b pos) (tOp r ta tb):=by
 intro pins s σ H Q I h
 exact wpAny_BinOp (c5S ha hb I h fun v u s2 x y H2 I2 rx ry q=>ho pins s2 σ H2 x y v u Q I2 rx ry q)
theorem b9Y {op:UnaryOp}{r:V->Hp->VK->Prop}(ho:UnR X (unaryOp op) r)(ha:PE X a ta):PE X (.UnaryOp op a pos) (tUn r ta):=by
 intro pins s σ H Q I h
 exact UnaryOp_ (thn (ha pins s σ H _ I h) fun v s1 ⟨x,H1,I1,r1,q1⟩=>ho pins s1 σ H1 x v Q I1 r1 q1)
/-! ### ints -/
theorem opI {f:Value->Value->Sem Value}{C:Int->Int->Prop}{g:Int->Int->Int}
  (rule:∀(i j:Int)(t u:Tok)(s:Shared)(Q:Value->Shared->Prop)(E:Value->Shared->Prop),C i j->Q (.int (g i j) s.toks) { s with toks:=s.toks+1 }->wpAny (model X.prog X.w) X.A (f (.int i t) (.int j u)) Q E s) :
  OpR X f (rI C fun i j=> .int (g i j)):=by
 intro pins s σ H x y v u Q I rx ry h
 obtain⟨i,j,rfl,rfl,hc,q⟩:=h
 obtain⟨t,rfl⟩:=rx
 obtain⟨t',rfl⟩:=ry
 exact rule i j t t' s _ _ hc ⟨.int (g i j),H,I.tok _,⟨_,rfl⟩,q⟩
theorem c6S {f:Value->Value->Sem Value}{g:Int->Int->Int}
  (rule:∀(i j:Int)(t u:Tok)(s:Shared)(Q:Value->Shared->Prop)(E:Value->Shared->Prop),Q (.int (g i j) s.toks) { s with toks:=s.toks+1 }->wpAny (model X.prog X.w) X.A (f (.int i t) (.int j u)) Q E s) :
  OpR X f (rI0 fun i j=> .int (g i j)):=by
 intro pins s σ H x y v u Q I rx ry h
 obtain⟨i,j,rfl,rfl,q⟩:=h
 obtain⟨t,rfl⟩:=rx
 obtain⟨t',rfl⟩:=ry
 exact rule i j t t' s _ _ ⟨.int (g i j),H,I.tok _,⟨_,rfl⟩,q⟩
theorem c2R {f:Value->Value->Sem Value}{g:Int->Int->Bool}
  (rule:∀(i j:Int)(t u:Tok)(s:Shared)(Q:Value->Shared->Prop)(E:Value->Shared->Prop),Q (.bool (g i j)) s->wpAny (model X.prog X.w) X.A (f (.int i t) (.int j u)) Q E s) :
  OpR X f (rI0 fun i j=> .bl (g i j)):=by
 intro pins s σ H x y v u Q I rx ry h
 obtain⟨i,j,rfl,rfl,q⟩:=h
 obtain⟨t,rfl⟩:=rx
 obtain⟨t',rfl⟩:=ry
 exact rule i j t t' s _ _ ⟨.bl (g i j),H,I,rfl,q⟩

theorem c4X:OpR X (binaryOp .Add) (rI0 fun i j=> .int (i+j)):=c6S fun _ _ _ _ _ _ _ q=>add_int q
theorem c4T:OpR X (binaryOp .Sub) (rI0 fun i j=> .int (i-j)):=c6S fun _ _ _ _ _ _ _ q=>sub_int q
/-- % by a positive divisor of any size -/
theorem c4U:OpR X (binaryOp .Mod) (rI (fun _ j=>0<j) fun i j=> .int (i % j)):=opI fun i j _ _ _ _ _ hc q=>by
 have h1:(0:Int)<j:=hc
 exact mod_int' (by omega) (by rw[Int.fmod_eq_emod_of_nonneg i (by omega)];exact q)
theorem unI {f:Value->Sem Value}{g:Int->Int}
  (rule:∀(i:Int)(t:Tok)(s:Shared)(Q:Value->Shared->Prop)(E:Value->Shared->Prop),Q (.int (g i) s.toks) { s with toks:=s.toks+1 }->wpAny (model X.prog X.w) X.A (f (.int i t)) Q E s) :
  UnR X f (rU fun i=> .int (g i)):=by
 intro pins s σ H x v Q I rx h
 obtain⟨i,rfl,q⟩:=h
 obtain⟨t,rfl⟩:=rx
 exact rule i t s _ _ ⟨.int (g i),H,I.tok _,⟨_,rfl⟩,q⟩
theorem c4D:UnR X (unaryOp .USub) (rU fun i=> .int (-i)):=unI fun _ _ _ _ _ q=>neg_int q
/-! ### bools among ints:n += (a<b) -/
end

/-! ### comparisons -/
/-- the scalars that == tells apart as data does -/
def scal:V->V->Bool
 |.non,.non=>true | .non,.int _=>true | .int _,.non=>true | .non,.bl _=>true | .bl _,.non=>true | .non,.str _=>true | .str _,.non=>true
 |.int _,.int _=>true | .bl _,.bl _=>true | .str _,.str _=>true | .byt _,.byt _=>true
 |.int _,.str _=>true | .str _,.int _=>true | .bl _,.str _=>true | .str _,.bl _=>true
 |_,_=>false
def rEq:R2:=fun x y H Q=>scal x y=true/\Q (.bl (decide (x=y))) H
def rNe:R2:=fun x y H Q=>scal x y=true/\Q (.bl (!decide (x=y))) H

theorem b6Z {i j:Int}:decide (V.int i=V.int j)=(i == j):=by
 rw[Xr]
 simp
theorem c1K {i j:Bool}:decide (V.bl i=V.bl j)=(i == j):=by
 rw[Xr]
 simp
theorem b6Y {i j:Str}:decide (V.str i=V.str j)=(i == j):=by
 rw[Xr]
 simp
theorem b7A {i j:Array UInt8}:decide (V.byt i=V.byt j)=(i.toList == j.toList):=by
 rw[Xr]
 cases i
 cases j
 simp

section
variable {X:Cx}{a b c:Expr}{ta tb tc:TE}{pos:Pos}
theorem dX {pins:List (Addr×Obj)}{σ:St}{H:Hp}{s:Shared}{Q:VK}{k k':Bool}(I:Inv X pins σ H s)(q:Q (.bl k) H)(e:k=k'):EP X pins σ Q (.bool k') s:=by
 subst e
 exact⟨.bl k,H,I,rfl,q⟩
theorem c6R:OpR X (compareOp .Eq) rEq:=by
 intro pins s σ H x y v u Q I rx ry h
 obtain⟨hs,q⟩:=h
 cases x with
 | non=>
  cases rx
  cases y with
  |non=>cases ry;exact PySem.EqNone.eq_none_none (dX I q (by simp))
  |bl j=>cases ry;exact PySem.EqNone.eq_none_bool (dX I q (by simp))
  |int j=>obtain⟨t',rfl⟩:=ry;exact PySem.EqNone.eq_none_int (dX I q (by simp))
  |str j=>obtain⟨t',rfl⟩:=ry;exact PySem.EqNone.eq_none_str (dX I q (by simp))
  |_=>exact absurd (show false=true from hs) Yg
 | bl i=>
  cases rx
  cases y with
  |non=>cases ry;exact PySem.EqNone.eq_bool_none (dX I q (by simp))
  |bl j=>cases ry;exact eq_bool (dX I q c1K)
  |str j=>obtain⟨t',rfl⟩:=ry;exact PySem.EqMixed.eq_bool_str (dX I q (by simp))
  |_=>exact absurd (show false=true from hs) Yg
 | int i=>
  obtain⟨t,rfl⟩:=rx
  cases y with
  |non=>cases ry;exact PySem.EqNone.eq_int_none (dX I q (by simp))
  |int j=>obtain⟨t',rfl⟩:=ry;exact eq_int (dX I q b6Z)
  |str j=>obtain⟨t',rfl⟩:=ry;exact PySem.EqMixed.eq_int_str (dX I q (by simp))
  |_=>exact absurd (show false=true from hs) Yg
 | str i=>
  obtain⟨t,rfl⟩:=rx
  cases y with
  |non=>cases ry;exact PySem.EqNone.eq_str_none (dX I q (by simp))
  |bl j=>cases ry;exact PySem.EqMixed.eq_str_bool (dX I q (by simp))
  |int j=>obtain⟨t',rfl⟩:=ry;exact PySem.EqMixed.eq_str_int (dX I q (by simp))
  |str j=>obtain⟨t',rfl⟩:=ry;exact eq_str (dX I q b6Y)
  |_=>exact absurd (show false=true from hs) Yg
 | byt i=>
  obtain⟨t,rfl⟩:=rx
  cases y with
  |byt j=>obtain⟨t',rfl⟩:=ry;exact W.eq_bytes (dX I q b7A)
  |_=>exact absurd (show false=true from hs) Yg
 |_=>cases y <;> exact absurd (show false=true from hs) Yg
theorem c6M:OpR X (compareOp .NotEq) rNe:=by
 intro pins s σ H x y v u Q I rx ry h
 obtain⟨hs,q⟩:=h
 cases x with
 | non=>
  cases rx
  cases y with
  |non=>cases ry;exact PySem.EqNone.ne_none_none (dX I q (by simp))
  |bl j=>cases ry;exact PySem.EqNone.ne_none_bool (dX I q (by simp))
  |int j=>obtain⟨t',rfl⟩:=ry;exact PySem.EqNone.ne_none_int (dX I q (by simp))
  |str j=>obtain⟨t',rfl⟩:=ry;exact PySem.EqNone.ne_none_str (dX I q (by simp))
  |_=>exact absurd (show false=true from hs) Yg
 | bl i=>
  cases rx
  cases y with
  |non=>cases ry;exact PySem.EqNone.ne_bool_none (dX I q (by simp))
  |bl j=>cases ry;exact ne_bool (dX I q (Yy not c1K))
  |str j=>obtain⟨t',rfl⟩:=ry;exact PySem.EqMixed.ne_bool_str (dX I q (by simp))
  |_=>exact absurd (show false=true from hs) Yg
 | int i=>
  obtain⟨t,rfl⟩:=rx
  cases y with
  |non=>cases ry;exact PySem.EqNone.ne_int_none (dX I q (by simp))
  |int j=>obtain⟨t',rfl⟩:=ry;exact ne_int (dX I q (Yy not b6Z))
  |str j=>obtain⟨t',rfl⟩:=ry;exact PySem.EqMixed.ne_int_str (dX I q (by simp))
  |_=>exact absurd (show false=true from hs) Yg
 | str i=>
  obtain⟨t,rfl⟩:=rx
  cases y with
  |non=>cases ry;exact PySem.EqNone.ne_str_none (dX I q (by simp))
  |bl j=>cases ry;exact PySem.EqMixed.ne_str_bool (dX I q (by simp))
  |int j=>obtain⟨t',rfl⟩:=ry;exact PySem.EqMixed.ne_str_int (dX I q (by simp))
  |str j=>obtain⟨t',rfl⟩:=ry;exact ne_str (dX I q (Yy not b6Y))
  |_=>exact absurd (show false=true from hs) Yg
 | byt i=>
  obtain⟨t,rfl⟩:=rx
  cases y with
  |byt j=>obtain⟨t',rfl⟩:=ry;exact W.ne_bytes (dX I q (Yy not b7A))
  |_=>exact absurd (show false=true from hs) Yg
 |_=>cases y <;> exact absurd (show false=true from hs) Yg

theorem c6N:OpR X (compareOp .Lt) (rI0 fun i j=> .bl (decide (i<j))):=c2R fun _ _ _ _ _ _ _ q=>lt_int q
theorem c6O:OpR X (compareOp .LtE) (rI0 fun i j=> .bl (decide (i<=j))):=c2R fun _ _ _ _ _ _ _ q=>le_int q
theorem c6P:OpR X (compareOp .Gt) (rI0 fun i j=> .bl (decide (j<i))):=c2R fun _ _ _ _ _ _ _ q=>gt_int q
theorem c6Q:OpR X (compareOp .GtE) (rI0 fun i j=> .bl (decide (j<=i))):=c2R fun _ _ _ _ _ _ _ q=>ge_int q
/-- the one string within the other -/
theorem b7T:OpR X (compareOp .In) (fun x y H Q=>∃i j,x= .str i/\y= .str j/\Q (.bl (!(Builtin.Str.occurrences j i 0 j.length 1).isEmpty)) H):=by
 intro pins s σ H x y v u Q I rx ry h
 obtain⟨i,j,rfl,rfl,q⟩:=h
 obtain⟨t,rfl⟩:=rx
 obtain⟨t',rfl⟩:=ry
 exact in_str (dX I q rfl)

/-- is None,is not None:the right side a value none -/
theorem c4V:OpR X (compareOp .Is) (fun x y H Q=>y= .non/\Q (.bl (decide (x= .non))) H):=by
 intro pins s σ H x y v u Q I rx ry h
 obtain⟨rfl,q⟩:=h
 cases ry
 refine is_none_gen (dX I q ?_)
 cases x <;> first
  |(cases rx;rfl)
  |(obtain⟨t,rfl⟩:=rx;rfl)
theorem b2V:OpR X (compareOp .NotIn) (fun x y H Q=>∃i j,x= .str i/\y= .str j/\Q (.bl (!(!(Builtin.Str.occurrences j i 0 j.length 1).isEmpty))) H):=by
 intro pins s σ H x y v u Q I rx ry h
 obtain⟨i,j,rfl,rfl,q⟩:=h
 obtain⟨t,rfl⟩:=rx
 obtain⟨t',rfl⟩:=ry
 exact notIn_str (dX I q rfl)
theorem bG (b:Expr){op:CmpOp}(h:op≠ .In:=by decide)(h2:op≠ .NotIn:=by decide):behindInMarks op b=false:=by
 have e1:(op == CmpOp.In)=false:=by cases op <;> first | rfl | exact absurd rfl h
 have e2:(op == CmpOp.NotIn)=false:=by cases op <;> first | rfl | exact absurd rfl h2
 cases b <;> simp[behindInMarks,e1,e2]
/-- a comparison as a value;hm:bG b,or (for in,not in) by with_unfolding_all rfl -/
theorem pX {op:CmpOp}{r:R2}(ho:OpR X (compareOp op) r)(ha:PE X a ta)(hb:PE X b tb)(hm:behindInMarks op b=false):PE X (.Compare a [op] [b] pos) (tOp r ta tb):=by
 intro pins s σ H Q I h
 exact wpAny_Compare1 (c5S ha hb I h fun v u s2 x y H2 I2 rx ry q=>ho pins s2 σ H2 x y v u Q I2 rx ry q) hm
/-- a reading of a value as a test -/
def tTest (t:TE):TT:=fun σ H Q=>t σ H fun x H'=>∃k,x= .bl k/\Q k H'
theorem c2F {op:CmpOp}{r:R2}(ho:OpR X (compareOp op) r)(ha:PE X a ta)(hb:PE X b tb)(hm:behindInMarks op b=false):PT X (.Compare a [op] [b] pos) (tTest (tOp r ta tb)):=by
 intro pins s σ H Q I h
 refine wpAny_isTrue_Compare1 (thn (ha pins s σ H _ I h) fun v s1 ⟨x,H1,I1,r1,q1⟩=>thn (hb pins s1 σ H1 _ I1 q1) fun u s2 ⟨y,H2,I2,r2,q2⟩=>
  thn (ho pins s2 σ H2 x y v u _ I2 r1 r2 q2) fun c s3 ⟨z,H3,I3,r3,k,e,q3⟩=>?_) hm
 subst e
 cases r3
 exact Y0 ⟨H3,I3,q3⟩
/-- a op1 b op2 c -/
def tChain (r r':R2)(ta tb tc:TE):TE:=fun σ H Q=>ta σ H fun x H1=>tb σ H1 fun y H2=>r x y H2 fun z H3=>∃k,z= .bl k/\
 (if k=true then tc σ H3 fun w' H4=>r' y w' H4 Q else Q (.bl false) H3)
theorem c0C {op op':CmpOp}{r r':R2}(ho:OpR X (compareOp op) r)(ho':OpR X (compareOp op') r')(ha:PE X a ta)(hb:PE X b tb)(hc:PE X c tc)
  (hm:lastMarks [op,op'] [b,c]=false:=by with_unfolding_all rfl):PE X (.Compare a [op,op'] [b,c] pos) (tChain r r' ta tb tc):=by
 intro pins s σ H Q I h
 refine Compare_chain (thn (ha pins s σ H _ I h) fun v s1 ⟨x,H1,I1,r1,q1⟩=>chain_link (thn (hb pins s1 σ H1 _ I1 q1) fun u s2 ⟨y,H2,I2,r2,q2⟩=>
  thn (ho pins s2 σ H2 x y v u _ I2 r1 r2 q2) fun d s3 ⟨z,H3,I3,r3,k,e,q3⟩=>?_)) hm
 subst e
 cases r3
 refine Y0 ?_
 cases k with
 |false=>exact ite_ff ⟨.bl false,H3,I3,rfl,q3⟩
 |true=>exact ite_tt (chain_last (thn (hc pins s3 σ H3 _ I3 q3) fun w' s4 ⟨z',H4,I4,r4,q4⟩=>ho' pins s4 σ H4 y z' u w' Q I4 r2 r4 q4))
theorem b9V {op op':CmpOp}{r r':R2}(ho:OpR X (compareOp op) r)(ho':OpR X (compareOp op') r')(ha:PE X a ta)(hb:PE X b tb)(hc:PE X c tc)
  (hm:lastMarks [op,op'] [b,c]=false:=by with_unfolding_all rfl):PT X (.Compare a [op,op'] [b,c] pos) (tTest (tChain r r' ta tb tc)):=by
 intro pins s σ H Q I h
 refine isTrue_chain (thn (ha pins s σ H _ I h) fun v s1 ⟨x,H1,I1,r1,q1⟩=>test_link (thn (hb pins s1 σ H1 _ I1 q1) fun u s2 ⟨y,H2,I2,r2,q2⟩=>
  thn (ho pins s2 σ H2 x y v u _ I2 r1 r2 q2) fun d s3 ⟨z,H3,I3,r3,k,e,q3⟩=>?_)) hm
 subst e
 cases r3
 refine Y0 ?_
 cases k with
 | false=>
  obtain⟨k',e',q'⟩:=q3
  cases e'
  exact ite_ff ⟨H3,I3,q'⟩
 | true=>
  refine ite_tt (test_last (thn (hc pins s3 σ H3 _ I3 q3) fun w' s4 ⟨z',H4,I4,r4,q4⟩=>thn (ho' pins s4 σ H4 y z' u w' _ I4 r2 r4 q4) fun d' s5 ⟨z2,H5,I5,r5,k2,e2,q5⟩=>?_))
  subst e2
  cases r5
  exact Y0 ⟨H5,I5,q5⟩

/-! ### truth -/
theorem a7J:(sizeLine:Nat)<2 ^ 63:=by rw[sizeLine_eq];decide
/-! ### strs and bytes -/
theorem b5M:OpR X (binaryOp .Add) (fun x y H Q=>∃i j,x= .str i/\y= .str j/\i.length+j.length<=sizeLine/\Q (.str (i++j)) H):=by
 intro pins s σ H x y v u Q I rx ry h
 obtain⟨i,j,rfl,rfl,hz,q⟩:=h
 obtain⟨t,rfl⟩:=rx
 obtain⟨t',rfl⟩:=ry
 exact add_str (fun t' tk=>⟨.str (i++j),H,I.tok _,⟨_,rfl⟩,q⟩) hz
/-! ### scalar builtins,by CallR -/
theorem vals1 {x:V}{us:List Value}(r:Vals [x] us):∃u,us= [u]/\RelV x u:=by
 cases r with
 |cons r1 r2=>cases r2;exact⟨_,rfl,r1⟩
theorem vals2 {x y:V}{us:List Value}(r:Vals [x,y] us):∃u w',us= [u,w']/\RelV x u/\RelV y w':=by
 cases r with
 | cons r1 r2=>
  cases r2 with
  |cons r3 r4=>cases r4;exact⟨_,_,rfl,r1,r3⟩
theorem b8V (hc:X.calm=true):CallR X (.builtin "max") (fun xs H Q=>∃i j,xs= [.int i,.int j]/\Q (.int (if j > i then j else i)) H):=by
 intro pins s σ H xs us Q I r h
 obtain⟨i,j,rfl,q⟩:=h
 obtain⟨u,w',rfl,⟨t,rfl⟩,⟨t',rfl⟩⟩:=vals2 r
 refine max_two_ints (I.ok.hd hc) fun h' tk k=>⟨_,H,I.kept k,?_,q⟩
 by_cases hj:j > i
 ·rw[if_pos hj,if_pos hj];exact⟨_,rfl⟩
 ·rw[if_neg hj,if_neg hj];exact⟨_,rfl⟩
theorem b8U (hc:X.calm=true):CallR X (.builtin "min") (fun xs H Q=>∃i j,xs= [.int i,.int j]/\Q (.int (if j<i then j else i)) H):=by
 intro pins s σ H xs us Q I r h
 obtain⟨i,j,rfl,q⟩:=h
 obtain⟨u,w',rfl,⟨t,rfl⟩,⟨t',rfl⟩⟩:=vals2 r
 refine min_two_ints (I.ok.hd hc) fun h' tk k=>⟨_,H,I.kept k,?_,q⟩
 by_cases hj:j<i
 ·rw[if_pos hj,if_pos hj];exact⟨_,rfl⟩
 ·rw[if_neg hj,if_neg hj];exact⟨_,rfl⟩
theorem b3J:CallR X (.type "str") (fun xs H Q=>∃i,xs= [.int i]/\i.natAbs.log2<1920/\Q (.str (toString i)) H):=by
 intro pins s σ H xs us Q I r h
 obtain⟨i,rfl,hz,q⟩:=h
 obtain⟨u,rfl,t,rfl⟩:=vals1 r
 exact PySem.P.str_of_int hz ⟨.str _,H,I.tok _,⟨_,rfl⟩,q⟩
end
end L2

namespace L2
open PySem PySem.Spec PyProof.Rows

/-! ### an instance,its attributes a map -/
structure ObjM (h:Heap)(x dx C:Addr)(mA:Str->Option Value):Prop where
 obj:h.get? x=some (W.instObj C dx)
 ns:h.Ns1 dx mA
 ne:dx≠x

theorem b8E {h:Heap}{dx:Addr}{mA:Str->Option Value}(n:h.Ns1 dx mA):∃od,h.get? dx=some od/\∀name,W.lookIn name od=some (mA name):=by
 obtain⟨o,es,ep,ho,hd,hk,_,hm⟩:=n
 refine⟨o,ho,fun name=>?_⟩
 have e:=hm name
 unfold nsFind findBy at e
 rw[<-Array.find?_toList]at e
 unfold W.lookIn
 rw[hd]
 dsimp only
 split
 ·rename_i y q
  rw[q]at e
  exact Yy some e
 ·rename_i q
  rw[q]at e
  have a:es.toList.any (·.refKey)=false:=by
   rw[List.any_eq_false]
   intro y hy
   obtain⟨z,t,hkey⟩:=hk y (Array.mem_toList_iff.mp hy)
   simp[DictEntry.refKey,hkey]
  have a':¬ es.toList.any (·.refKey)=true:=by rw[a];exact Yg
  rw[if_neg a']
  exact Yy some e

theorem ObjM.look {h:Heap}{x dx C:Addr}{mA:Str->Option Value}(I:ObjM h x dx C mA):∃od,W.InstAt h x (W.instObj C dx) C (some od)/\∀name,W.lookIn name od=some (mA name):=
 let ⟨od,ho,hl⟩:=b8E I.ns
 ⟨od,⟨I.obj,rfl,rfl,ho⟩,hl⟩

section
variable {prog:Program}{w:World}{A:Around}{E:Value->Shared->Prop}{s:Shared}{K:W.Frag}{x dx C f:Addr}{mA:Str->Option Value}{name:Str}{v:Value}

theorem c3A {expr:Bool}{Q:Value->Shared->Prop}(X:K.In s.heap)(I:ObjM s.heap x dx C mA)(hg:W.plainGet K C name=true)(hh:W.hasDictIn K C=true)
  (ha:W.findIn K (.ref C) name=some none) (hv:mA name=some v) (hv':W.handedIn v=true) (h:Q v { s with toks:=s.toks+1 }) :
  wpAny (model prog w) A (getAttr (.ref x) name expr) Q E s:=by
 obtain⟨od,J,hl⟩:=I.look
 exact W.get_value X J (W.plainGet_of hg).1 (W.findObj_own hh ha rfl (by rw[hl,hv])) hv' h

theorem c0W {pl:Sem Bool}{Q:Value×List Value->Shared->Prop}(X:K.In s.heap)(I:ObjM s.heap x dx C mA)(hg:W.plainGet K C name=true)
  (hf:W.findIn K (.ref C) name=some (some (.ref f))) (ht:W.isFn K (.ref f)=true) (hv:mA name=none) (h:Q (.ref f, [.ref x]) s) :
  wpAny (model prog w) A (getMethod (.ref x) name pl) Q E s:=by
 obtain⟨od,J,hl⟩:=I.look
 exact W.method_fn X J (W.plainGet_of hg).1 (W.plainGet_of hg).2 hf (Y8.mp ht) (by show (W.lookIn name od).map (·.isSome)=some false;rw[hl,hv];rfl) h

theorem c2B {ns:List Str}{Q:Unit->Shared->Prop}(X:K.In s.heap)(I:ObjM s.heap x dx C mA)
  (hs:W.findIn K (.ref C) "__setattr__"=some (some (.builtin "object.__setattr__"))) (hp:W.plainOver K C=true) (ht:W.takerIn K C name=some none) (hh:W.hasDictIn K C=true)
  (hw:PySem.Within mA ns) (hsz:ns.length<=sizeLine)
  (h:∀h',ObjM h' x dx C (fun y=>if y=name then some v else mA y)->Heap.SameBut dx s.heap h'->Q () { s with heap:=h',toks:=s.toks+2 }) :
  wpAny (model prog w) A (setAttr (.ref x) name v) Q E s:=by
 obtain⟨od,J,hl⟩:=I.look
 refine W.set_plain X J hs (W.osa_open (s:={ s with toks:=s.toks+1 }) (r:=none) X J hp ht fun b=>?_)
 obtain⟨cd,hc,hd'⟩:=W.any_some hh
 have hx:s.heap.get? x=some ⟨.ref C,some dx,.plain, #[]⟩:=I.obj
 refine Yb (YI (Yb (Yb (XS hx (Yb (W.Looks.here (s:={ s with toks:=s.toks+1 }) (W.looks_clsIn X hc) ?_))))))
 rw[hd']
 refine YI (a:=some dx) (Yb (YI (Yb ?_)))
 refine wpAny_nsSet1 (s:={ s with toks:=s.toks+1 }) I.ns fun h' hn2 hs2=>?_
 obtain⟨oD,esD,epD,hoD,hdD,hcD⟩:=hn2.count (PySem.Within.cons name v hw)
 refine Yb (wpAny_lookBehind hoD (by rw[hdD];exact pastItsLine_dict (Yn hcD (by rw[Ys];omega))) ?_)
 exact YI (h _ ⟨(hs2.2 _ (Ne.symm I.ne)).trans I.obj,hn2,I.ne⟩ hs2)

/-- C(..):the dict at the heap's end,the instance behind it;then its __init__ -/
theorem c0O {R:Result->Shared->Prop}{vs:List Value}{kw:List (Str×Value)}(X:K.In s.heap)(hm:W.makesIn K C=true)
  (hi:W.findIn K (.ref C) "__init__"=some (some (.ref f))) (hf:W.typeIn K (.ref f)=some (.type "function"))
  (h :codeAny (model prog w) (A.under (.builtin "type.__call__" ⟨.ref C::vs,kw⟩)) (.call (.ref f) ⟨.ref (s.heap.objs.size+1)::vs,kw⟩) (W.InitBack (s.heap.objs.size+1) R)
   { s with heap:=(s.heap.push W.emptyDict).push (W.instObj C s.heap.objs.size) }) :
  codeAny (model prog w) A (.call (.ref C) ⟨vs,kw⟩) R s:=by
 obtain⟨hh,g,d,t,os⟩:=s
 exact W.make_core (W.makes_of X hm) (Xg X hi) (fun self=>W.bind_fn X self hf) (.inl rfl) h
end

/-! ### the attributes as a list of pairs -/
def putF (f:Str)(v:V):List (Str×V)->List (Str×V)
 |[]=>[(f,v)]
 |(g,x)::r=>if g=f then (g,v)::r else (g,x)::putF f v r
theorem a8E (f g:Str)(v:V):∀fs:List (Str×V),(putF f v fs).lookup g=if g=f then some v else fs.lookup g
 | [] =>by
  show List.lookup g [(f,v)]=_
  by_cases h:g=f
  ·have hb:(g == f)=true:=Y8.mpr h
   simp only[List.lookup,hb,if_pos h]
  ·have hb:(g == f)=false:=Y6.mpr h
   simp only[List.lookup,hb,if_neg h]
 | (k, x)::r=>by
  have ih:=a8E f g v r
  rw[show putF f v ((k,x)::r)=(if k=f then (k,v)::r else (k,x)::putF f v r) from rfl]
  by_cases hk:k=f
  ·rw [if_pos hk]
   by_cases h:g=k
   ·have hb:(g == k)=true:=Y8.mpr h
    simp only[List.lookup,hb,if_pos (h.trans hk)]
   ·have hb:(g == k)=false:=Y6.mpr h
    simp only[List.lookup,hb,if_neg (fun e:g=f=>h (e.trans hk.symm))]
  ·rw [if_neg hk]
   by_cases h:g=k
   ·have hb:(g == k)=true:=Y8.mpr h
    simp only[List.lookup,hb,if_neg (fun e:g=f=>hk (h.symm.trans e))]
   ·have hb:(g == k)=false:=Y6.mpr h
    simp only[List.lookup,hb]
    exact ih
theorem a7K (f:Str)(v:V):∀fs:List (Str×V),f∈(putF f v fs).map (·.1)/\∀g,g∈fs.map (·.1)->g∈(putF f v fs).map (·.1)
 |[]=>⟨by simp[putF],fun g h=>by simp at h⟩
 | (k, x)::r=>by
  obtain⟨i1,i2⟩:=a7K f v r
  rw[show putF f v ((k,x)::r)=(if k=f then (k,v)::r else (k,x)::putF f v r) from rfl]
  by_cases hk:k=f
  ·rw[if_pos hk]
   subst hk
   exact⟨by simp,fun g h=>by simpa using h⟩
  ·rw [if_neg hk]
   refine⟨?_,fun g h=>?_⟩
   ·rw[Yo]
    exact Yf _ i1
   ·rw[Yo]at h ⊢
    rcases Yv.mp h with e | e
    ·exact Yv.mpr (.inl e)
    ·exact Yf _ (i2 g e)
theorem a8G (f:Str)(v:V):∀fs:List (Str×V),(putF f v fs).length<=fs.length+1
 |[]=>by simp[putF]
 | (k,x)::r=>by
  have ih:=a8G f v r
  rw[show putF f v ((k,x)::r)=(if k=f then (k,v)::r else (k,x)::putF f v r) from rfl]
  by_cases hk:k=f
  ·rw[if_pos hk,Ys,Ys];omega
  ·rw[if_neg hk,Ys,Ys];omega

theorem RelO.some_of {v:V}{o:Option Value}(r:RelO (some v) o):∃u,o=some u/\RelV v u:=by
 cases o with
 |none=>exact(show False from r).elim
 |some u=>exact⟨u,rfl,r⟩
theorem RelO.none_of {o:Option Value}(r:RelO none o):o=none:=by
 cases o with
 |none=>rfl
 |some u=>exact(show False from r).elim
theorem b1X {v:V}{u:Value}(r:RelV v u):W.handedIn u=true:=by
 cases v with
 |non=>cases (show u=Value.none from r);rfl
 |bl b=>cases (show u=Value.bool b from r);rfl
 |int i=>obtain⟨t,e⟩:=(show ∃t,u=Value.int i t from r);cases e;rfl
 |str x=>obtain⟨t,e⟩:=(show ∃t,u=Value.str x t from r);cases e;rfl
 |byt b=>obtain⟨t,e⟩:=(show ∃t,u=Value.bytes b t from r);cases e;rfl
 |flt b=>obtain⟨t,e⟩:=(show ∃t,u=Value.float b t from r);cases e;rfl
 |ref a=>cases (show u=Value.ref a from r);rfl
 |ty n=>cases (show u=Value.type n from r);rfl

section
variable {P:Program}{w:World}{H H':Hp}{h h':Heap}{a C dx:Addr}{fs fs':List (Str×V)}
theorem a9F (hok:HOk P w H h)(e:H a=some (.ins C dx fs)):∃mA,ObjM h a dx C mA/\(∀f,RelO (fs.lookup f) (mA f))/\PySem.Within mA (fs.map (·.1))/\fs.length<=1000/\H dx=some (.own a):=by
 obtain⟨d,z,ne,ob,mA,n,r,q⟩:=(show ObjOk P w H h a (.ins C dx fs) from hok a _ e)
 exact⟨mA,⟨ob,n,ne⟩,r,q,z,d⟩
end

/-! ### what of the text a class must have -/
structure Cls (K:W.Frag)(C:Addr):Prop where
 pg:W.plainGet K C Str.empty=true
 hd:W.hasDictIn K C=true
 po:W.plainOver K C=true
 sa:W.findIn K (.ref C) "__setattr__"=some (some (.builtin "object.__setattr__"))
theorem Cls.get {K:W.Frag}{C:Addr}(c:Cls K C)(f:Str):W.plainGet K C f=true:=c.pg
/-- no class of it has the name -/
def NoAttr (K:W.Frag)(C:Addr)(f:Str):Prop:=W.findIn K (.ref C) f=some none
theorem NoAttr.taker {K:W.Frag}{C:Addr}{f:Str}(n:NoAttr K C f):W.takerIn K C f=some none:=by
 unfold W.takerIn
 rw[show W.findIn K (.ref C) f=some none from n]
 rfl
/-- a method:a plain def of the class or of one above it -/
structure Meth (K:W.Frag)(C:Addr)(m:Str)(f:Addr):Prop where
 at_:W.findIn K (.ref C) m=some (some (.ref f))
 fn:W.isFn K (.ref f)=true
 kp:W.keepIn K (.ref f)=true

section
variable {X:Cx}{pins:List (Addr×Obj)}{σ:St}{H:Hp}{s:Shared}{a C dx:Addr}{fs:List (Str×V)}{f:Str}{v:V}{A:Around}{E:Value->Shared->Prop}

theorem b5Y {b:Bool}{Q:Value->Shared->Prop}(I:Inv X pins σ H s)(e:H a=some (.ins C dx fs))(c:Cls X.K C)(n:NoAttr X.K C f)(l:fs.lookup f=some v)
  (h:∀u s',Inv X pins σ H s'->RelV v u->Q u s'):wpAny (model X.prog X.w) A (getAttr (.ref a) f b) Q E s:=by
 obtain⟨mA,O,r,_,_,_⟩:=a9F I.hok e
 obtain⟨u,hu,ru⟩:=RelO.some_of (v:=v) (o:=mA f) (by rw[<-l];exact r f)
 exact c3A I.kIn O (c.get f) c.hd n hu (b1X ru) (h u _ (I.tok _) ru)

theorem zW {m:Str}{g:Addr}{pl:Sem Bool}{Q:Value×List Value->Shared->Prop}(I:Inv X pins σ H s)(e:H a=some (.ins C dx fs))(c:Cls X.K C)(k:Meth X.K C m g)(l:fs.lookup m=none)
  (h:Q (.ref g, [.ref a]) s):wpAny (model X.prog X.w) A (getMethod (.ref a) m pl) Q E s:=by
 obtain⟨mA,O,r,_,_,_⟩:=a9F I.hok e
 have hn:mA m=none:=RelO.none_of (by rw[<-l];exact r m)
 exact c0W I.kIn O (c.get m) k.at_ k.fn hn h

theorem b5K {y:V}{u:Value}{Q:Unit->Shared->Prop}(I:Inv X pins σ H s)(e:H a=some (.ins C dx fs))(c:Cls X.K C)(n:NoAttr X.K C f)(hl:fs.length<1000)(ry:RelV y u)
  (h:∀s',Inv X pins σ (upd H a (.ins C dx (putF f y fs))) s'->Q () s'):wpAny (model X.prog X.w) A (setAttr (.ref a) f u) Q E s:=by
 obtain⟨mA,O,r,wi,_,ho⟩:=a9F I.hok e
 have hz:(fs.map (·.1)).length<=sizeLine:=by rw[Ya,sizeLine_eq];omega
 refine c2B I.kIn O c.sa c.po n.taker c.hd wi hz fun h' O' sb=>h _ ?_
 have hd:∃o,h'.get? dx=some o:=let ⟨o,_,_,e',_⟩:=O'.ns;⟨o,e'⟩
 refine I.write (x:=a) (e:=dx) (by rw[e];exact True.intro) (.inr ho) (fun b q hb z=>(sb.2 b hb).trans z) hd ?_
 refine⟨by rw[aQ O.ne];exact ho,?_,O.ne,O'.obj,_,O'.ns,fun g=>?_,fun g hg=>?_⟩
 ·have:=a8G f y fs;omega
 ·show RelO ((putF f y fs).lookup g) (if g=f then some u else mA g)
  rw[a8E]
  by_cases q:g=f
  ·rw[if_pos q,if_pos q];exact ry
  ·rw[if_neg q,if_neg q];exact r g
 ·by_cases q:g=f
  ·rw[q];exact(a7K f y fs).1
  ·refine(a7K f y fs).2 g (wi g fun z=>hg ?_)
   show (if g=f then some u else mA g)=none
   rw[if_neg q];exact z

/-- a new instance,tracked,without attributes -/
theorem Inv.made (I:Inv X pins σ H s):Inv X pins σ (upd (upd H s.heap.objs.size (.own (s.heap.objs.size+1))) (s.heap.objs.size+1) (.ins C s.heap.objs.size []))
  { s with heap:=(s.heap.push W.emptyDict).push (W.instObj C s.heap.objs.size) }:=by
 have e1:(s.heap.push W.emptyDict).get? s.heap.objs.size=some W.emptyDict:=YB s.heap rfl
 have e2:((s.heap.push W.emptyDict).push (W.instObj C s.heap.objs.size)).get? (s.heap.objs.size+1)=some (W.instObj C s.heap.objs.size):=by
  have:=YB (s.heap.push W.emptyDict) (o:=W.instObj C s.heap.objs.size) rfl
  rwa [Heap.size_push]at this
 have e3:(s.heap.push W.emptyDict).Ns s.heap.objs.size (fun _=>none):=⟨W.emptyDict, #[],_,e1,rfl,(fun e he=>absurd he (by simp)),fun _=>rfl⟩
 have I1:=I.laid (a:=s.heap.objs.size) (o:= .own (s.heap.objs.size+1)) (h':=s.heap.push W.emptyDict) (t':=s.toks) (fun b u q=>Yd _ q) (Ye _) ⟨_,e1⟩
 refine I1.laid (a:=s.heap.objs.size+1) (o:= .ins C s.heap.objs.size []) (t':=s.toks) (fun b u q=>Yd _ q) (Nat.le_of_eq (Heap.size_push _ _)) ?_
 have ne:s.heap.objs.size≠s.heap.objs.size+1:=YL (Nat.lt_succ_self _)
 refine⟨by rw[aQ ne,aK],YO _,ne,e2,fun _=>none,(Heap.Ns1.of_empty e3).at fun o q=>Yd _ q,fun _=>True.intro,fun y hy=>absurd rfl hy⟩

/-- e.f where nothing but the object is asked:through attributeBase (super) and the last hold -/
theorem b7D {prog:Program}{w:World}{env:Env}{e:Expr}{f:Str}{pos:Pos}{s:Shared}{Q:Value->Shared->Prop}(hb:attributeBase e f env (eval e env)=eval e env)
  (h:wpAny (model prog w) A (eval e env) (fun o s₁=>wpAny (model prog w) A (getAttr o f true) Q E s₁) E s):wpAny (model prog w) A (eval (.Attribute e f pos) env) Q E s:=
 Attribute_any_ h (by rw[arm_eval_Attribute,hb])
end

/-! ### readings and rules -/
/-- e.f,an attribute of the instance -/
def tFld (K:W.Frag)(ta:TE)(f:Str):TE:=fun σ H Q=>ta σ H fun x H1=>∃a C dx fs v,x= .ref a/\H1 a=some (.ins C dx fs)/\Cls K C/\NoAttr K C f/\fs.lookup f=some v/\Q v H1
/-- e.f=value -/
def sFld (K:W.Frag)(ta tv:TE)(f:Str):TS:=fun D σ H=>tv σ H fun y H1=>ta σ H1 fun x H2=>∃a C dx fs,x= .ref a/\H2 a=some (.ins C dx fs)/\Cls K C/\NoAttr K C f/\fs.length<1000/\
 D.nx σ (upd H2 a (.ins C dx (putF f y fs)))
section
variable {X:Cx}{o e value:Expr}{f:Str}{pos pos' tpos:Pos}{ta tv:TE}
theorem c4O (he:PE X e ta)(hb:attributeBase e f X.env (eval e X.env)=eval e X.env):PE X (.Attribute e f pos) (tFld X.K ta f):=by
 intro pins s σ H Q I h
 refine b7D hb (thn (he pins s σ H _ I h) fun u s1 hz9=>?_)
 obtain⟨x,H1,I1,rx,a,C,dx,fs,v,ex,ea,c,n,l,q⟩:=hz9
 subst ex
 obtain rfl:u=Value.ref a:=rx
 exact b5Y I1 ea c n l fun u' s2 I2 ru=>⟨v,H1,I2,ru,q⟩
theorem c4M (ha:PE X o ta)(hv:PE X value tv)(hs:swapsWith value (some (.Attribute o f pos')) pos.line X.env=pure false):PS X (.Assign [.Attribute o f pos'] value pos) (sFld X.K ta tv f):=by
 intro pins s σ H D I h
 refine plainObj_wpAny_Assign_Attribute (thn (hv pins s σ H _ I h) fun u s1 ⟨y,H1,I1,ry,q⟩=>thn (ha pins s1 σ H1 _ I1 q) fun ov s2 ⟨x,H2,I2,rx,a,C,dx,fs,ex,ea,c,n,l,q2⟩=>?_) hs
 subst ex
 obtain rfl:ov=Value.ref a:=rx
 exact b5K I2 ea c n l ry fun s3 I3=>⟨σ,_,I3,q2⟩
/-- what is between an instance and its method:the tree of a method call -/
theorem c3L {pl:Sem Bool}{m:Str}{apos:Pos}{args:List Expr}{pins:List (Addr×Obj)}{s:Shared}{σ:St}{H:Hp}{Q:Value->Shared->Prop}{te:TE}(he:PE X e te)(I:Inv X pins σ H s)
  (h :te σ H fun x H1=>∃a C dx fs g,x= .ref a/\H1 a=some (.ins C dx fs)/\Cls X.K C/\Meth X.K C m g/\fs.lookup m=none/\
   ∀s1,Inv X pins σ H1 s1->wpAny (model X.prog X.w) X.A (callWith pos (.ref g) [.ref a] (backTo pos (starEach args X.env)) (backToKw pos (keywordEach [] X.env))) Q X.xe s1)
  (ht:eval (.Call (.Attribute e m apos) args [] pos) X.env=(do
   let ov<-eval e X.env
   standAt apos.atName
   let (f,first)<-holding [ov] (getMethod ov m pl)
   callWith pos f first (backTo pos (starEach args X.env)) (backToKw pos (keywordEach [] X.env)))) :
  wpAny (model X.prog X.w) X.A (eval (.Call (.Attribute e m apos) args [] pos) X.env) Q X.xe s:=by
 refine W.methodCall_KW (pl:=pl) (thn (he pins s σ H _ I h) fun u s1 hz9=>?_) ht
 obtain⟨x,H1,I1,rx,a,C,dx,fs,g,ex,ea,c,k,l,q⟩:=hz9
 subst ex
 obtain rfl:u=Value.ref a:=rx
 exact zW I1 ea c k l (q s1 I1)
end

/-! ### isinstance -/
section
variable {X:Cx}{pins:List (Addr×Obj)}{σ:St}{H:Hp}{s:Shared}{A:Around}{E:Value->Shared->Prop}{Q:Value->Shared->Prop}{c:Value}{b:Bool}
/-- the type of a value,as the fragment's deciders take it;for an instance its class -/
inductive TyOf (K:W.Frag)(H:Hp):V->Value->Prop where
  |non:TyOf K H .non (.type "NoneType")
  |bl (x:Bool):TyOf K H (.bl x) (.type "bool")
  |int (i:Int):TyOf K H (.int i) (.type "int")
  |str (x:Str):TyOf K H (.str x) (.type "str")
  |flt (x:UInt64):TyOf K H (.flt x) (.type "float")
  |lst {a:Addr} {xs:List V} (e:H a=some (.lst xs)):TyOf K H (.ref a) (.type "list")
  |frz {a:Addr} {o:Obj} {xs:List V} (e:H a=some (.frz o (.lst xs))):TyOf K H (.ref a) (.type "list")
  |tup {a:Addr} {xs:List V} (e:H a=some (.tup xs)):TyOf K H (.ref a) (.type "tuple")
  |dK {a:Addr} {kvs:List (Key×V)} (e:H a=some (.dK kvs)):TyOf K H (.ref a) (.type "dict")
  |dT {a:Addr} {kvs:List (List Key×V)} (e:H a=some (.dT kvs)):TyOf K H (.ref a) (.type "dict")
  | ins {a C dx:Addr} {fs:List (Str×V)} (e:H a=some (.ins C dx fs)) (cl:Cls K C) (ha:W.findIn K (.ref C) "__class__"=some (some (.builtin "object.__class__")))
      (hn:W.specialIn K (.builtin "object.__class__") "__get__"=some (some (.builtin "getset_descriptor.__get__"))) (htk:W.takesIn K (.builtin "object.__class__")=some true)
      (hm:W.mroIn K C (.type "object")=some true):TyOf K H (.ref a) (.ref C)
/-- isinstance(x,c) for one class c,a built-in or an own one:kitOne's answer -/
theorem b8H {x:V}{u t:Value}(I:Inv X pins σ H s)(rx:RelV x u)(ty:TyOf X.K H x t)(e:W.kitOne X.K t c=some b)(h:∀tk,Q (.bool b) { s with toks:=tk }) :
  wpAny (model X.prog X.w) A (call (.builtin "isinstance") [u,c]) Q E s:=by
 cases ty with
 |non=>cases (show u=Value.none from rx);exact Xk W.kitx_none I.kIn True.intro e (fun z=>nomatch z) h
 |bl y=>cases (show u=Value.bool y from rx);exact Xk W.kitx_bool I.kIn True.intro e (fun z=>nomatch z) h
 |int i=>obtain⟨t,q⟩:=(show ∃t,u=Value.int i t from rx);cases q;exact Xk W.kitx_int I.kIn True.intro e (fun z=>nomatch z) h
 |str y=>obtain⟨t,q⟩:=(show ∃t,u=Value.str y t from rx);cases q;exact Xk W.kitx_str I.kIn True.intro e (fun z=>nomatch z) h
 |flt y=>obtain⟨t,q⟩:=(show ∃t,u=Value.float y t from rx);cases q;exact Xk W.kitx_float I.kIn True.intro e (fun z=>nomatch z) h
 | @lst a xs ea=>
  cases (show u=Value.ref a from rx)
  obtain⟨_,_,n,_,h1⟩:=(show ObjOk X.prog X.w H s.heap a (.lst xs) from I.hok a _ ea)
  exact Xk W.kitx_list I.kIn ⟨_,h1,rfl⟩ e (fun z=>nomatch z) h
 | @frz a ob xs ea=>
  cases (show u=Value.ref a from rx)
  obtain⟨_,_,_,n,_,h1⟩:=(show ObjOk X.prog X.w H s.heap a (.frz ob (.lst xs)) from I.hok a _ ea)
  exact Xk W.kitx_list I.kIn ⟨_,h1,rfl⟩ e (fun z=>nomatch z) h
 | @tup a xs ea=>
  cases (show u=Value.ref a from rx)
  obtain⟨_,_,_,p⟩:=(show ObjOk X.prog X.w H s.heap a (.tup xs) from I.hok a _ ea)
  obtain⟨o,h1,h2,_⟩:=p
  exact Xk W.kitx_tuple I.kIn ⟨o,h1,h2⟩ e (fun z=>nomatch z) h
 | @dK a kvs ea=>
  cases (show u=Value.ref a from rx)
  obtain⟨_,_,vs,_,p⟩:=(show ObjOk X.prog X.w H s.heap a (.dK kvs) from I.hok a _ ea)
  obtain⟨o,es,ep,h1,h2,_⟩:=p
  exact Xk W.kitx_dict I.kIn ⟨o,h1,h2.1⟩ e (fun z=>nomatch z) h
 | @dT a kvs ea=>
  cases (show u=Value.ref a from rx)
  obtain⟨_,_,xs,_,o,es,ep,h1,h2,_⟩:=(show ObjOk X.prog X.w H s.heap a (.dT kvs) from I.hok a _ ea)
  exact Xk W.kitx_dict I.kIn ⟨o,h1,h2.1⟩ e (fun z=>nomatch z) h
 | @ins a C dx fs ea cl ha hn htk hm=>
  cases (show u=Value.ref a from rx)
  obtain⟨mA,O,_⟩:=a9F I.hok ea
  obtain⟨od,J,_⟩:=O.look
  exact Xk (W.kitx_own (cl.get _) cl.hd ha hn htk hm) I.kIn J e (fun z=>nomatch z) h
end
end L2

namespace L2
open PySem PySem.Spec PyProof.Rows

/-! ### room -/
structure Room (k:Nat)(A:Around):Prop where
 hd:A.handled=none
 dp:A.depth+3*k+5<recursionLimit
 un:A.units+16*k+200<cLine
theorem Room.mono {j k:Nat}{A:Around}(r:Room k A)(h:j<=k):Room j A:=⟨r.hd,by have:=r.dp;omega,by have:=r.un;omega⟩
theorem Room.deeper {k:Nat}{A:Around}(r:Room (k+1) A)(env:Env):Room k (A.deeper env):=
 ⟨r.hd,by have:=r.dp;show A.depth+1+3*k+5<_;omega,by have:=r.un;show A.units+3+16*k+200<_;omega⟩
theorem b5R {A:Around}{C:Addr}{us:List Value}{kw:List (Str×Value)}:(A.under (.builtin "type.__call__" ⟨.ref C::us,kw⟩)).depth=A.depth+1:=by
 first | rfl | simp[Around.under,Code.weight,Code.isCreation,Code.isGuard,Code.isCaller,Code.frames,Code.isFrame,guardIds]
theorem b5Q {A:Around}{C:Addr}{us:List Value}{kw:List (Str×Value)}:(A.under (.builtin "type.__call__" ⟨.ref C::us,kw⟩)).units=A.units+1:=by
 first | rfl | simp[Around.under,Code.cUnits,Code.frames,Code.isFrame]
theorem Room.make {k:Nat}{A:Around}(r:Room (k+1) A)(C:Addr)(us:List Value)(kw:List (Str×Value)):Room k (A.under (.builtin "type.__call__" ⟨.ref C::us,kw⟩)):=
 ⟨r.hd,by have:=r.dp;rw[b5R];omega,by have:=r.un;rw[b5Q];omega⟩
theorem Room.depth {k:Nat}{A:Around}(r:Room k A):A.depth<recursionLimit:=by have:=r.dp;omega
theorem Room.units {k:Nat}{A:Around}(r:Room k A):A.units+64<cLine:=by have:=r.un;omega
/-! ### argument lists and displays -/
def tNil:TA:=fun _ H Q=>Q [] H
def tCons (ta:TE)(tr:TA):TA:=fun σ H Q=>ta σ H fun x H1=>tr σ H1 fun xs H2=>Q (x::xs) H2
section
variable {X:Cx}{e:Expr}{es:List Expr}{te:TE}{t:TA}{pos:Pos}
theorem aB:PA X [] tNil:=fun _ _ _ _ H Q I h=>Calls.spliced_nil ⟨[],H,I,.nil,h⟩
theorem aA (ha:PE X e te)(hr:PA X es t)(hs:starEach (e::es) X.env=(false,eval e X.env)::starEach es X.env:=by rfl):PA X (e::es) (tCons te t):=by
 intro pos pins s σ H Q I h
 rw[hs]
 show wpAny _ _ (spliced ((false,eval e X.env)::backTo pos (starEach es X.env))) _ _ s
 refine XT (thn (ha pins s σ H _ I h) fun u s1 hz9=>?_)
 obtain⟨x,H1,I1,r1,q1⟩:=hz9
 exact thn (hr pos pins s1 σ H1 _ I1 q1) fun us s2 ⟨xs,H2,I2,r2,q2⟩=>⟨x::xs,H2,I2,.cons r1 r2,q2⟩

/-- a tuple,a list of written items -/
def tTup (t:TA):TE:=fun σ H Q=>t σ H fun xs H1=>xs.length<=sizeLine/\∀p,H1 p=none->Q (.ref p) (upd H1 p (.tup xs))
def tLst (t:TA):TE:=fun σ H Q=>t σ H fun xs H1=>xs.length<=sizeLine/\∀p,H1 p=none->Q (.ref p) (upd H1 p (.lst xs))
theorem gC {x1}(h:PA X es t):PE X (.Tuple es x1 pos) (tTup t):=by
 intro pins s σ H Q I hq
 refine wpAny_Tuple_spliced (thn (h pos pins s σ H _ I hq) fun us s1 ⟨xs,H1,I1,r,z,q⟩=>⟨by rw[<-r.length];exact z,?_⟩)
 have hf:H1 s1.heap.objs.size=none:=I1.hok.fresh (Ye _)
 refine⟨.ref s1.heap.objs.size,upd H1 s1.heap.objs.size (.tup xs),I1.laid (t':=s1.toks) (fun b u e=>Yd _ e) (Ye _) ?_,rfl,q _ hf⟩
 exact⟨z,us,r,⟨_,YB _ rfl,rfl,_,rfl⟩⟩
theorem jL (h:PA X es t):PE X (.List es pos) (tLst t):=by
 intro pins s σ H Q I hq
 refine wpAny_List_spliced (thn (h pos pins s σ H _ I hq) fun us s1 ⟨xs,H1,I1,r,z,q⟩=>⟨by rw[<-r.length];exact z,?_⟩)
 have hf:H1 s1.heap.objs.size=none:=I1.hok.fresh (Ye _)
 refine⟨.ref s1.heap.objs.size,upd H1 s1.heap.objs.size (.lst xs),I1.laid (t':=s1.toks) (fun b u e=>Yd _ e) (Ye _) ?_,rfl,q _ hf⟩
 exact⟨z,us,0,r,YB _ rfl⟩
end

/-! ### what a def promises -/
/-- a def's promise:the bound arguments in the parameters' order,the heap,the wanted end,the wanted exception -/
abbrev Sp:=List V->Hp->VK->XK->Prop
/-- how an exception lies behind a call (file 08 gives it):the callers' frames,abstract heap and state ahead of the call,the wish,the exception,the state -/
abbrev CXT:=List Env->Hp->Shared->XK->Value->Shared->Prop

/-- the state at a call -/
structure Env0 (P:Program)(w:World)(K:W.Frag)(mg:Str->Option Value)(base:Heap)(A:Around)(outer:List Env)(s:Shared)(H:Hp):Prop where
 frames:A.frames=some outer
 mod:Mod K mg base
 bs:∀b o,base.get? b=some o->s.heap.get? b=some o/\H b=none
 bsz:base.objs.size<=s.heap.objs.size
 funs:s.heap.FunFrames base outer
 frf:∀b∈frs outer,H b=none
 hok:HOk P w H s.heap
 bare:AllBare s.gens
/-- a call's end -/
def CE (outer:List Env)(P:Program)(w:World)(H:Hp)(s:Shared)(Q:VK)(u:Value)(s':Shared):Prop:=
 ∃v H',s'.os=s.os/\AllBare s'.gens/\Un (frs outer) [] H H' s.heap s'.heap/\HOk P w H' s'.heap/\RelV v u/\Q v H'
def CR (CX:CXT)(outer:List Env)(P:Program)(w:World)(H:Hp)(s:Shared)(Q:VK)(E:XK)(r:Result)(s':Shared):Prop:=
 match r with
 |.ok (.ret u)=>CE outer P w H s Q u s'
 |.ok _=>False
 |.error e=>CX outer H s E e s'
structure FnOk (P:Program)(w:World)(K:W.Frag)(mg:Str->Option Value)(base:Heap)(CX:CXT)(k:Nat)(f:Addr)(fd:FuncData)(ps:List Str)(sp:Sp):Prop where
 len:∀vs H Q E,sp vs H Q E->vs.length=ps.length
 run:∀(A:Around)(outer:List Env)(s:Shared)(H:Hp)(args:Args)(us:List Value)(vs:List V)(Q:VK)(E:XK),Room k A->Env0 P w K mg base A outer s H->BindsTo s fd args (ps.zip us)->Vals vs us->sp vs H Q E->
  codeAny (model P w) A (.call (.ref f) args) (CR CX outer P w H s Q E) s
theorem Env0.make {P:Program}{w:World}{K:W.Frag}{mg:Str->Option Value}{base:Heap}{A:Around}{outer:List Env}{s:Shared}{H:Hp}(e:Env0 P w K mg base A outer s H)(C:Addr)(us:List Value)(kw:List (Str×Value)) :
  Env0 P w K mg base (A.under (.builtin "type.__call__" ⟨.ref C::us,kw⟩)) outer s H:=⟨by first | exact e.frames | (simpa [Around.under,Code.envs,Code.isFrame,pushEnvs] using e.frames),e.mod,e.bs,e.bsz,e.funs,e.frf,e.hok,e.bare⟩
section
variable {X:Cx}{pins:List (Addr×Obj)}{σ:St}{H:Hp}{s s':Shared}
/-- from a body:what a callee wants -/
theorem Inv.env0 (I:Inv X pins σ H s):Env0 X.prog X.w X.K X.mg X.base X.A X.stack s H:=
 ⟨I.ok.frames,I.ok.mod,I.bs,Yn I.ok.bsz I.sz,I.stack,I.stkFree,I.hok,I.bare⟩
/-- behind a call -/
theorem Inv.after {Q:VK}{u:Value}(I:Inv X pins σ H s)(h:CE X.stack X.prog X.w H s Q u s'):EP X pins σ Q u s':=by
 obtain⟨v,H',os,bare,un,hok,r,q⟩:=h
 obtain⟨hh,g,d,t,os'⟩:=s'
 obtain rfl:os'=s.os:=os
 exact⟨v,H',I.call (h':=hh) (g':=g) (d':=d) (t':=t) (ch:=[]) un hok bare (fun b z=>absurd z (by simp)),r,q⟩
end

/-! ### calls -/
/-- f(..):the written arguments,then the defaults dvs;E:what is wanted of an exception -/
def tCall (sp:Sp)(dvs:List V)(E:XK)(t:TA):TE:=fun σ H Q=>t σ H fun vs H1=>sp (vs++dvs) H1 Q E
/-- o.m(..) of an instance of the class at C -/
def tMeth (C:Addr)(m:Str)(sp:Sp)(dvs:List V)(E:XK)(ta:TE)(t:TA):TE:=fun σ H Q=>ta σ H fun x H1=>∃a dx fs,x= .ref a/\H1 a=some (.ins C dx fs)/\fs.lookup m=none/\
 t σ H1 fun vs H2=>sp (x::(vs++dvs)) H2 Q E
/-- C(..):a new instance and its dict,then __init__ -/
def tMake (C:Addr)(sp:Sp)(dvs:List V)(E:XK)(t:TA):TE:=fun σ H Q=>t σ H fun vs H1=>∀x dx,H1 x=none->H1 dx=none->dx≠x->
 sp (.ref x::(vs++dvs)) (upd (upd H1 dx (.own x)) x (.ins C dx [])) (fun v H2=>v= .non/\Q (.ref x) H2) E

/-- how the parameters are bound:us the positional arguments,kw the keywords' values by name,ds the defaults that fill up -/
def Binds (K:W.Frag)(fd:FuncData)(ps:List Str)(ds:List Value):Prop:=
 ∀(s:Shared)(us:List Value),K.In s.heap->(us++ds).length=ps.length->BindsTo s fd ⟨us, []⟩ (ps.zip (us++ds))
/-- every parameter is given -/
theorem Binds.all {K:W.Frag}{fd:FuncData}{ps:List Str}(h:∀us:List Value,us.length=ps.length->bindArgs fd ⟨us, []⟩=pure (ps.zip us)):Binds K fd ps []:=fun s us _ hl=>by
 rw[Yz]at hl ⊢
 exact .of_eq (h us hl)

/-- an exception of a callee reaches what this body wants of exceptions -/
def Passes (CX:CXT)(X:Cx)(E:XK):Prop:=∀(pins:List (Addr×Obj))(σ:St)(H:Hp)(s:Shared)(e:Value)(s':Shared),Inv X pins σ H s->CX X.stack H s E e s'->X.xe e s'

section
variable {X:Cx}{CX:CXT}{k:Nat}{f C:Addr}{fd:FuncData}{ps:List Str}{sp:Sp}{dvs:List V}{ds:List Value}{E:XK}{x m:Str}{p pos apos:Pos}{e o:Expr}{es:List Expr}{ta:TE}{t:TA}

/-- the callee runs -/
theorem b5L {pins:List (Addr×Obj)}{σ:St}{H:Hp}{s:Shared}{Q:VK}{us:List Value}{vs:List V}(F:FnOk X.prog X.w X.K X.mg X.base CX k f fd ps sp)(hr:Room k X.A)(hb:Binds X.K fd ps ds)(hd:Vals dvs ds)(hx:Passes CX X E)
  (I:Inv X pins σ H s) (r:Vals vs us) (h:sp (vs++dvs) H Q E):wpAny (model X.prog X.w) X.A (call (.ref f) us) (EP X pins σ Q) X.xe s:=by
 have r2:Vals (vs++dvs) (us++ds):=r.append hd
 have hl:(us++ds).length=ps.length:=by rw[<-r2.length];exact F.len _ _ _ _ h
 refine XI (XE (F.run X.A X.stack s H ⟨us, []⟩ (us++ds) (vs++dvs) Q E hr I.env0 (hb s us I.kIn hl) r2 h) fun r s' hq=>?_)
 cases r with
 |error e=>exact hx pins σ H s e s' I hq
 | ok fl=>
  cases fl with
  |ret u=>exact I.after hq
  |next=>exact False.elim hq
  |brk=>exact False.elim hq
  |cont=>exact False.elim hq

theorem bB (F:FnOk X.prog X.w X.K X.mg X.base CX k f fd ps sp)(hr:Room k X.A)(hg:Gl X x)(hm:X.mg x=some (.ref f))(hk:W.keepIn X.K (.ref f)=true)(hb:Binds X.K fd ps ds)(hd:Vals dvs ds)(hx:Passes CX X E)
  (ha:PA X (e::es) t) (hdb:(x == ("__debug__":Str))=false:=by decide) (he:starEach (e::es) X.env=(false,eval e X.env)::starEach es X.env:=by rfl) (hpl:(backTo pos (starEach es X.env)).any (·.1)=false:=by rfl) :
  PE X (.Call (.Name x p) (e::es) [] pos) (tCall sp dvs E t):=by
 intro pins s σ H Q I h
 refine Xc (zV I hg hm ?_ hdb)
 refine W.callWith_K (h₀:=X.base) I.ok.mod.kin hk (thn (ha pos pins s σ H _ I h) fun us s1 ⟨vs,H1,I1,r,q⟩=>⟨I1.kIn,?_⟩) he hpl
 exact b5L F hr hb hd hx I1 r q
/-- o.m(e, ..) -/
theorem c2M {pl:Sem Bool}(he:PE X o ta)(c:Cls X.K C)(hm:Meth X.K C m f)(F:FnOk X.prog X.w X.K X.mg X.base CX k f fd ps sp)(hr:Room k X.A)(hb:Binds X.K fd ps ds)(hd:Vals dvs ds)(hx:Passes CX X E)(ha:PA X (e::es) t)
  (hst:starEach (e::es) X.env=(false,eval e X.env)::starEach es X.env:=by rfl) (hpl:(backTo pos (starEach es X.env)).any (·.1)=false:=by rfl)
  (ht:eval (.Call (.Attribute o m apos) (e::es) [] pos) X.env=(do
   let ov<-eval o X.env
   standAt apos.atName
   let (f,first)<-holding [ov] (getMethod ov m pl)
   callWith pos f first (backTo pos (starEach (e::es) X.env)) (backToKw pos (keywordEach [] X.env))):=by rfl) :
  PE X (.Call (.Attribute o m apos) (e::es) [] pos) (tMeth C m sp dvs E ta t):=by
 intro pins s σ H Q I h
 refine W.methodCall_KW (pl:=pl) (thn (he pins s σ H _ I h) fun u s1 hz9=>?_) ht
 obtain⟨x,H1,I1,rx,a,dx,fs,ex,ea,l,q⟩:=hz9
 subst ex
 obtain rfl:u=Value.ref a:=rx
 refine zW I1 ea c hm l ?_
 refine W.callWith_K (first:=[.ref a]) (h₀:=X.base) I.ok.mod.kin hm.kp (thn (ha pos pins s1 σ H1 _ I1 q) fun us s2 ⟨vs,H2,I2,r,q2⟩=>⟨I2.kIn,?_⟩) hst hpl
 exact b5L (us:= .ref a::us) (vs:= .ref a::vs) F hr hb hd hx I2 (.cons rfl r) q2
/-- o.m() -/
theorem b9Z {pl:Sem Bool}(he:PE X o ta)(c:Cls X.K C)(hm:Meth X.K C m f)(F:FnOk X.prog X.w X.K X.mg X.base CX k f fd ps sp)(hr:Room k X.A)(hb:Binds X.K fd ps ds)(hd:Vals dvs ds)(hx:Passes CX X E)
  (ht:eval (.Call (.Attribute o m apos) [] [] pos) X.env=(do
   let ov<-eval o X.env
   standAt apos.atName
   let (f,first)<-holding [ov] (getMethod ov m pl)
   callWith pos f first (backTo pos (starEach [] X.env)) (backToKw pos (keywordEach [] X.env))):=by rfl) :
  PE X (.Call (.Attribute o m apos) [] [] pos) (tMeth C m sp dvs E ta tNil):=by
 intro pins s σ H Q I h
 refine W.methodCall_KW (pl:=pl) (thn (he pins s σ H _ I h) fun u s1 hz9=>?_) ht
 obtain⟨x,H1,I1,rx,a,dx,fs,ex,ea,l,q⟩:=hz9
 subst ex
 obtain rfl:u=Value.ref a:=rx
 refine zW I1 ea c hm l ?_
 exact W.callWith_K0 (first:=[.ref a]) I1.kIn hm.kp (b5L (us:=[.ref a]) (vs:=[.ref a]) F hr hb hd hx I1 (.cons rfl .nil) q)

/-- what a class must have to be made -/
structure Mk (K:W.Frag)(C f:Addr):Prop where
 makes:W.makesIn K C=true
 init:W.findIn K (.ref C) "__init__"=some (some (.ref f))
 fn:W.isFn K (.ref f)=true
 kp:W.keepIn K (.ref C)=true

theorem b3W {pins:List (Addr×Obj)}{σ:St}{H:Hp}{s:Shared}{Q:VK}{us:List Value}{vs:List V}(M:Mk X.K C f)(F:FnOk X.prog X.w X.K X.mg X.base CX k f fd ps sp)(hr:Room (k+1) X.A)(hb:Binds X.K fd ps ds)(hd:Vals dvs ds)
  (hx:Passes CX X E) (I:Inv X pins σ H s) (r:Vals vs us)
  (h:∀x dx,H x=none->H dx=none->dx≠x->sp (.ref x::(vs++dvs)) (upd (upd H dx (.own x)) x (.ins C dx [])) (fun v H2=>v= .non/\Q (.ref x) H2) E) :
  wpAny (model X.prog X.w) X.A (call (.ref C) us) (EP X pins σ Q) X.xe s:=by
 have hq:=h (s.heap.objs.size+1) s.heap.objs.size (I.hok.fresh (Nat.le_succ _)) (I.hok.fresh (Ye _)) (YL (Nat.lt_succ_self _))
 have I2:=Inv.made (C:=C) I
 have r2:Vals (V.ref (s.heap.objs.size+1)::(vs++dvs)) (Value.ref (s.heap.objs.size+1)::(us++ds)):= .cons rfl (r.append hd)
 have hl:(Value.ref (s.heap.objs.size+1)::us++ds).length=ps.length:=by
  have e:=r2.length
  rw[F.len _ _ _ _ hq]at e
  exact e.symm
 refine XI (c0O (f:=f) I.kIn M.makes M.init (Y8.mp M.fn) (XE (F.run _ X.stack _ _ ⟨Value.ref (s.heap.objs.size+1)::us, []⟩ (Value.ref (s.heap.objs.size+1)::(us++ds)) _ _ E (hr.make C us [])
  (I2.env0.make C us []) (hb _ (Value.ref (s.heap.objs.size+1)::us) I2.kIn hl) r2 hq) fun r s' hq'=>?_))
 cases r with
 |error e=>exact hx pins σ _ _ e s' I2 hq'
 | ok fl=>
  cases fl with
  | ret u=>
   obtain⟨v,H',I3,rv,ev,q3⟩:=I2.after hq'
   subst ev
   exact⟨rv,⟨V.ref (s.heap.objs.size+1),H',I3,rfl,q3⟩⟩
  |next=>exact False.elim hq'
  |brk=>exact False.elim hq'
  |cont=>exact False.elim hq'
theorem b2T (M:Mk X.K C f)(F:FnOk X.prog X.w X.K X.mg X.base CX k f fd ps sp)(hr:Room (k+1) X.A)(hg:Gl X x)(hm:X.mg x=some (.ref C))(hb:Binds X.K fd ps ds)(hd:Vals dvs ds)(hx:Passes CX X E)
  (ha:PA X (e::es) t) (hdb:(x == ("__debug__":Str))=false:=by decide) (he:starEach (e::es) X.env=(false,eval e X.env)::starEach es X.env:=by rfl) (hpl:(backTo pos (starEach es X.env)).any (·.1)=false:=by rfl) :
  PE X (.Call (.Name x p) (e::es) [] pos) (tMake C sp dvs E t):=by
 intro pins s σ H Q I h
 refine Xc (zV I hg hm ?_ hdb)
 refine W.callWith_K (h₀:=X.base) I.ok.mod.kin M.kp (thn (ha pos pins s σ H _ I h) fun us s1 ⟨vs,H1,I1,r,q⟩=>⟨I1.kIn,?_⟩) he hpl
 exact b3W M F hr hb hd hx I1 r q
theorem a9T (M:Mk X.K C f)(F:FnOk X.prog X.w X.K X.mg X.base CX k f fd ps sp)(hr:Room (k+1) X.A)(hg:Gl X x)(hm:X.mg x=some (.ref C))(hb:Binds X.K fd ps ds)(hd:Vals dvs ds)(hx:Passes CX X E)
  (hdb:(x == ("__debug__":Str))=false:=by decide):PE X (.Call (.Name x p) [] [] pos) (tMake C sp dvs E tNil):=by
 intro pins s σ H Q I h
 refine Xc (zV I hg hm ?_ hdb)
 exact W.callWith_K0 I.kIn M.kp (b3W (us:=[]) M F hr hb hd hx I .nil h)
end

/-! ### keywords -/
section
variable {X:Cx}{CX:CXT}{k:Nat}{f C:Addr}{fd:FuncData}{ps ks:List Str}{sp:Sp}{E:XK}{x m:Str}{p pos apos kpos:Pos}{e o:Expr}{es:List Expr}{kws:List Keyword}{te ta:TE}{t tk:TA}{nm:Option Str}
variable {g:List Value->List Value->List Value}{gV:List V->List V->List V}
end

/-! ### a def's body keeps its promise -/
/-- names:the parameters first -/
structure FnScope (N P:List Str)(sc:Scope):Prop where
 kind:sc.kind= .function
 co:sc.isCoroutine=false
 gen:sc.isGenerator=false
 nd:N.Nodup
 pre:N.take P.length=P
 par:∀x∈P,sc.names.lookup x=some .local\/sc.names.lookup x=some .cell
 nofree:∀y∈sc.names,y.2≠ .free

theorem b2D {kindOf:Str->Option NameKind}{x:Str}:∀{binds:List (Str×Value)}{m:Str->Option Value},(∀v,(x,v)∉binds)->bindL kindOf binds m x=m x
 |[],_,_=>rfl
 | (n,v)::r,m,h=>by
  unfold bindL
  rw[b2D fun w hw=>h w (Yf _ hw)]
  split
  ·have:x≠n:=by rintro rfl;exact h v Yw
   simp[this]
  ·rfl
theorem b2F {kindOf:Str->Option NameKind}{x:Str}:∀{binds:List (Str×Value)}{m:Str->Option Value},(∀v,(x,v)∉binds)->bindC kindOf binds m x=m x
 |[],_,_=>rfl
 | (n,v)::r,m,h=>by
  unfold bindC
  rw[b2F fun w hw=>h w (Yf _ hw)]
  split
  ·rfl
  ·have:x≠n:=by rintro rfl;exact h v Yw
   simp[this]
theorem b2E {kindOf:Str->Option NameKind}{x:Str}{v:Value}:∀{P:List Str}{vs:List Value}{i:Nat}{m:Str->Option Value},P.Nodup->P[i]? =some x->vs[i]? =some v->kindOf x=some .local->
  bindL kindOf (P.zip vs) m x=some v
 |[],_,_,_,_,h,_,_=>by simp at h
 |_::_, [],_,_,_,_,h,_=>by simp at h
 | p::P,w::vs,0,m,nd,h1,h2,hk=>by
  simp at h1 h2;subst h1;subst h2
  show bindL kindOf ((p,w)::P.zip vs) m p=_
  unfold bindL
  rw[b2D fun v hv=>(Y5.mp nd).1 (List.of_mem_zip hv).1,if_pos hk]
  simp
 | p::P,w::vs,i+1,m,nd,h1,h2,hk=>by
  show bindL kindOf ((p,w)::P.zip vs) m x=_
  unfold bindL
  exact b2E (i:=i) (Y5.mp nd).2 (by simpa using h1) (by simpa using h2) hk
theorem b2G {kindOf:Str->Option NameKind}{x:Str}{v:Value}:∀{P:List Str}{vs:List Value}{i:Nat}{m:Str->Option Value},P.Nodup->P[i]? =some x->vs[i]? =some v->kindOf x≠some .local->
  bindC kindOf (P.zip vs) m x=some v
 |[],_,_,_,_,h,_,_=>by simp at h
 |_::_, [],_,_,_,_,h,_=>by simp at h
 | p::P,w::vs,0,m,nd,h1,h2,hk=>by
  simp at h1 h2;subst h1;subst h2
  show bindC kindOf ((p,w)::P.zip vs) m p=_
  unfold bindC
  rw[b2F fun v hv=>(Y5.mp nd).1 (List.of_mem_zip hv).1,if_neg hk]
  simp
 | p::P,w::vs,i+1,m,nd,h1,h2,hk=>by
  show bindC kindOf ((p,w)::P.zip vs) m x=_
  unfold bindC
  exact b2G (i:=i) (Y5.mp nd).2 (by simpa using h1) (by simpa using h2) hk

/-- the names' values at the entry -/
def start (N:List Str)(vs:List V):St:=vs.map some++List.replicate (N.length-vs.length) none

/-- the context of a def's body,at its entry;an exception leaves the frame,then lies as CX says -/
def cxOf (CX:CXT)(P:Program)(w:World)(K:W.Frag)(mg:Str->Option Value)(base:Heap)(N:List Str)(qual:Str)(scope:Scope)(f:Addr)(cd:Value)(A:Around)(outer:List Env)(s:Shared)(H:Hp)(E:XK):Cx where
 prog:=P
 w:=w
 K:=K
 mg:=mg
 base:=base
 A:=A.deeper (envOfC qual scope s.heap.objs.size f cd)
 N:=N
 s₀:=s
 H₀:=H
 env:=envOfC qual scope s.heap.objs.size f cd
 outer:=outer
 stack:=envOfC qual scope s.heap.objs.size f cd::outer
 ex:=[]
 calm:=true
 fn:=fun _=>true
 pn:=[]
 xe:=fun e s'=>wpAny (model P w) (A.deeper (envOfC qual scope s.heap.objs.size f cd)) (leaving (envOfC qual scope s.heap.objs.size f cd) e) (fun _ s''=>CX outer H s E e s'') (fun e' s''=>CX outer H s E e' s'') s'

theorem b5B {sc:Scope}{n:Nat}{x:Str}(h:sc.names.lookup x=some .cell):∃c,(cellsFrom n sc.names []).lookup x=some c:=by
 have q:=W.cellsFrom_some sc.names n [] (.inl h)
 exact Option.isSome_iff_exists.mp q

theorem b8I {CX:CXT}{P:Program}{w:World}{K:W.Frag}{mg:Str->Option Value}{base:Heap}{N ps:List Str}{qual:Str}{scope:Scope}{f:Addr}{cd:Value}{A:Around}{outer:List Env}{s s1:Shared}{H:Hp}{E:XK}{us:List Value}{vs:List V}
  (S:FnScope N ps scope) (hd:A.handled=none) (e0:Env0 P w K mg base A outer s H) (hl:vs.length=ps.length) (r:Vals vs us)
  (x:InCallC s s.heap.objs.size (bindL (envOfC qual scope s.heap.objs.size f cd).kindOf (ps.zip us) fun _=>none) (cellsFrom (s.heap.objs.size+1) scope.names []) (bindC (envOfC qual scope s.heap.objs.size f cd).kindOf (ps.zip us) fun _=>none) s1) :
  Inv (cxOf CX P w K mg base N qual scope f cd A outer s H E) [] (start N vs) H s1:=by
 have hpl:ps.length<=N.length:=by have:=Yy List.length S.pre;rw[YT]at this;omega
 obtain⟨h1,tk,rfl,hk⟩:=x.done
 have noA:∀b:Addr,b∉(cxOf CX P w K mg base N qual scope f cd A outer s H E).ex:=fun b z=>absurd (show b∈([]:List Addr) from z) (by simp)
 refine⟨⟨e0.mod,S.kind,rfl,rfl,Ye _,fun y z c h1 h2=>?_,fun y hy=>?_,fun y c _ h=>?_,fun _=>hd,Around.frames_deeper e0.frames,.inr ⟨rfl,rfl⟩,fun b z=>absurd z (noA b),e0.bs,e0.bsz,fun b _ _=>noA b,fun b z=>absurd z (noA b),e0.funs,e0.frf⟩,
  rfl,e0.bare,Un.kept hk,⟨_,x.toInCall.ns,fun i y v h1 h2 h3=>?_⟩,fun y c h=>⟨_,x.cell y c h⟩,e0.hok.fresh (Ye _),fun y c h=>?_,fun p hp=>absurd (show p∈([]:List (Addr×Obj)) from hp) (by simp),e0.hok.kept hk,?_⟩
 ·exact name_of_addr x.apart (Xp h1) (Xp h2)
 ·have hy:scope.names.lookup y=some .cell\/scope.names.lookup y=some .free:=hy
  rcases hy with hy | hy
  ·exact b5B hy
  ·exact absurd rfl (S.nofree _ (Xp hy))
 ·exact Xl (x.above y c (Xp h))
 ·have hi:i<vs.length:=by
   unfold start at h2
   by_cases hi:i<vs.length
   ·exact hi
   ·rw[YM (by simpa using hi)]at h2
    rw[List.getElem?_replicate]at h2
    split at h2 <;> cases h2
  have ha:vs[i]? =some v:=by
   unfold start at h2
   rw[YN (by simpa using hi),Yq]at h2
   cases e:vs[i]? with
   |none=>rw[e]at h2;cases h2
   |some a=>rw[e]at h2;cases h2;rfl
  obtain⟨u,hu,rv⟩:=r.get ha
  have hp:ps[i]? =some y:=by
   rw[<-S.pre,List.getElem?_take_of_lt (by omega)];exact h1
  have ndP:ps.Nodup:=by rw[<-S.pre];exact S.nd.sublist (List.take_sublist _ _)
  refine⟨u,rv,?_⟩
  rcases S.par y (YA hp) with k | k
  ·exact .inl ⟨k,b2E ndP hp hu k⟩
  ·obtain⟨c,e⟩:=b5B (n:=s.heap.objs.size+1) k
   refine .inr ⟨.inl k,c,e,?_⟩
   have q:=x.cell y c e
   rw[b2G ndP hp hu (by show scope.names.lookup y≠_;rw[k];decide)]at q
   exact q
 ·exact e0.hok.fresh (Xl (x.above y c (Xp h)))
 ·unfold start
  show _=N.length
  rw[Yj,Ya,Xz]
  omega

/-- THE RULE:a def (or a method) of the text,by its body. The body's reading t is chosen for each entry;it is run at the parameters' values -/
theorem c3P {CX:CXT}{P:Program}{w:World}{K:W.Frag}{mg:Str->Option Value}{base:Heap}{k:Nat}{f:Addr}{name qual:Str}{params:Arguments}{body:List Stmt}{scope:Scope}{dV kV doc pm cdv ct oc:Value}{an od:Option Addr}
  {osl:Array (Option Value)} {N ps:List Str} {sp:Sp} (lk:K.lookup f=some ⟨oc,od,.func (W.fnOf name qual params body scope dV kV doc pm an cdv ct),osl⟩) (hcd:W.codeIn K cdv qual=true) (S:FnScope N ps scope)
  (len:∀vs H Q E,sp vs H Q E->vs.length=ps.length)
  (hbody:∀(A:Around)(outer:List Env)(s:Shared)(H:Hp)(vs:List V)(Q:VK)(E:XK),Room k (A.deeper (envOfC qual scope s.heap.objs.size f cdv))->sp vs H Q E->
   ∃t,PSs (cxOf CX P w K mg base N qual scope f cdv A outer s H E) body t/\t { nx:=fun _ H'=>Q .non H',rt:=Q } (start N vs) H) :
  FnOk P w K mg base CX (k+1) f (W.fnOf name qual params body scope dV kV doc pm an cdv ct) ps sp:=by
 refine⟨len,fun A outer s H args us vs Q E hr e0 hb r hsp=>?_⟩
 have hl:=len _ _ _ _ hsp
 have KX:K.In s.heap:=e0.mod.kin.keeps fun b o e=>(e0.bs b o e).1
 have lim:s.heap.NoLimit:=e0.mod.nolimit.keeps fun b o e=>(e0.bs b o e).1
 have hkind:∀y∈ps.zip us,scope.names.lookup y.1=some .local\/(scope.names.lookup y.1=some .cell/\((cellsFrom (s.heap.objs.size+1) scope.names []).lookup y.1).isSome=true):=fun ⟨n,v⟩ hy=>by
  rcases S.par n (List.of_mem_zip hy).1 with q | q
  ·exact .inl q
  ·exact .inr ⟨q,W.cellsFrom_some _ _ _ (.inl q)⟩
 refine codeAny_call_function hr.depth (KX _ _ lk) rfl S.co S.gen rfl (W.codeRec_of KX hcd) (hb _ _ _ _ ?_)
 refine wpAny_newFunctionEnv_cells S.kind hkind fun env he s1 x=>?_
 subst he
 refine⟨lim.keeps x.toInCall.keep,codeAny_func ?_⟩
 obtain⟨t,ht,hq⟩:=hbody A outer s H vs Q E (hr.deeper _) hsp
 have I:Inv (cxOf CX P w K mg base N qual scope f cdv A outer s H E) [] (start N vs) H s1:=b8I S hr.hd e0 hl r x
 refine YQ (ht [] s1 (start N vs) H _ I hq) (fun fl s' hs=>?_) fun e s' hs=>hs
 have fin:∀{σ':St}{H':Hp}{v:V}{u:Value},Inv (cxOf CX P w K mg base N qual scope f cdv A outer s H E) [] σ' H' s'->RelV v u->Q v H'->CE outer P w H s Q u s':=
  fun {σ' H' v u} J rv q=>⟨v,H',J.os,J.bare,J.base,J.hok,rv,q⟩
 cases fl with
 | ret u=>
  obtain⟨v,σ',H',J,rv,q⟩:=hs
  exact fin J rv q
 | next=>
  obtain⟨σ',H',J,q⟩:=hs
  exact fin (v:=V.non) (u:=Value.none) J rfl q
 | brk=>
  obtain⟨_,_,_,q⟩:=hs
  exact False.elim q
 | cont=>
  obtain⟨_,_,_,q⟩:=hs
  exact False.elim q
end L2

namespace L2
open PySem PySem.Spec PyProof.Rows
section
variable {X:Cx}{x:Str}{p pos:Pos}{e:Expr}{es:List Expr}{t:TA}{id T:String}{r:List V->Hp->VK->Prop}

def tCB (r:List V->Hp->VK->Prop)(t:TA):TE:=fun σ H Q=>t σ H fun vs H1=>r vs H1 Q
/-- f(e, ..),f a built-in function -/
theorem bR (hc:CallR X (.builtin id) r)(hg:Gl X x)(hm:X.mg x=none)(hv:bootBuiltins x=some (.builtin id))(ha:PA X (e::es) t)(hn:x≠"__name__":=by decide)(hdb:(x == ("__debug__":Str))=false:=by decide)
  (he:starEach (e::es) X.env=(false,eval e X.env)::starEach es X.env:=by rfl) (hpl:(backTo pos (starEach es X.env)).any (·.1)=false:=by rfl):PE X (.Call (.Name x p) (e::es) [] pos) (tCB r t):=by
 intro pins s σ H Q I h
 refine Xc (a2A I hg hm hv ?_ hn hdb)
 exact PyProof.Rows.callWith_builtin1 (thn (ha pos pins s σ H _ I h) fun us s1 ⟨vs,H1,I1,r1,q1⟩=>hc pins s1 σ H1 vs us Q I1 r1 q1) he hpl
/-- T(e, ..),T a built-in type -/
theorem cP (hc:CallR X (.type T) r)(hg:Gl X x)(hm:X.mg x=none)(hv:bootBuiltins x=some (.type T))(ha:PA X (e::es) t)(hn:x≠"__name__":=by decide)(hdb:(x == ("__debug__":Str))=false:=by decide)
  (he:starEach (e::es) X.env=(false,eval e X.env)::starEach es X.env:=by rfl) (hpl:(backTo pos (starEach es X.env)).any (·.1)=false:=by rfl):PE X (.Call (.Name x p) (e::es) [] pos) (tCB r t):=by
 intro pins s σ H Q I h
 refine Xc (a2A I hg hm hv ?_ hn hdb)
 exact YZ (thn (ha pos pins s σ H _ I h) fun us s1 ⟨vs,H1,I1,r1,q1⟩=>hc pins s1 σ H1 vs us Q I1 r1 q1) he hpl
end
end L2

namespace HT
open PySem PyProof.Rows

section
open PySem.SeqAt
open PySem.AutoSeq1 (wpAny_loadPart')
open PySem.MeetsSeq PySem.MeetsSeq2 PySem.MeetsSeq3

end

section
variable {prog:Program}{w:World}{A:Around}{E:Value->Shared->Prop}{s:Shared}

/-! ### t[a:b],not the whole -/
/-- a slice's bound as a place among n (d where it is left out) -/
def sIx (n d:Nat):Option Int->Nat
 |none=>d
 |some v=>if v<0 then (v+(n:Int)).toNat else min v.toNat n
theorem sIx_none (n d:Nat):sIx n d none=d:=rfl
theorem sIx_nat (n d k:Nat):sIx n d (some (k:Int))=min k n:=by
 show (if (k:Int)<0 then ((k:Int)+(n:Int)).toNat else min (k:Int).toNat n)=min k n
 rw[if_neg (by omega),Xi]
end
end HT

namespace L2
open PySem PySem.Spec PyProof.Rows

/-! ### the parts of a slice -/
abbrev TO:=St->Hp->(Option Int->Hp->Prop)->Prop
/-- a slice's part (left out,or an int) -/
def PO (X:Cx)(e:Option Expr)(t:TO):Prop:=
 ∀ (pins:List (Addr×Obj))(s:Shared)(σ:St)(H:Hp)(Q:Option Int->Hp->Prop),Inv X pins σ H s->t σ H Q->
  wpAny (model X.prog X.w) X.A (evalPart e X.env) (fun u s'=>∃o H',Inv X pins σ H' s'/\IsPart u o/\Q o H') X.xe s
def tNoPart:TO:=fun _ H Q=>Q none H
def tPart (t:TE):TO:=fun σ H Q=>t σ H fun x H1=>∃i,x= .int i/\Q (some i) H1

section
variable {X:Cx}{e:Expr}{te:TE}{lo hi:Option Expr}{tl th:TO}{pos p2:Pos}

theorem a5M:PO X none tNoPart:=by
 intro pins s σ H Q I h
 rw[evalPart_none]
 exact YI ⟨none,H,I,.none,h⟩
theorem c2K (h:PE X e te):PO X (some e) (tPart te):=by
 intro pins s σ H Q I hw
 rw[evalPart_some]
 refine thn (h pins s σ H _ I hw) fun u s1 hz9=>?_
 obtain⟨x,H1,I1,r1,q1⟩:=hz9
 obtain⟨i,rfl,q⟩:=q1
 obtain⟨t,rfl⟩:=r1
 exact⟨some i,H1,I1,.int i t,q⟩

/-- what a slice of a value is,by values:the slice object stands at sl -/
def SlR (X:Cx)(r:V->Option Int->Option Int->Hp->VK->Prop):Prop:=
 ∀ (pins:List (Addr×Obj))(s:Shared)(σ:St)(H:Hp)(x:V)(v vl vu:Value)(lo hi:Option Int)(sl:Addr)(Q:VK),Inv X pins σ H s->RelV x v->s.heap.IsSliceOf sl vl vu .none->IsPart vl lo->IsPart vu hi->r x lo hi H Q->
  ∃T id,typeLookup (.type T) "__getitem__"=pure (some (.builtin id))/\s.TypeIs v T/\wpAny (model X.prog X.w) X.A (getItem v (.ref sl)) (EP X pins σ Q) X.xe s
def tSl (r:V->Option Int->Option Int->Hp->VK->Prop)(te:TE)(tl th:TO):TE:=fun σ H Q=>te σ H fun x H1=>tl σ H1 fun l H2=>th σ H2 fun u H3=>r x l u H3 Q
/-- a[lo:hi],any a -/
theorem wA {r:V->Option Int->Option Int->Hp->VK->Prop}(hr:SlR X r)(he:PE X e te)(hl:PO X lo tl)(hu:PO X hi th):PE X (.Subscript e (.Slice lo hi none p2) pos) (tSl r te tl th):=by
 intro pins s σ H Q I h
 refine Subscript_ (thn (he pins s σ H _ I h) fun v s1 hz9=>?_)
 obtain⟨x,H1,I1,r1,q1⟩:=hz9
 refine wpAny_Slice (thn (hl pins s1 σ H1 _ I1 q1) fun vl s2 ⟨l,H2,I2,pl,q2⟩=>thn (hu pins s2 σ H2 _ I2 q2) fun vu s3 ⟨u,H3,I3,pu,q3⟩=>?_)
 rw[evalPart_none]
 refine YI ?_
 have I4:Inv X pins σ H3 { s3 with heap:=s3.heap.push { cls:= .type "slice",data:= .fields #[vl,vu,.none] } }:=I3.kept (t':=s3.toks) fun b ob q=>Yd _ q
 obtain⟨T,id,hT,ht,hg⟩:=hr pins { s3 with heap:=s3.heap.push { cls:= .type "slice",data:= .fields #[vl,vu,.none] } } σ H3 x v vl vu l u s3.heap.objs.size Q I4 r1 (Heap.IsSliceOf.new ..) pl pu q3
 show wpAny (model X.prog X.w) X.A (subscriptTail e (.Slice lo hi none p2) v (.ref s3.heap.objs.size)) (EP X pins σ Q) X.xe { s3 with heap:=s3.heap.push { cls:= .type "slice",data:= .fields #[vl,vu,.none] } }
 exact tail_any (ops:=[.ref s3.heap.objs.size,v]) ht hT hg (by with_unfolding_all rfl)

/-- the items of xs[lo:hi] -/
def cutV (xs:List V)(lo hi:Option Int):List V:=(xs.drop (HT.sIx xs.length 0 lo)).take (HT.sIx xs.length xs.length hi-HT.sIx xs.length 0 lo)
theorem b4Z (xs:List V)(lo hi:Option Int):(cutV xs lo hi).length<=xs.length:=by
 unfold cutV
 rw[YT,Xm]
 omega
/-! ### t<u,t+u -/
end
end L2

namespace L2
open PySem PySem.Spec PyProof.Rows

/-! ### places -/
/-- the place that an index of any sign means -/
def ixN (n:Nat)(i:Int):Option Nat:=if 0<=i then (if i<n then some i.toNat else none) else if -(n:Int)<=i then some (i+n).toNat else none
def atI {α:Type}(xs:List α)(i:Int):Option α:=(ixN xs.length i).bind fun j=>xs[j]?
theorem b6S {n:Nat}{i:Int}{j:Nat}(h:ixN n i=some j):seqIndex? i n=some j/\j<n/\ -(n:Int)<=i/\i<n:=by
 unfold ixN at h
 by_cases h0:0<=i
 ·rw [if_pos h0]at h
  by_cases h1:i<n
  ·rw[if_pos h1]at h
   have e:i.toNat=j:=YE h
   exact⟨by rw[seqIndex_of h0 h1,e],by omega,by omega,h1⟩
  ·rw[if_neg h1]at h;cases h
 ·rw [if_neg h0]at h
  by_cases h1: -(n:Int)<=i
  ·rw[if_pos h1]at h
   have e:(i+n).toNat=j:=YE h
   exact⟨by rw[seqIndex_neg (by omega) h1,e],by omega,h1,by omega⟩
  ·rw[if_neg h1]at h;cases h
theorem b3N {α:Type}{xs:List α}{i:Int}{v:α}(h:atI xs i=some v):∃j,seqIndex? i xs.length=some j/\xs[j]? =some v/\j<xs.length/\ -(xs.length:Int)<=i/\i<xs.length:=by
 unfold atI at h
 cases e:ixN xs.length i with
 |none=>rw[e]at h;cases h
 | some j=>
  rw[e]at h
  obtain⟨h1,h2,h3,h4⟩:=b6S e
  exact⟨j,h1,h,h2,h3,h4⟩
theorem bM {α:Type}{xs:List α}{j:Nat}{v:α}(h:xs[j]? =some v):atI xs (j:Int)=some v:=by
 have hj:j<xs.length:=(Yc.mp h).1
 have e:ixN xs.length (j:Int)=some j:=by
  unfold ixN
  rw[if_pos (by omega),if_pos (by omega)];simp
 unfold atI;rw[e];exact h
/-! ### what may be subscripted -/
/-- what stands as an index of a plain subscript -/
def PlainIx (b:Expr):Prop:=∀o i,subscripted b false o i=operate [o,i] (getItem o i)
/-- a subscript by values -/
def IxR (X:Cx)(r:R2):Prop:=
 ∀ (value slice:Expr)(pins:List (Addr×Obj))(s:Shared)(σ:St)(H:Hp)(x y:V)(v u:Value)(Q:VK),Inv X pins σ H s->RelV x v->RelV y u->r x y H Q->
  subscripted slice false v u=operate [v,u] (getItem v u)->wpAny (model X.prog X.w) X.A (subscriptTail value slice v u) (EP X pins σ Q) X.xe s
/-- a call of a builtin's method by values:the receiver,the arguments -/
def MtR (X:Cx)(id:String)(r:V->List V->Hp->VK->Prop):Prop:=
 ∀ (pins:List (Addr×Obj))(s:Shared)(σ:St)(H:Hp)(x:V)(xs:List V)(v:Value)(us:List Value)(Q:VK),Inv X pins σ H s->RelV x v->Vals xs us->r x xs H Q->
  wpAny (model X.prog X.w) X.A (call (.builtin id) (v::us)) (EP X pins σ Q) X.xe s
section
variable {X:Cx}{a b:Expr}{ta tb:TE}{pos:Pos}
/-- a[b] -/
theorem cD {r:R2}(hr:IxR X r)(ha:PE X a ta)(hb:PE X b tb)(hs:PlainIx b):PE X (.Subscript a b pos) (tOp r ta tb):=by
 intro pins s σ H Q I h
 exact Subscript_ (c5S ha hb I h fun v u s2 x y H2 I2 rx ry q=>hr a b pins s2 σ H2 x y v u Q I2 rx ry q (hs _ _))

def rIxL (K:W.Frag):R2:=fun x y H Q=>∃p xs i v,x= .ref p/\y= .int i/\SqL K H p xs/\atI xs i=some v/\Q v H
def rIxT (K:W.Frag):R2:=fun x y H Q=>∃p xs i v,x= .ref p/\y= .int i/\SqT K H p xs/\atI xs i=some v/\Q v H
def rIxS:R2:=fun x y H Q=>∃z i c,x= .str z/\y= .int i/\z.length<=sizeLine/\atI z.cps.toList i=some c/\Q (.str ⟨#[c]⟩) H
theorem c2Y:IxR X (rIxL X.K):=by
 intro value slice pins s σ H x y v u Q I rx ry h hs
 obtain⟨p,xs,i,z,rfl,rfl,hq,he,q⟩:=h
 cases rx
 obtain⟨t,rfl⟩:=ry
 obtain⟨its,r,pl,hz⟩:=I.list hq
 obtain⟨j,h1,h2,h3,h4,h5⟩:=b3N he
 obtain⟨w,ew,rw'⟩:=r.get h2
 have hl:=r.length
 have hn:=a7J
 have fin:EP X pins σ Q w s:=⟨z,H,I,rw',q⟩
 by_cases h0:0<=i
 ·have hj:i.toNat=j:=by
   rw[seqIndex_of h0 h5]at h1
   exact YE h1
  exact item_listR pl.isList h0 (by omega) (by rw[hj];simpa using ew) fin hs
 ·have hj:(i+(its.toArray.size:Int)).toNat=j:=by
   rw[seqIndex_neg (by omega) h4]at h1
   rw[Yl,<-hl]
   exact YE h1
  exact subscriptTail_builtinR (x:=w) pl.isList.typeIs slot_list_getitem.lookup
   (wpAny_getItem_list_neg (Q:=fun r s'=>r=w/\EP X pins σ Q r s') pl.isList (by omega) (by rw[Yl] <;> omega) (by omega) (by rw[hj];simpa using ew) ⟨rfl,fin⟩) hs
theorem c5E:IxR X (rIxT X.K):=by
 intro value slice pins s σ H x y v u Q I rx ry h hs
 obtain⟨p,xs,i,z,rfl,rfl,hq,he,q⟩:=h
 cases rx
 obtain⟨t,rfl⟩:=ry
 obtain⟨its,r,pl,hz⟩:=I.tuple hq
 obtain⟨j,h1,h2,h3,h4,h5⟩:=b3N he
 obtain⟨w,ew,rw'⟩:=r.get h2
 have hl:=r.length
 have hn:=a7J
 have fin:EP X pins σ Q w s:=⟨z,H,I,rw',q⟩
 exact subscriptTail_builtinR (x:=w) pl.typeIs slot_tuple_getitem.lookup
  (getItem_tuple (j:=j) (Q:=fun r s'=>r=w/\EP X pins σ Q r s') pl (by omega) (by omega) (by rw[Yl,<-hl];exact h1) (by simpa using ew) ⟨rfl,fin⟩) hs
theorem c5F:IxR X rIxS:=by
 intro value slice pins s σ H x y v u Q I rx ry h hs
 obtain⟨z,i,c,rfl,rfl,hz,he,q⟩:=h
 obtain⟨t,rfl⟩:=rx
 obtain⟨t',rfl⟩:=ry
 obtain⟨j,h1,h2,h3,h4,h5⟩:=b3N he
 have hl:z.cps.toList.length=z.length:=by simp[Str.length]
 rw[hl]at h1 h4 h5
 have hn:=a7J
 exact tail_any (typeIs_str s z t) slot_str_getitem.lookup (getItem_str (c:=c) (by
  have e1:decide (i< -(2 ^ 63:Int))=false:=Yi (by omega)
  have e2:decide (i>=2 ^ 63)=false:=Yi (by omega)
  rw[e1,e2,Bool.or_false]) (by rw[h1];simpa using h2) ⟨.str ⟨#[c]⟩,H,I.tok _,⟨_,rfl⟩,q⟩) hs
/-! ### xs[i]=v,any sign -/
/-- the list's object behind a store -/
theorem b5P (its:List Value)(n j:Nat)(u:Value):Obj.mapSeq (·.setIfInBounds j u) { cls:= .type "list",data:= .seq its.toArray n }={ cls:= .type "list",data:= .seq (its.set j u).toArray n }:=by
 simp[Obj.mapSeq]
theorem Inv.lst {pins:List (Addr×Obj)}{σ:St}{H:Hp}{s:Shared}{p:Addr}{xs:List V}(I:Inv X pins σ H s)(h:H p=some (.lst xs)) :
  ∃(its:List Value)(n:Nat),Vals xs its/\s.heap.get? p=some { cls:= .type "list",data:= .seq its.toArray n }/\xs.length<=sizeLine:=by
 obtain⟨z,its,n,r,e⟩:=I.hok p _ h
 exact⟨its,n,r,e,z⟩
/-- the list at p is written by an update of its object -/
theorem Inv.lstUpd {pins:List (Addr×Obj)}{σ:St}{H:Hp}{s:Shared}{p:Addr}{xs ys:List V}{its its':List Value}{n n':Nat}{f:Obj->Obj}(I:Inv X pins σ H s)(h:H p=some (.lst xs))
  (ho:s.heap.get? p=some { cls:= .type "list",data:= .seq its.toArray n }) (hf:f { cls:= .type "list",data:= .seq its.toArray n }={ cls:= .type "list",data:= .seq its'.toArray n' }) (r:Vals ys its') (hz:ys.length<=sizeLine) (t:Nat) :
  Inv X pins σ (upd H p (.lst ys)) { s with heap:=s.heap.update p f,toks:=t }:=by
 have e:(s.heap.update p f).get? p=some { cls:= .type "list",data:= .seq its'.toArray n' }:=by
  rw[Xn f ho (by rw[hf] <;> rfl),hf]
 refine I.write (x:=p) (e:=p) (by rw[h];trivial) (.inl rfl) (fun b u hb q=>(YS _ _ (Ne.symm hb)).trans q) ⟨_,e⟩ ?_
 exact⟨hz,its',n',r,e⟩
def rSetL:V->V->V->Hp->(Hp->Prop)->Prop:=fun o i v H Q=>∃p xs k j,o= .ref p/\i= .int k/\H p=some (.lst xs)/\ixN xs.length k=some j/\Q (upd H p (.lst (xs.set j v)))
theorem set_list:PSet X rSetL:=by
 intro pins s σ H o i v ov iv u Q I ro ri rv h
 obtain⟨p,xs,k,j,rfl,rfl,hp,hj,q⟩:=h
 cases ro
 obtain⟨t,rfl⟩:=ri
 obtain⟨its,n,r,ho,hz⟩:=I.lst hp
 obtain⟨h1,h2,h3,h4⟩:=b6S hj
 have hl:=r.length
 have hn:=a7J
 have I':Inv X pins σ (upd H p (.lst (xs.set j v))) { s with heap:=s.heap.update p (Obj.mapSeq (·.setIfInBounds j u)) }:=
  I.lstUpd hp ho (b5P its n j u) (r.set rv j) (by rw[Xa];exact hz) s.toks
 by_cases h0:0<=k
 ·have hk:k.toNat=j:=by
   rw[seqIndex_of h0 h4]at h1
   exact YE h1
  exact W.ki_setAt ho h0 (by omega) (by rw[Yl,<-hl];exact h4) (by rw[hk];exact⟨_,I',q⟩)
 ·have hk:(k+(its.toArray.size:Int)).toNat=j:=by
   rw[seqIndex_neg (by omega) h3]at h1
   rw[Yl,<-hl]
   exact YE h1
  exact W.ki_setBack ho (by omega) (by rw[Yl,<-hl];exact h3) (by omega) (by rw[hk];exact⟨_,I',q⟩)

/-! ### slices -/
theorem b2N (lo hi:Option Int)(n:Nat):(sliceBounds lo hi none n).1=((HT.sIx n 0 lo:Nat):Int)/\(sliceBounds lo hi none n).2.1=((HT.sIx n n hi:Nat):Int)/\(sliceBounds lo hi none n).2.2=1:=by
 refine⟨?_,?_,rfl⟩
 ·cases lo with
  |none=>simp[sliceBounds,HT.sIx]
  | some i=>
   simp only[sliceBounds,HT.sIx,Option.getD_none,show (1:Int) > 0 by decide,if_true]
   by_cases h:i<0
   ·simp only[h,if_true] <;> omega
   ·simp only[h,if_false] <;> omega
 ·cases hi with
  |none=>simp[sliceBounds,HT.sIx]
  | some i=>
   simp only[sliceBounds,HT.sIx,Option.getD_none,show (1:Int) > 0 by decide,if_true]
   by_cases h:i<0
   ·simp only[h,if_true] <;> omega
   ·simp only[h,if_false] <;> omega
theorem b1C (its:List Value)(lo hi:Option Int):slicePick its.toArray lo hi none=((its.drop (HT.sIx its.length 0 lo)).take (HT.sIx its.length its.length hi-HT.sIx its.length 0 lo)).toArray:=by
 obtain⟨h1,h2,h3⟩:=b2N lo hi its.toArray.size
 unfold slicePick
 rw[h1,h2,h3]
 simp only[sliceRange_one,pick_run,Yl] <;> rfl
/-- xs[lo:hi] of a list:a new list -/
def rSlL (K:W.Frag):V->Option Int->Option Int->Hp->VK->Prop:=fun x lo hi H Q=>∃a xs,x= .ref a/\SqL K H a xs/\∀p,H p=none->Q (.ref p) (upd H p (.lst (cutV xs lo hi)))
theorem c2A:SlR X (rSlL X.K):=by
 intro pins s σ H x v vl vu lo hi sl Q I rx hs pl pu h
 obtain⟨a,xs,rfl,hx,q⟩:=h
 cases rx
 obtain⟨its,r,ht,hz⟩:=I.list hx
 have hlen:=r.length
 refine⟨"list",_,slot_list_getitem.lookup,ht.isList.typeIs,?_⟩
 refine wpAny_getItem_list_slice ht.isList hs pl pu .none (by simp) ?_ (by rw[Yl] <;> omega)
 rw[b1C,<-hlen]
 refine⟨.ref s.heap.objs.size,_,I.laid (t':=s.toks) (o:= .lst (cutV xs lo hi)) (fun b ob q=>Yd _ q) (Ye _) ?_,rfl,q _ (I.hok.fresh (Ye _))⟩
 exact⟨Yn (b4Z xs lo hi) hz,_,0,(r.drop (HT.sIx xs.length 0 lo)).take (HT.sIx xs.length xs.length hi-HT.sIx xs.length 0 lo),YB _ rfl⟩

/-! ### in,not in:flat items -/
def flatV:V->Bool
 |.non=>true
 |.bl _=>true
 |.int _=>true
 |.str _=>true
 |_=>false
/-- == of flat values -/
def eqV:V->V->Bool
 |.non,.non=>true
 |.bl a,.bl b=>a == b
 |.bl a,.int b=>(if a then 1 else 0) == b
 |.int a,.bl b=>a == (if b then 1 else 0)
 |.int a,.int b=>a == b
 |.str a,.str b=>a == b
 |_,_=>false
theorem c5L {A:Around}{s:Shared}{y x:V}{u v:Value}(ry:RelV y u)(rx:RelV x v)(fy:flatV y=true)(fx:flatV x=true):SeqAt.EqAt A s u v (eqV y x):=by
 cases y with
 | non=>
  cases ry
  cases x with
  |non=>cases rx;exact SeqAt.EqAt.same _
  |bl b=>cases rx;exact SeqAt.EqAt.none_bool b
  |int b=>obtain⟨t,rfl⟩:=rx;exact SeqAt.EqAt.none_int b t
  |str b=>obtain⟨t,rfl⟩:=rx;exact SeqAt.EqAt.none_str b t
  |_=>exact absurd (show false=true from fx) Yg
 | bl a=>
  cases ry
  cases x with
  |non=>cases rx;exact SeqAt.EqAt.bool_none a
  |bl b=>cases rx;exact SeqAt.EqAt.bool_bool a b
  |int b=>obtain⟨t,rfl⟩:=rx;exact SeqAt.EqAt.bool_int a b t
  |str b=>obtain⟨t,rfl⟩:=rx;exact SeqAt.EqAt.bool_str a b t
  |_=>exact absurd (show false=true from fx) Yg
 | int a=>
  obtain⟨t',rfl⟩:=ry
  cases x with
  |non=>cases rx;exact SeqAt.EqAt.int_none a t'
  |bl b=>cases rx;exact SeqAt.EqAt.int_bool a t' b
  |int b=>obtain⟨t,rfl⟩:=rx;exact SeqAt.EqAt.int_int a t' b t
  |str b=>obtain⟨t,rfl⟩:=rx;exact SeqAt.EqAt.int_str a t' b t
  |_=>exact absurd (show false=true from fx) Yg
 | str a=>
  obtain⟨t',rfl⟩:=ry
  cases x with
  |non=>cases rx;exact SeqAt.EqAt.str_none a t'
  |bl b=>cases rx;exact SeqAt.EqAt.str_bool a t' b
  |int b=>obtain⟨t,rfl⟩:=rx;exact SeqAt.EqAt.str_int a t' b t
  |str b=>obtain⟨t,rfl⟩:=rx;exact SeqAt.EqAt.str_str a t' b t
  |_=>exact absurd (show false=true from fx) Yg
 |_=>exact absurd (show false=true from fy) Yg
/-- the items' answers,read off the values (a value's own answer does not lean on its token) -/
def eqU (x:V)(u:Value):Bool:=match u with
 |.none=>eqV .non x
 |.bool b=>eqV (.bl b) x
 |.int i _=>eqV (.int i) x
 |.str z _=>eqV (.str z) x
 |_=>false
theorem c1C {x y:V}{u:Value}(r:RelV y u)(f:flatV y=true):eqU x u=eqV y x:=by
 cases y with
 |non=>cases r;rfl
 |bl b=>cases r;rfl
 |int i=>obtain⟨t,rfl⟩:=r;rfl
 |str z=>obtain⟨t,rfl⟩:=r;rfl
 |_=>exact absurd (show false=true from f) Yg
theorem a6L {x:V}:∀{xs:List V}{us:List Value},Vals xs us->xs.all flatV=true->us.any (eqU x)=xs.any fun y=>eqV y x
 |_,_,.nil,_=>rfl
 | y::xs,u::us,.cons r t,f=>by
  rw[Y3,YC]at f
  rw[Xq,Xq,c1C r f.1,a6L t f.2]
theorem a1Z {A:Around}{s:Shared}{x:V}{v:Value}(rx:RelV x v)(fx:flatV x=true):∀{xs:List V}{us:List Value},Vals xs us->xs.all flatV=true->∀u∈us,SeqAt.EqAt A s u v (eqU x u)
 |_,_,.nil,_=>fun u hu=>by cases hu
 | y::xs,u::us,.cons r t,f=>fun u' hu=>by
  rw[Y3,YC]at f
  rcases Yv.mp hu with rfl | hu
  ·rw[c1C r f.1];exact c5L r rx f.1 fx
  ·exact a1Z rx fx t f.2 u' hu
def inV (x:V)(xs:List V):Bool:=xs.any fun y=>eqV y x
/-- x in a list or tuple of flat items -/
def rIn (K:W.Frag)(neg:Bool):R2:=fun x y H Q=>∃p xs,y= .ref p/\(SqL K H p xs\/SqT K H p xs)/\flatV x=true/\xs.all flatV=true/\Q (.bl (if neg then !inV x xs else inV x xs)) H
theorem rW:OpR X (compareOp .In) (rIn X.K false):=by
 intro pins s σ H x y v u Q I rx ry h
 obtain⟨p,xs,rfl,hq,fx,fs,q⟩:=h
 cases ry
 rcases hq with hq | hq
 ·obtain⟨its,r,pl,hz⟩:=I.list hq
  refine SeqAt.in_listAt (eqU x) pl.isList (fun w hw=>a1Z rx fx r fs w (by simpa using hw)) ⟨.bl _,H,I,rfl,?_⟩
  rw[show its.toArray.any (eqU x)=its.any (eqU x) by simp,a6L r fs]
  exact q
 ·obtain⟨its,r,pl,hz⟩:=I.tuple hq
  refine SeqAt.in_tupleAt (eqU x) pl (fun w hw=>a1Z rx fx r fs w (by simpa using hw)) ⟨.bl _,H,I,rfl,?_⟩
  rw[show its.toArray.any (eqU x)=its.any (eqU x) by simp,a6L r fs]
  exact q
theorem zR:OpR X (compareOp .NotIn) (rIn X.K true):=by
 intro pins s σ H x y v u Q I rx ry h
 obtain⟨p,xs,rfl,hq,fx,fs,q⟩:=h
 cases ry
 rcases hq with hq | hq
 ·obtain⟨its,r,pl,hz⟩:=I.list hq
  refine SeqAt.notIn_listAt (eqU x) pl.isList (fun w hw=>a1Z rx fx r fs w (by simpa using hw)) ⟨.bl _,H,I,rfl,?_⟩
  rw[show its.toArray.any (eqU x)=its.any (eqU x) by simp,a6L r fs]
  exact q
 ·obtain⟨its,r,pl,hz⟩:=I.tuple hq
  refine SeqAt.notIn_tupleAt (eqU x) pl (fun w hw=>a1Z rx fx r fs w (by simpa using hw)) ⟨.bl _,H,I,rfl,?_⟩
  rw[show its.toArray.any (eqU x)=its.any (eqU x) by simp,a6L r fs]
  exact q
/-! ### len,list(x),tuple(x) of any list or tuple that is read -/
theorem b3M:CallR X (.builtin "len") (fun xs H Q=>∃p ys,xs= [.ref p]/\(SqL X.K H p ys\/SqT X.K H p ys)/\Q (.int ys.length) H):=by
 intro pins s σ H xs us Q I r h
 obtain⟨p,ys,rfl,hq,q⟩:=h
 obtain⟨u,rfl,rx⟩:=vals1 r
 cases rx
 have hn:=a7J
 rcases hq with hq | hq
 ·obtain⟨its,r',pl,hz⟩:=I.list hq
  have hlen:=r'.length
  exact Calls.call_len_list pl.isList (by simp only[Yl] <;> omega) ⟨.int ys.length,H,I.tok _,⟨s.toks+1,by rw[Yl,hlen]⟩,q⟩
 ·obtain⟨its,r',pl,hz⟩:=I.tuple hq
  have hlen:=r'.length
  exact len_tuple pl (by simp only[Yl] <;> omega) ⟨.int ys.length,H,I.tok _,⟨s.toks+1,by rw[Yl,hlen]⟩,q⟩
theorem b3L:CallR X (.builtin "len") (fun xs H Q=>∃z,xs= [.str z]/\z.length<=sizeLine/\Q (.int z.length) H):=by
 intro pins s σ H xs us Q I r h
 obtain⟨z,rfl,hz,q⟩:=h
 obtain⟨u,rfl,t,rfl⟩:=vals1 r
 have hn:=a7J
 exact len_str (by omega) ⟨.int z.length,H,I.tok _,⟨_,rfl⟩,q⟩
theorem b3K:CallR X (.type "list") (fun xs H Q=>∃p ys,xs= [.ref p]/\(SqL X.K H p ys\/SqT X.K H p ys)/\∀l,H l=none->Q (.ref l) (upd H l (.lst ys))):=by
  intro pins s σ H xs us Q I r h
  obtain⟨p,ys,rfl,hq,q⟩:=h
  obtain⟨u,rfl,rx⟩:=vals1 r
  cases rx
  have fin:∀(its:List Value),Vals ys its->ys.length<=sizeLine->∀(h':Heap)(c':Nat),(∀b o',s.heap.get? b=some o'->h'.get? b=some o')->
      h'.get? s.heap.objs.size=some { cls:= .type "list",dict:=none,data:= .seq its.toArray c',slots:=#[] }->EP X pins σ Q (.ref s.heap.objs.size) { s with heap:=h' }:=fun its r' hz h' c' kp e=>
    ⟨.ref s.heap.objs.size,_,I.laid (t':=s.toks) kp (Ye _) (show ObjOk X.prog X.w _ h' _ (.lst ys) from ⟨hz,its,c',r',e⟩),rfl,q _ (I.hok.fresh (Ye _))⟩
  rcases hq with hq | hq
  · obtain⟨its,r',pl,hz⟩:=I.list hq
    have hlen:=r'.length
    obtain⟨o,ho,hc,n,hd⟩:=pl.isList
    exact call_list_seq p (.inl rfl) ho hc hd (fun h' c' kp e=>fin its r' hz h' c' kp e) (by simp only[Yl] <;> omega)
  · obtain⟨its,r',pl,hz⟩:=I.tuple hq
    have hlen:=r'.length
    obtain⟨o,ho,hc,n,hd⟩:=pl
    exact call_list_seq p (.inr rfl) ho hc hd (fun h' c' kp e=>fin its r' hz h' c' kp e) (by simp only[Yl] <;> omega)
/-! ### the call of a builtin's method:o.m(..) -/
/-- the value is of that builtin type -/
def tyV (K:W.Frag)(T:String)(x:V)(H:Hp):Prop:=match x with
  |.str _=>T="str"
  |.int _=>T="int"
  | .ref p=>(T="list"/\∃xs,SqL K H p xs)\/(T="tuple"/\∃o,K.lookup p=some o/\o.cls= .type "tuple"/\o.dict=none)\/
      (T="dict"/\((∃kvs,H p=some (.dK kvs))\/∃kvs,H p=some (.dT kvs)))\/(T="set"/\∃S n,H p=some (.set S n))
  |_=>False
theorem c4E {pins:List (Addr×Obj)}{σ:St}{H:Hp}{s:Shared}{T:String}{x:V}{v:Value}(I:Inv X pins σ H s)(r:RelV x v)(ty:tyV X.K T x H) :
  s.TypeIs v T/\∀a,v= .ref a->∃ob,s.heap.get? a=some ob/\ob.dict=none:=by
 cases x with
 | str z=>
  obtain⟨t,rfl⟩:=r
  cases (show T="str" from ty)
  exact⟨typeIs_str s z t,fun _ e=>nomatch e⟩
 | int i=>
  obtain⟨t,rfl⟩:=r
  cases (show T="int" from ty)
  exact⟨typeIs_int s i t,fun _ e=>nomatch e⟩
 | ref p =>
  cases r
  rcases ty with ⟨rfl,xs,hq⟩ | ⟨rfl,o,hk,hc,hd⟩ | ⟨rfl,hk⟩ | ⟨rfl,S,n,hk⟩
  ·obtain⟨its,_,pl,_⟩:=I.list hq
   refine⟨pl.isList.typeIs,fun a e=>?_⟩
   cases e
   obtain⟨o,n,e,c,hd,_⟩:=pl
   exact⟨o,e,hd⟩
  ·refine⟨⟨o,I.kIn p o hk,hc⟩,fun a e=>?_⟩
   cases e
   exact⟨o,I.kIn _ o hk,hd⟩
  ·have z:∃o,s.heap.get? p=some o/\o.ExactDict:=by
    rcases hk with ⟨kvs,hk⟩ | ⟨kvs,hk⟩
    ·obtain⟨_,_,_,_,o,_,_,e,ex,_⟩:=I.hok p _ hk
     exact⟨o,e,ex⟩
    ·obtain⟨_,_,_,_,o,_,_,e,ex,_⟩:=I.hok p _ hk
     exact⟨o,e,ex⟩
   obtain⟨o,e,ex⟩:=z
   refine⟨⟨o,e,ex.1⟩,fun a e2=>?_⟩
   cases e2
   exact⟨o,e,ex.2.1⟩
  ·obtain⟨o,_,_,_,e,ex,_⟩:=I.hok p _ hk
   refine⟨⟨o,e,ex.1⟩,fun a e2=>?_⟩
   cases e2
   exact⟨o,e,ex.2.1⟩
 |_=>exact False.elim ty
def tBM (K:W.Frag)(T:String)(r:V->List V->Hp->VK->Prop)(to:TE)(t:TA):TE:=fun σ H Q=>to σ H fun x H1=>tyV K T x H1/\t σ H1 fun xs H2=>r x xs H2 Q
variable {o e:Expr}{es:List Expr}{to:TE}{t:TA}{name:Str}{apos cpos:Pos}{T id:String}{r:V->List V->Hp->VK->Prop}
theorem b1L (pa:PlainAttrs T)(slot:Slot T name id)(hty:typeOf (.builtin id)=pure (.type "method_descriptor"))(hm:MtR X id r)(ho:PE X o to)(ha:PA X (e::es) t)
  (hbase:attributeBase o name X.env (eval o X.env)=eval o X.env:=by rfl)
  (hfew:((backTo cpos (starEach (e::es) X.env)).all (fun x=>!x.1) && (backToKw cpos (keywordEach [] X.env)).all (fun x=>x.1.isSome)
   && decide ((e::es).length+([]:List Keyword).length+(if ([]:List Keyword).isEmpty then 0 else 1)<30))=true:=by rfl)
  (hline:(apos.endLine == cpos.line)=true:=by rfl) (hs:starEach (e::es) X.env=(false,eval e X.env)::starEach es X.env:=by rfl) (hplain:(backTo cpos (starEach es X.env)).any (·.1)=false:=by rfl) :
  PE X (.Call (.Attribute o name apos) (e::es) [] cpos) (tBM X.K T r to t):=by
 intro pins s σ H Q I h
 refine wpAny_Call_method_late hbase hfew hline rfl (thn (ho pins s σ H _ I h) fun v s1 hz9=>?_)
 obtain⟨x,H1,I1,r1,ty,q1⟩:=hz9
 obtain⟨h1,h2⟩:=c4E I1 r1 ty
 refine⟨T,id,pa,slot,hty,h1,h2,?_⟩
 have hA:=ha cpos pins s1 σ H1 _ I1 q1
 rw[hs]at hA ⊢
 refine Calls.callWith_builtin (by show (false || (backTo cpos (starEach es X.env)).any (·.1))=false;rw[hplain] <;> rfl) (XM ?_)
 exact thn hA fun us s2 ⟨vs,H2,I2,r2,q2⟩=>hm pins s2 σ H2 x vs v us Q I2 r1 r2 q2
/- xs.append(e),list.index on a module's tuple .. are MtR facts of 06m -/
end
end L2

namespace L2
open PySem PySem.Spec PyProof.Rows

def MtM (X:Cx)(id:String)(r:V->List V->Hp->VK->Prop):Prop:=
 ∀ (pins:List (Addr×Obj))(s:Shared)(σ:St)(H:Hp)(x:V)(xs:List V)(v:Value)(us:List Value)(Q:VK),Inv X pins σ H s->RelV x v->Vals xs us->r x xs H Q->
  wpAny (model X.prog X.w) X.A (call (.builtin id) (v::us)) (EP X pins σ Q) X.xe s

/-! ### lists of values -/
theorem Vals.one:∀{x:V}{us:List Value},Vals [x] us->∃u,us= [u]/\RelV x u
 |_,_,.cons r .nil=>⟨_,rfl,r⟩
theorem Vals.two:∀{x y:V}{us:List Value},Vals [x,y] us->∃u v,us= [u,v]/\RelV x u/\RelV y v
 |_,_,_,.cons r (.cons q .nil)=>⟨_,_,rfl,r,q⟩
theorem Vals.eraseIdx:∀{xs:List V}{us:List Value}(i:Nat),Vals xs us->Vals (xs.eraseIdx i) (us.eraseIdx i)
 |_,_,_,.nil=> .nil
 |_,_,0,.cons _ t=>t
 |_,_,i+1,.cons r t=> .cons r (Vals.eraseIdx i t)
theorem b1U {α:Type}:∀(l:List α)(i:Nat),(l.eraseIdx i).length<=l.length
 |[],_=>Ye _
 |_::_,0=>Nat.le_succ _
 |_::r,i+1=>Nat.succ_le_succ (b1U r i)
section
variable {X:Cx}{pins:List (Addr×Obj)}{σ:St}{H:Hp}{s:Shared}{l b:Addr}{xs ys zs:List V}

/-! ### the two steps:a tracked list is rewritten,a new list is laid -/
theorem Inv.lset {its its':List Value}{n:Nat}{f:Array Value->Array Value}{t':Nat}(I:Inv X pins σ H s)(hH:H l=some (.lst xs))
  (e:s.heap.get? l=some { cls:= .type "list",data:= .seq its.toArray n }) (hf:f its.toArray=its'.toArray) (hv:Vals ys its') (hz:ys.length<=sizeLine) :
  Inv X pins σ (upd H l (.lst ys)) { s with heap:=s.heap.update l (Obj.mapSeq f),toks:=t' }:=by
 have q:=PySem.IsL.update e f
 rw[hf]at q
 refine I.write (x:=l) (e:=l) (by rw[hH];exact trivial) (.inl rfl) (fun b' u hb hu=>(YS s.heap (Obj.mapSeq f) (Ne.symm hb)).trans hu) ⟨_,q⟩ ?_
 exact⟨hz,its',_,hv,q⟩
theorem Inv.lnew {its:List Value}{t':Nat}(I:Inv X pins σ H s)(hv:Vals ys its)(hz:ys.length<=sizeLine) :
  Inv X pins σ (upd H s.heap.objs.size (.lst ys)) { s with heap:=s.heap.push { cls:= .type "list",data:= .seq its.toArray },toks:=t' }:=
 I.laid (fun _ _ q=>Yd _ q) (Ye _) ⟨hz,its,0,hv,YB _ rfl⟩
theorem Inv.fresh (I:Inv X pins σ H s):H s.heap.objs.size=none:=I.hok.fresh (Ye _)
theorem Inv.lstM (I:Inv X pins σ H s)(hH:H l=some (.lst xs)):xs.length<=sizeLine/\∃(its:List Value)(n:Nat),Vals xs its/\xs.length=its.length/\s.heap.get? l=some { cls:= .type "list",data:= .seq its.toArray n }:=by
 obtain⟨z,its,n,r,e⟩:=I.hok l _ hH
 exact⟨z,its,n,r,r.length,e⟩

theorem c0I {n:Nat}(h:n<=sizeLine):Builtin.List.listTooLong n=false:=by
 unfold Builtin.List.listTooLong
 exact Yi (by omega)
end

section
variable {X:Cx}

/-! ### methods -/
def rAppend:V->List V->Hp->VK->Prop:=fun x vs H Q=>∃l xs y,x= .ref l/\vs= [y]/\H l=some (.lst xs)/\xs.length<sizeLine/\Q .non (upd H l (.lst (xs++[y])))
theorem b7Z:MtM X "list.append" rAppend:=by
 intro pins s σ H x vs v us Q I rx rv h
 obtain⟨l,xs,y,rfl,rfl,hH,hz,q⟩:=h
 cases rx
 obtain⟨u,rfl,ru⟩:=rv.one
 obtain⟨z,its,n,r,hl,e⟩:=I.lstM hH
 refine XJ F.slot_list_append ⟨_,e,rfl⟩ F.entry_list_append (F.args_list_append_2 _ _) (PySem.list_append l its.toArray n u (by rw[Yl];omega)) ⟨e,?_⟩
 refine⟨.non,_,I.lset (its':=its++[u]) hH e (by simp) (r.append (.cons ru .nil)) ?_,rfl,q⟩
 rw[Yj,List.length_singleton]
 omega

def rExtend:V->List V->Hp->VK->Prop:=fun x vs H Q=>∃l b xs zs,x= .ref l/\vs= [.ref b]/\H l=some (.lst xs)/\H b=some (.lst zs)/\xs.length+zs.length<=sizeLine/\Q .non (upd H l (.lst (xs++zs)))
theorem c5Z:MtM X "list.extend" rExtend:=by
 intro pins s σ H x vs v us Q I rx rv h
 obtain⟨l,b,xs,zs,rfl,rfl,hH,hB,hz,q⟩:=h
 cases rx
 obtain⟨u,rfl,ru⟩:=rv.one
 cases ru
 obtain⟨z,its,n,r,hl,e⟩:=I.lstM hH
 obtain⟨z2,its2,n2,r2,hl2,e2⟩:=I.lstM hB
 have hsz:its.toArray.size+its2.toArray.size<=sizeLine:=by rw[Yl,Yl];omega
 have hlong:¬ (!its.toArray.isEmpty && Builtin.List.listTooLong (its.toArray.size+its2.toArray.size))=true:=by
  rw[c0I hsz,XN]
  exact Yg
 refine XJ F.slot_list_extend ⟨_,e,rfl⟩ F.entry_list_extend (F.args_list_extend_2 _ _)
  (AutoSeq1.list_extend_list_list_0 l its.toArray n b its2.toArray n2 hlong (by rw[Yl];omega) (by omega)) ⟨e,e2,?_⟩
 refine⟨.non,_,I.lset (its':=its++its2) hH e (by simp) (r.append r2) ?_,rfl,q⟩
 rw[Yj]
 omega

def rPopAt:V->List V->Hp->VK->Prop:=fun x vs H Q=>∃l xs i k y,x= .ref l/\vs= [.int i]/\H l=some (.lst xs)/\ -(2 ^ 63)<=i/\i<2 ^ 63/\seqIndex? i xs.length=some k/\xs[k]? =some y/\Q y (upd H l (.lst (xs.eraseIdx k)))
theorem c0L:MtM X "list.pop" rPopAt:=by
 intro pins s σ H x vs v us Q I rx rv h
 obtain⟨l,xs,i,k,y,rfl,rfl,hH,h1,h2,hk,hy,q⟩:=h
 cases rx
 obtain⟨u,rfl,ru⟩:=rv.one
 obtain⟨t,rfl⟩:=ru
 obtain⟨z,its,n,r,hl,e⟩:=I.lstM hH
 obtain⟨w,hw,rw'⟩:=r.get hy
 refine XJ F.slot_list_pop ⟨_,e,rfl⟩ F.entry_list_pop (F.args_list_pop_2 _ _)
  (MeetsSeq.list_pop_at l its.toArray n i t k w (fitsIndex_both h1 h2) (by rw[Yl,<-hl];exact hk) (by rw[<-Array.getElem?_toList];exact hw) (by rw[Yl];omega)) ⟨e,?_⟩
 refine⟨y,_,I.lset (its':=its.eraseIdx k) hH e ?_ (r.eraseIdx k) ?_,rw',q⟩
 ·show its.toArray.eraseIdxIfInBounds k=(its.eraseIdx k).toArray
  rw[List.eraseIdxIfInBounds_toArray]
 ·have:=b1U xs k
  omega

/-! ### list+list,list += list,list*int -/
def rCat:R2:=fun x y H Q=>∃l b xs zs,x= .ref l/\y= .ref b/\H l=some (.lst xs)/\H b=some (.lst zs)/\xs.length+zs.length<=sizeLine/\∀p,H p=none->Q (.ref p) (upd H p (.lst (xs++zs)))
theorem c4W:OpR X (binaryOp .Add) rCat:=by
 intro pins s σ H x y v u Q I rx ry h
 obtain⟨l,b,xs,zs,rfl,rfl,hH,hB,hz,q⟩:=h
 cases rx
 cases ry
 obtain⟨z,its,n,r,hl,e⟩:=I.lstM hH
 obtain⟨z2,its2,n2,r2,hl2,e2⟩:=I.lstM hB
 refine PySem.P.add_list e e2 ?_ (by rw[Yl,Yl];omega)
 have ea:its.toArray++its2.toArray=(its++its2).toArray:=by simp
 rw[ea]
 exact⟨.ref _,_,I.lnew (t':=s.toks) (r.append r2) (by rw[Yj];omega),rfl,q _ I.fresh⟩
/-! ### del xs[i] -/
end

/-! ### xs[a:b]=ys -/
section
variable {prog:Program}{w:World}{A:Around}{E:Value->Shared->Prop}{s:Shared}
end

section
variable {X:Cx}
end
end L2

namespace Att
open PySem PySem.W PySem.Calls PyProof.Rows

/-! ### the script -/
theorem a8Z {P:Params}{h:Heap}:∀(ns:List Int)(vs:List Value),WellAll P h vs (ns.map WData.int)->IntsAre vs ns:=by
 intro ns
 induction ns with
 | nil=>
  intro vs w
  rw[List.map_nil]at w
  cases w
  exact .nil
 | cons n ns ih=>
  intro vs w
  rw[Yo]at w
  cases w with
  | cons a b=>
   cases a
   exact .cons _ _ (ih _ b)

theorem b7O {l:OpenLaw}{n:Nat}(hn:l.most=some n){P:Params}{h:Heap}{args:List WData}{vals:List Value}
  (hpre:l.row.toRowW.claim.pre args=true) (hwl:WellAll P h vals args) :
  ∃a vs ns,vals= [Value.ref a]/\args= [WData.list (ns.map WData.int)]/\h.get? a=some { cls:= .type "list",data:= .seq vs.toArray }/\IntsAre vs ns/\ns.length<=n:=by
 have hsh:WShape.hasAll [] args [.list .int]=true:=(pre_splitW hpre).1
 have hc:l.pre.holds [] { args:=args }=true:=(pre_splitW hpre).2
 obtain⟨d,r,rfl,h1,h2⟩:=hasAllW_cons hsh
 obtain rfl:=hasAllW_nil h2
 obtain⟨xs,rfl,h3⟩:=hasW_list h1
 obtain⟨ns,rfl⟩:=items_int h3
 have hlen:ns.length<=n:=by
  unfold OpenLaw.pre at hc
  have h4:(WTm.not (.lt (.lit (.int (n:Int))) (.len (.arg 0)))).holds [] { args:=[.list (ns.map .int)] }=true:=by
   have h4:=(holds_andW hc).1
   rw[hn]at h4
   exact h4
  have h5:=condW_of h4 (w_not (w_lt w_lit (w_len_list (w_arg rfl))))
  rw[Ya]at h5
  refine Nat.le_of_not_lt fun q=>?_
  have q':(n:Int)<((ns.length:Nat):Int):=by omega
  first
   |(rw[Yk q']at h5;exact absurd h5 (by decide))
   |(simp at h5;omega)
 cases hwl with
 | cons w1 w2=>
  cases w2
  cases w1 with
  |list ho hall=>exact⟨_,_,ns,rfl,rfl,ho,a8Z ns _ hall,hlen⟩

theorem b7P (l:OpenLaw)(args:List WData):l.row.toRowW.claim.post args (.bool true) args=true:=
 postW_of (r:=l.row.toRowW) (X:=(true == true))
  (show WShape.has [] (.bool true) .bool=true by first | rfl | decide | simp[WShape.has,WShape.arms,WShape.armsAll])
  (show (WTm.eq .res (.lit (.bool true))).value [] { args:=args,res:=some (.bool true),after:=args }=some (.bool (true == true)) from w_eq_bool (w_res rfl) w_lit) rfl

/-! ### the attachment:holds_open's last premise (the goal 'hc' behind k_head) from a wpAny of the law's body -/
/-- the same from a codeAny of the CALL (for a layer whose function contracts speak of calls) -/
theorem attach_call {l:OpenLaw}{n:Nat}{q:Program}{loose:List Str}{XP:(Str->Option Value)->Heap->Prop}{YP:World->Heap->Prop}{d:DefRec}
  (hn:l.most=some n) (hdf:d.params.defaults= [])
  (call:∀(w:World)(s₀ s₁:Shared)(mg mb:Str->Option Value)(fa:Addr)(o:Obj)(pm cd doc:Value)(a:Addr)(vs:List Value)(ns:List Int),
   Ground q loose [] XP w s₀ mg mb s₁.heap->YP w s₁.heap->
   s₁.heap.get? fa=some o->o.data= .func (docDef d.name d.params d.body d.scope pm cd doc)->s₁.heap.CodeRec cd d.name->mg d.name=some (.ref fa)->
   s₁.heap.get? a=some { cls:= .type "list",data:= .seq vs.toArray }->IntsAre vs ns->ns.length<=n->s₁.gens=#[]->
   codeAny (model l.prog w) callerA (.call (.ref fa) ⟨[.ref a], []⟩) (fun r s'=>r= .ok (.ret (.bool true))/\OldK s₁.heap s'.heap/\s'.os=s₁.os/\AllBare s'.gens) s₁) :
  WalkO q loose XP YP l.row.toRowW d [] (fun f vs=>PySem.call f vs):=by
 intro w s₀ s₁ mg mb G Y fa o pm cd doc dV kV ho hd hcd hD hmg hg args vals as hpre hlay hrd hwl hlo
 obtain rfl:dV= .none:=Dflts.none hD hdf
 obtain rfl:kV= .none:=Dflts.noKw hD
 obtain⟨a,vs,ns,rfl,rfl,hobj,hints,hlen⟩:=b7O hn hpre hwl
 refine enter_call (XE (call w s₀ s₁ mg mb fa o pm cd doc a vs ns G Y ho (fd_plain hd) hcd hmg hobj hints hlen hg) fun r s' hq=>?_)
 obtain⟨rfl,h2,h3,h4⟩:=hq
 exact⟨.inl ⟨.bool true,.bool true, [],rfl,fun _=>rfl,.bool true,b7P l _,fun _=>⟨List.Pairwise.nil,fun _ hm=>(nomatch hm)⟩⟩,h2,h3,h4⟩

/-! ### rules over ANY heap (no ledger) from facts about the written part K:the library's own take a ledger (News) for what they write -/
section
variable {prog:Program}{w:World}{A:Around}{E:Value->Shared->Prop}{s:Shared}{K:Frag}

/-! the whole heap as the ledger:makes every rule that writes through a ledger a rule over any heap -/
end
end Att

namespace L2
open PySem PySem.Spec PyProof.Rows

theorem b1H:∀{vs:List Value}{ns:List Int},IntsAre vs ns->Vals (ns.map V.int) vs
 |_,_,.nil=> .nil
 |_,_,.cons n t h=> .cons ⟨t,rfl⟩ (b1H h)

/-- nothing is tracked but the script,known to the object (or it is an object of the module) -/
def Only (H:Hp):Prop:=∀b,H b=none\/∃o xs,H b=some (.frz o (.lst xs))

/-- THE HEAD:the law's promise,at the heap behind the top. F,the promise of the law's def,may use that base is part of the heap (so K.In base,base.Ns mainGlobals mg stand in Mod) -/
theorem c0T {P:Program}{w:World}{K:W.Frag}{mg mb:Str->Option Value}{CX:CXT}{k:Nat}{fa a:Addr}{fd:FuncData}{x:Str}{sp:Sp}{s₁:Shared}{vs:List Value}{ns:List Int}
    (KX:K.In s₁.heap) (hns:s₁.heap.Ns mainGlobals mg) (hb:s₁.heap.Ns builtinsNs mb) (hbb:∀x:Str,x≠"__name__"->mb x=bootBuiltins x) (hlim:s₁.heap.NoLimit) (hg:s₁.gens=#[])
    (ha:s₁.heap.get? a=some { cls:= .type "list",data:= .seq vs.toArray }) (hi:IntsAre vs ns) (hl:ns.length<=sizeLine) (hr:Room k callerA)
    (F:∀base:Heap,K.In base->base.Ns mainGlobals mg->FnOk P w K mg base CX k fa fd [x] sp) (hbind:∀(s:Shared)(u:Value),BindsTo s fd ⟨[u], []⟩ [(x,u)])
    (hsp:∀H:Hp,Only H->SqL K H a (ns.map V.int)->sp [.ref a] H (fun v _=>v= .bl true) fun _ _ _=>False)
    (hCX:∀H e s',CX [] H s₁ (fun _ _ _=>False) e s'->False) :
    codeAny (model P w) callerA (.call (.ref fa) ⟨[.ref a], []⟩) (fun r s'=>r= .ok (.ret (.bool true))/\OldK s₁.heap s'.heap/\s'.os=s₁.os/\AllBare s'.gens) s₁:=by
  have rv:=b1H hi
  have lenV:=hi.length
  -- from an abstract heap in which nothing but the script may be tracked
  have core :∀H:Hp,Only H->SqL K H a (ns.map V.int)->HOk P w H s₁.heap->(∀b,H b≠none->b=a)->(H a≠none->K.lookup a=none)->
      codeAny (model P w) callerA (.call (.ref fa) ⟨[.ref a], []⟩) (fun r s'=>r= .ok (.ret (.bool true))/\OldK s₁.heap s'.heap/\s'.os=s₁.os/\AllBare s'.gens) s₁:=by
    intro H hO hS hok hA hK
    have base_of:∀{b:Addr}{o:Obj},s₁.heap.get? b=some o->H b=none->(hidT s₁.heap H).get? b=some o:=fun e n=>c0U e n
    have noA:∀{b:Addr}{o:Obj}{es:Array DictEntry}{ep:Nat},s₁.heap.get? b=some o->o.data= .dict es ep->H b=none:=fun {b o es ep} e d=>by
      cases q:H b with
      |none=>rfl
      | some u=>
        have e':b=a:=hA b (by rw[q];simp)
        subst e'
        rw[ha]at e;cases e
        have d':Data.seq vs.toArray _=Data.dict es ep:=d
        cases d'
    have nsK:∀{b:Addr}{m:Str->Option Value},s₁.heap.Ns b m->(hidT s₁.heap H).Ns b m:=fun {b m} ⟨o,es,ep,e,d,r⟩=>⟨o,es,ep,base_of e (noA e d),d,r⟩
    have hKb:K.In (hidT s₁.heap H):=fun b o e=>base_of (KX b o e) (by
      cases q:H b with
      |none=>rfl
      | some u=>
        have e':b=a:=hA b (by rw[q];simp)
        subst e'
        rw[hK (by rw[q];simp)]at e;cases e)
    have hM:Mod K mg (hidT s₁.heap H):=⟨hKb,nsK hns,⟨mb,nsK hb,hbb⟩,let ⟨mc,h1,h2⟩:=hlim;⟨mc,nsK h1,h2⟩⟩
    have e0:Env0 P w K mg (hidT s₁.heap H) callerA [] s₁ H:=⟨rfl,hM,fun b o e=>c2S e,Nat.le_of_eq (b8J _ _),trivial,fun b hb=>absurd (show b∈([]:List Addr) from hb) (by simp),hok,.of_eq hg⟩
    refine XE ((F _ hKb (nsK hns)).run callerA [] s₁ H ⟨[.ref a], []⟩ [.ref a] [.ref a] _ _ hr e0 (hbind s₁ (.ref a)) (.cons rfl .nil) (hsp H hO hS)) fun r s' h=>?_
    cases r with
    |error e=>exact(hCX H e s' h).elim
    | ok fl =>
      cases fl with
      |next=>exact False.elim h
      |brk=>exact False.elim h
      |cont=>exact False.elim h
      | ret u=>
        obtain⟨v,H',os,bare,un,hok',r',q⟩:=h
        have q':v= .bl true:=q
        subst q'
        obtain rfl:u=Value.bool true:=r'
        refine⟨rfl,OldK.of_keep fun b o e=>?_,os,bare⟩
        cases q:H b with
        |none=>exact un.keep b o e q (by intro z;exact absurd (show b∈([]:List Addr) from z) (by simp)) (by simp)
        | some u=>
          rcases hO b with z | ⟨ob,xs,z⟩
          · rw[q]at z;cases z
          · have z2:=un.frzs b ob _ z
            obtain⟨e1,_⟩:=hok b _ z
            obtain⟨e2,_⟩:=hok' b _ z2
            rw[e]at e1;cases e1
            exact e2
  cases hk:K.lookup a with
  | some o=>
    -- the script is one of the module's own objects
    have e:=KX a o hk
    rw[ha]at e
    cases e
    refine core (fun _=>none) (fun _=> .inl rfl) (.inr ⟨_,vs.toArray,_,hk,rfl,rfl,rfl,by rw[Yl,lenV];exact hl,by simpa using rv⟩) (fun b u z=>by have z':(none:Option HO)=some u:=z;cases z') (fun b z=>absurd rfl z) fun z=>absurd rfl z
  | none =>
    refine core (fun b=>if b=a then some (.frz { cls:= .type "list",data:= .seq vs.toArray } (.lst (ns.map V.int))) else none) (fun b=>?_) (.inl (.inr ⟨{ cls:= .type "list",data:= .seq vs.toArray },if_pos rfl⟩)) (fun b u z=>?_) (fun b z=>?_) fun _=>hk
    · by_cases hb:b=a
      · exact .inr ⟨_,_,if_pos hb⟩
      · exact .inl (if_neg hb)
    · by_cases hb:b=a
      · have z':=(if_pos hb).symm.trans z
        cases z'
        subst hb
        exact⟨ha,by rw[Ya];exact hl,vs,_,rv,ha⟩
      · have z':=(if_neg hb).symm.trans z
        cases z'
    · by_cases hb:b=a
      · exact hb
      · exact absurd (if_neg hb) z
end L2

namespace L2
open PySem PySem.Spec PyProof.Rows

/-- the goal that k_head leaves (case hc),from the law's promise. F gives the function object fd (K's own) once,then the promise over every base -/
theorem walk_of {l:W.OpenLaw}{n k:Nat}{q:Program}{loose:List Str}{XP:(Str->Option Value)->Heap->Prop}{YP:World->Heap->Prop}{d:DefRec}{K:Params->W.Frag}{CX:World->CXT}{sp:World->Sp}{x:Str}
  (hn:l.most=some n) (hn2:n<=sizeLine) (hdf:d.params.defaults= []) (hr:Room k callerA)
  (hY:∀(w:World)(h:Heap),YP w h->(K w.params).In h)
  (F : ∀(w:World)(mg:Str->Option Value)(fa:Addr)(h:Heap),(K w.params).In h->h.Ns mainGlobals mg->mg d.name=some (.ref fa)->
   ∃ fd:FuncData,(∀(s:Shared)(u:Value),BindsTo s fd ⟨[u], []⟩ [(x,u)])/\
    ∀base:Heap,(K w.params).In base->base.Ns mainGlobals mg->FnOk l.prog w (K w.params) mg base (CX w) k fa fd [x] (sp w))
  (hsp:∀(w:World)(H:Hp)(a:Addr)(ns:List Int),ns.length<=n->Only H->SqL (K w.params) H a (ns.map V.int)->sp w [.ref a] H (fun v _=>v= .bl true) fun _ _ _=>False)
  (hCX:∀(w:World)(H:Hp)(s:Shared)(e:Value)(s':Shared),CX w [] H s (fun _ _ _=>False) e s'->False) :
  W.WalkO q loose XP YP l.row.toRowW d [] (fun f vs=>PySem.call f vs):=by
 refine Att.attach_call hn hdf fun w s₀ s₁ mg mb fa o pm cd doc a vs ns G Y ho hd hcd hmg hobj hints hlen hg=>?_
 have KX:=hY w _ Y
 obtain⟨fd,hb,hF⟩:=F w mg fa _ KX G.T.g hmg
 exact c0T KX G.T.g G.T.b G.T.builtins G.T.nolimit hg hobj hints (Yn hlen hn2) hr hF hb (fun H hO hS=>hsp w H a ns hlen hO hS) fun H e s'=>hCX w H s₁ e s'
end L2

/- THE LAST THEOREM (shape;LID,My.* are yours):
   My.Adr:a structure of the addresses that your layer names (classes,functions);My.Txt K t:a structure (Prop) of the equations over K;
   My.txt_mk:{K} {implicit addresses ..} (e1:nsIn K mainGlobals "law"=some (some (.ref f))) (e2:K.lookup f=some ⟨oc,od,.func (fnOf "law" "law" params body scope dV kV doc pm an cdv ct),sl⟩) (e3:codeIn K cdv "law"=true) .. :∃t,My.Txt K t

set_option maxRecDepth 100000 in
set_option maxHeartbeats 0 in
theorem PySem.Challenge.cw_LID_holds : PySem.Challenge.rw_LID.Holds := by
 w_on;o_law;k_head;(case hw=>w_witness2)
 k_fill
 refine L2.walk_of (l:=PySem.Challenge.rw_LID) (n:=63) (k:=40) (x:="script") (CX:=fun w=> ..) (sp:=fun _=>My.sp_law) rfl (by decide) rfl ⟨rfl,by decide,by decide⟩ (fun w h Y=>W.kIn_of Y) ?F ?S ?C
 case F=>
  intro w mg fa h KX G hmg
  have T:∃t,My.Txt (L2.KOf KX) t:=by
   dsimp only[L2.KOf]                          -- K must stand as «<heap const> w.params» for k_is
   refine' My.txt_mk ?e1 ?e2 ?e3 ..
   (case e1=>W.k_is)                    -- in the order:a name -> its address -> its object -> its parts
   (case e2=>W.k_is)
   ..
  obtain⟨t,T⟩:=T
  have e0:=hmg.symm.trans (W.mg_of KX G T.law)
  cases e0                                       -- fa is the law's own address
  exact⟨_,fun s u=> .of_eq rfl,fun base kb nb=>My.law_fn T kb nb⟩     -- if «.of_eq rfl» comes too early:refine' ⟨_,?b,fun base kb nb=>My.law_fn T kb nb⟩;exact fun s u=> .of_eq rfl
 case S=>exact fun w H a ns hl hO hS=> ..
 case C=>exact ..
(the tactic k_is has no namespace:write k_is) -/

/-! SHORT WORDS over the layer:a def of the text,its body,what a loop and a test want. -/
namespace L2
open PySem PySem.Spec PyProof.Rows

/-! ### the text by places -/
def defArgs (s:Stmt):Arguments:=match s with
 |.FunctionDef _ a _ _ _ _ _ _ _ _=>a
 |_=>{ posonlyargs:=[],args:=[],vararg:=none,kwonlyargs:=[],kw_defaults:=[],kwarg:=none,defaults:=[] }
def defBody (s:Stmt):List Stmt:=match s with
 |.FunctionDef _ _ b _ _ _ _ _ _ _=>b
 |_=>[]
def defScope (s:Stmt):Scope:=match s with
 |.FunctionDef _ _ _ _ _ _ sc _ _ _=>sc
 |_=>{ kind:= .function,names:=[],isGenerator:=false,isCoroutine:=false }

/-! ### no exception leaves a def -/
abbrev CX0:CXT:=fun _ _ _ _ _ _=>False
abbrev E0:XK:=fun _ _ _=>False
theorem bU {X:Cx}:Passes CX0 X E0:=fun _ _ _ _ _ _ _ h=>h.elim

/-! ### a def (or method) of the text as it stands behind the top -/
structure Fun (K:W.Frag)(x qual:Str)(st:Stmt)(f:Addr)(fd:FuncData):Prop where
 ex :∃(oc:Value)(od:Option Addr)(kV doc pm:Value)(an:Option Addr)(cdv ct:Value)(osl:Array (Option Value)),
  fd=W.fnOf x qual (defArgs st) (defBody st) (defScope st) .none kV doc pm an cdv ct/\K.lookup f=some ⟨oc,od,.func fd,osl⟩/\W.codeIn K cdv qual=true
 kp:W.keepIn K (.ref f)=true
section
variable {P:Program}{w:World}{K:W.Frag}{mg:Str->Option Value}{base:Heap}
/-- THE RULE for a def:its body as a term of rules,and the reading of that term -/
theorem Fun.ok {x qual:Str}{st:Stmt}{f:Addr}{fd:FuncData}{N ps:List Str}{k:Nat}{sp:Sp}(F:Fun K x qual st f fd)(S:FnScope N ps (defScope st))(len:∀vs H Q E,sp vs H Q E->vs.length=ps.length)
  (hbody:∀(cdv:Value)(A:Around)(outer:List Env)(s:Shared)(H:Hp)(vs:List V)(Q:VK)(E:XK),Room k (A.deeper (envOfC qual (defScope st) s.heap.objs.size f cdv))->sp vs H Q E->
   ∃t,PSs (cxOf CX0 P w K mg base N qual (defScope st) f cdv A outer s H E).nox (defBody st) t/\t { nx:=fun _ H'=>Q .non H',rt:=Q } (start N vs) H):FnOk P w K mg base CX0 (k+1) f fd ps sp:=by
 obtain⟨oc,od,kV,doc,pm,an,cdv,ct,osl,rfl,lk,hcd⟩:=F.ex
 refine c3P lk hcd S len fun A outer s H vs Q E hr hsp=>?_
 obtain⟨t,h,q⟩:=hbody cdv A outer s H vs Q E hr hsp
 exact⟨t,h.nox,q⟩
/-- how its arguments bind (no defaults):h is «fun _ _ _ _ _ _ us hl=>match us,hl with | [_,_],_=>rfl»,one _ a parameter -/
theorem Fun.binds {x qual:Str}{st:Stmt}{f:Addr}{fd:FuncData}{ps:List Str}(F:Fun K x qual st f fd)
  (h:∀(kV doc pm:Value)(an:Option Addr)(cdv ct:Value)(us:List Value),us.length=ps.length->bindArgs (W.fnOf x qual (defArgs st) (defBody st) (defScope st) .none kV doc pm an cdv ct) ⟨us, []⟩=pure (ps.zip us)):Binds K fd ps []:=by
 obtain⟨oc,od,kV,doc,pm,an,cdv,ct,osl,rfl,lk,hcd⟩:=F.ex
 exact .all (h kV doc pm an cdv ct)
theorem c0X {x qual:Str}{st:Stmt}{f:Addr}{oc:Value}{od an:Option Addr}{osl:Array (Option Value)}{kV doc pm cdv ct:Value}(l:K.lookup f=some ⟨oc,od,.func (W.fnOf x qual (defArgs st) (defBody st) (defScope st) .none kV doc pm an cdv ct),osl⟩)
  (c:W.codeIn K cdv qual=true) (k:W.keepIn K (.ref f)=true):Fun K x qual st f (W.fnOf x qual (defArgs st) (defBody st) (defScope st) .none kV doc pm an cdv ct):=⟨⟨oc,od,kV,doc,pm,an,cdv,ct,osl,rfl,l,c⟩,k⟩
end
theorem c3O {A:Around}{k:Nat}(hr:Room k A):A.units+1<cLine:=Xf (Nat.add_le_add_left (by decide:1<=64) _) hr.units
theorem a7C {n:Nat}(h:n<=1000):n<sizeLine:=Xf h (by decide)

/-! ### expressions in short:the name that stands in the i-th slot -/
section
variable {X:Cx}
theorem pv (i:Nat){x:Str}{pos:Pos}(hN:X.N[i]? =some x:=by rfl)(hv:Vis X.env.scope x:=by first | exact Or.inl rfl | exact Or.inr (Or.inl rfl) | exact Or.inr (Or.inr rfl))(hd:(x == ("__debug__":Str))=false:=by decide)
  (hcd:(x == ("__classdict__":Str))=false:=by decide):PE X (.Name x pos) (tVar i):=b9X hN hv hd hcd
end

/-! ### tests -/
theorem c7B {A B:Prop}(h:B):if false=true then A else B:=by
 rw[if_neg Yg]
 exact h
theorem c6Z {A B:Prop}(h:A):if true=true then A else B:=by
 rw[if_pos rfl]
 exact h
theorem oG {c A B:Prop}[Decidable c](h1:c->A)(h2:¬ c->B):if c then A else B:=by
 by_cases h:c
 ·rw[if_pos h]
  exact h1 h
 ·rw[if_neg h]
  exact h2 h
/-! ### heaps -/
/-- all that was tracked is as it was -/
def Same (H H':Hp):Prop:=∀b o,H b=some o->H' b=some o
theorem Same.refl (H:Hp):Same H H:=fun _ _ h=>h
theorem Same.trans {H H1 H2:Hp}(a:Same H H1)(b:Same H1 H2):Same H H2:=fun c o h=>b c o (a c o h)
theorem Same.seq {K:W.Frag}{H H':Hp}{a:Addr}{xs:List V}(e:Same H H')(h:SqL K H a xs):SqL K H' a xs:=by
 rcases h with (h | ⟨o,h⟩) | h
 ·exact .inl (.inl (e _ _ h))
 ·exact .inl (.inr ⟨o,e _ _ h⟩)
 ·exact .inr h

end L2

/-! MORE RULES over the layer:great ints,bit_length,isinstance,min,max .. -/
namespace L2
open PySem PySem.Spec PyProof.Rows
theorem iM:bootBuiltins "len"=some (.builtin "len"):=by decide +kernel
theorem c5Q:bootBuiltins "min"=some (.builtin "min"):=by decide +kernel
theorem c5R:bootBuiltins "max"=some (.builtin "max"):=by decide +kernel
theorem lC:bootBuiltins "isinstance"=some (.builtin "isinstance"):=by decide +kernel
theorem a6J:bootBuiltins "list"=some (.type "list"):=by decide +kernel
theorem tL:bootBuiltins "str"=some (.type "str"):=by decide +kernel
theorem a5G:bootBuiltins "int"=some (.type "int"):=by decide +kernel
theorem c3E:bootBuiltins "bool"=some (.type "bool"):=by decide +kernel
theorem b1E:bootBuiltins "ValueError"=some (.type "ValueError"):=by decide +kernel

/-! ### bits of a natural number -/
theorem b5C {i:Int}{n:Nat}(h:i.natAbs<2 ^ n):Builtin.Int.intBits i<=n:=by
 unfold Builtin.Int.intBits
 split
 ·exact YO _
 ·rename_i h0
  have h1:i.natAbs≠0:=by
   intro q
   apply h0
   have:i=0:=by omega
   subst this;rfl
  exact(Nat.log2_lt h1).mpr h
section
variable {X:Cx}
def CMulB (i j:Int):Prop:=i.natAbs<2 ^ 4000/\j.natAbs<2 ^ 4000
theorem CMulB.ok {i j:Int}(h:CMulB i j):IntMulOk i j:=by
 unfold IntMulOk
 have h1:=b5C h.1
 have h2:=b5C h.2
 have h3:Builtin.Int.intTooBig ((Builtin.Int.intBits i:Int)+(Builtin.Int.intBits j:Int))=false:=by
  unfold Builtin.Int.intTooBig
  apply Yi
  have:(8000:Int)<=bitsLine:=by decide
  omega
 simp only[h3,XN]
 decide
theorem c2Q:OpR X (binaryOp .Mult) (rI CMulB fun i j=> .int (i*j)):=opI fun _ _ _ _ _ _ _ hc q=>mul_int q hc.ok
/-- isinstance(x,C),C one class -/
def clsV:V->Option Value
 |.ref a=>some (.ref a)
 |.ty n=>some (.type n)
 |_=>none
theorem b3H {c:V}{cv u:Value}(e:clsV c=some cv)(r:RelV c u):u=cv:=by
 cases c <;> simp only[clsV]at e <;> first | (cases e;exact r) | cases e
theorem c1Q:CallR X (.builtin "isinstance") (fun xs H Q=>∃x c cv t b,xs= [x,c]/\clsV c=some cv/\TyOf X.K H x t/\W.kitOne X.K t cv=some b/\Q (.bl b) H):=by
 intro pins s σ H xs us Q I rv h
 obtain⟨x,c,cv,t,b,rfl,ec,ty,e,q⟩:=h
 obtain⟨u,v,rfl,rx,rc⟩:=rv.two
 cases b3H ec rc
 exact b8H I rx ty e fun tk=>⟨.bl b,H,I.tok _,rfl,q⟩
end
section
variable {K:W.Frag}
theorem b3B:W.kitOne K (.type "int") (.type "bool")=some false:=by first | rfl | decide +kernel
theorem b1D:W.kitOne K (.type "bool") (.type "bool")=some true:=by rfl
end
/-! ### cuts:what is known in between -/
section
variable {X:Cx}{e:Expr}{te:TE}{st:Stmt}{ts:TS}
def tCut (t:TE):TE:=fun σ H Q=>∃P:VK,t σ H P/\∀x H',P x H'->Q x H'
theorem gD (h:PE X e te):PE X e (tCut te):=by
 intro pins s σ H Q I hw
 obtain⟨P,h1,h2⟩:=hw
 exact thn (h pins s σ H P I h1) fun v s1 ⟨x,H1,I1,r,q⟩=>⟨x,H1,I1,r,h2 x H1 q⟩
def tCutS (t:TS):TS:=fun D σ H=>∃N:St->Hp->Prop,t { D with nx:=N } σ H/\∀σ' H',N σ' H'->D.nx σ' H'
theorem nR (h:PS X st ts):PS X st (tCutS ts):=by
 intro pins s σ H D I hw
 obtain⟨N,h1,h2⟩:=hw
 refine thn (h pins s σ H { D with nx:=N } I h1) fun f s1 q=>?_
 cases f with
 |next=>obtain⟨σ',H',I',q⟩:=q;exact⟨σ',H',I',h2 σ' H' q⟩
 |ret v=>exact q
 |brk=>exact q
 |cont=>exact q
end
theorem dec_true {p:Prop}[Decidable p](h:decide p=true):p:=Xd h
theorem dec_false {p:Prop}[Decidable p](h:¬ decide p=true):¬ p:=fun q=>h (Yk q)
theorem c5T {z:Int}{n:Nat}(h:z.natAbs<2 ^ n)(hn:n<=4000:=by decide):z.natAbs<2 ^ 4000:=Yp h (Nat.pow_le_pow_right (by decide) hn)
theorem iR {z:Int}(h0: -18446744073709551616<z)(h1:z<18446744073709551616):z.natAbs<2 ^ 4000:=c5T (n:=64) (by omega)
/-! ### the script's draw -/
theorem c5U {ns:List Int}{k:Int}(h:0<ns.length):∃v:Int,atI (ns.map V.int) (k % (((ns.map V.int).length:Nat):Int))=some (.int v):=by
 rw[Ya]
 have h0:0<=k % ((ns.length:Nat):Int):=Int.emod_nonneg _ (by omega)
 have h1:k % ((ns.length:Nat):Int)<((ns.length:Nat):Int):=XO _ (by omega)
 generalize k % ((ns.length:Nat):Int)=j at h0 h1
 have hk:j.toNat<ns.length:=by omega
 refine⟨ns[j.toNat],?_⟩
 have q:atI (ns.map V.int) ((j.toNat:Nat):Int)=some (.int ns[j.toNat]):=bM (by rw[Yq,Yh hk] <;> rfl)
 have e:((j.toNat:Nat):Int)=j:=by omega
 rw[e]at q
 exact q
def spLaw (K:W.Frag):Sp:=fun vs H Q _=>∃(a:Addr)(ns:List Int),vs= [.ref a]/\SqL K H a (ns.map V.int)/\ns.length<=63/\∀H',Q (.bl true) H'
def spDraw (K:W.Frag):Sp:=fun vs H Q _=>∃(a:Addr)(ns:List Int)(k m:Int),vs= [.ref a,.int k,.int m]/\SqL K H a (ns.map V.int)/\ns.length<=63/\0<=k/\k<=100000/\0<m/\∀d:Int,0<=d->d<m->Q (.int d) H
end L2

/-! AN EXCEPTION ON ITS WAY,ITS DICT KEPT:the stations of a flight,with what the object's own dict is. -/
namespace L2
open PySem PySem.Spec PyProof.Rows
theorem b8O (g:Array Value->Array Value)(o:Obj):(Obj.mapFields g o).dict=o.dict:=by
 obtain⟨c,d,x,sl⟩:=o
 cases x <;> rfl
/-- e is in flight:its class,its args,its dict,the frame that its last entry names -/
def TrD (h B:Heap)(e:Addr)(k a0:Value)(od:Option Addr)(fl:Value):Prop:=
 ∃oe vs T oT ts,(h.get? e=some oe/\oe.cls=k/\oe.dict=od/\oe.data= .fields vs)/\(vs[0]? =some a0/\vs[1]? =some (.ref T))/\(B.get? T=none/\T≠e)/\h.get? T=some oT/\oT.data= .fields ts/\ts[3]? =some fl
def FlyD (B:Heap)(l:List Env)(e:Addr)(k a0:Value)(od:Option Addr)(h:Heap):Prop:=(B.StaysIn h/\B.get? e=none)/\h.FunFrames B l/\TrD h B e k a0 od .none
def HeldD (B:Heap)(l:List Env)(e:Addr)(k a0:Value)(od:Option Addr)(L:Addr)(h:Heap):Prop:=(B.StaysIn h/\B.get? e=none)/\h.FunFrames B l/\TrD h B e k a0 od (rawInt L)
theorem FlyD.obj {B h:Heap}{l:List Env}{e:Addr}{k a0:Value}{od:Option Addr}(x:FlyD B l e k a0 od h):∃oe vs,h.get? e=some oe/\oe.cls=k/\oe.dict=od/\oe.data= .fields vs:=by
 obtain⟨_,_,oe,vs,_,_,_,⟨q1,q2,q3,q4⟩,_⟩:=x
 exact⟨oe,vs,q1,q2,q3,q4⟩
theorem FlyD.tail {B h:Heap}{env:Env}{l:List Env}{e:Addr}{k a0:Value}{od:Option Addr}(x:FlyD B (env::l) e k a0 od h):FlyD B l e k a0 od h:=
 let ⟨a,⟨_,_,b⟩,c⟩:=x;⟨a,b,c⟩
section
variable {M:Model}{A:Around}{E:Value->Shared->Prop}{s:Shared}{B:Heap}{env:Env}{outer l:List Env}{L e:Addr}{k a0:Value}{od:Option Addr}
/-- one more entry is put at the head of the exception's traceback -/
theorem b6A {oe:Obj}{vs:Array Value}{hd0:Value}{nxt:Bool}{Q:Unit->Shared->Prop}(fr:A.frames=some (env::outer))(ff:s.heap.FunFrames B (env::outer))(fL:env.frame=some L)(st:B.StaysIn s.heap/\B.get? e=none)
  (at_:s.heap.get? e=some oe) (dat:oe.data= .fields vs) (sz:1<vs.size) (arg:vs[0]? =some a0)
  (next:∀h',HeldD B (env::outer) e oe.cls a0 oe.dict L h'->s.heap.UpToSlots h'->Q () { s with heap:=h' }) :
  wpAny M A (do let a<-frameOf env;let pl<-entryPlaceOf L nxt;let b<-EntryCells.newEntry hd0 a .none (rawInt L) .none pl;setField (.ref e) 1 b) Q E s:=by
 have eF:e∉frs (env::outer):=fun z=>by
  obtain⟨_,o,q,n⟩:=ff.mem z
  cases at_.symm.trans q
  exact n vs dat
 refine Yb (wpAny_frameOf_fun fr ff fL fun h1 so=>Yb (wpAny_entryPlaceOf fun pl isp=>?_))
 unfold EntryCells.newEntry newFields
 refine Yb (wpAny_newObj_type ?_ (isp.sizeOk5 _ _ _ _ _))
 generalize htb:([hd0,Value.ref L,Value.none,rawInt L,Value.none]++(if pl.isEmpty then List.replicate 6 Value.none else pl)).toArray=tb
 have tb3:tb[3]? =some (rawInt L):=by
  subst htb
  rcases isp with rfl | ⟨_,_,_,_,_,_,_,rfl⟩ <;> simp
 clear htb isp
 have e1:h1.get? e=some oe:=(so.2.1 e eF).trans at_
 have B1:B.StaysIn h1:=fun b o q=>(so.2.1 b fun z=>by have:=(ff.mem z).1;rw[q]at this;cases this).trans (st.1 b o q)
 have tE:h1.objs.size≠e:=Nat.ne_of_gt (Ym e1)
 have e2:=Yd (h:=h1) { cls:= .type "traceback",dict:=none,data:= .fields tb } e1
 refine XU e2 dat sz (next _ ?_ ?_)
 all_goals
  have keep:∀b o,b≠e->h1.get? b=some o->((h1.push { cls:= .type "traceback",dict:=none,data:= .fields tb }).update e (Obj.mapFields (·.setIfInBounds 1 (Value.ref h1.objs.size)))).get? b=some o:=fun b o n q=>by
   rw[YS _ _ (Ne.symm n)]
   exact Yd _ q
  have apart:∀b o,s.heap.get? b=some o->(∀ws,o.data≠ .fields ws)->b≠e:=fun b o q n z=>by
   subst z
   cases at_.symm.trans q
   exact n vs dat
 ·have d3:=Xy dat (·.setIfInBounds 1 (Value.ref h1.objs.size))
  have e3:=Xn (Obj.mapFields (·.setIfInBounds 1 (Value.ref h1.objs.size))) e2 (Obj.isFreed_of_fields d3)
  have t3:=(YS (h1.push { cls:= .type "traceback",dict:=none,data:= .fields tb }) (Obj.mapFields (·.setIfInBounds 1 (Value.ref h1.objs.size))) (Ne.symm tE)).trans (YB h1 rfl)
  refine⟨⟨fun b o q=>keep b o (fun z=>by rw[z,st.2]at q;cases q) (B1 b o q),st.2⟩,ff.of_keeps fun b o q n=>?_,_,_,h1.objs.size,_,_,⟨e3,Obj.cls_mapFields _ _,b8O _ _,d3⟩,⟨?_,by simp[sz]⟩,⟨B1.fresh,tE⟩,t3,rfl,tb3⟩
  ·obtain⟨sl,q1⟩:=so.2.2 b o q
   exact⟨_,keep b _ (apart b o q n) q1,rfl⟩
  ·rw[Array.getElem?_setIfInBounds_ne (by decide)]
   exact arg
 ·intro b o q n
  obtain⟨sl,q1⟩:=so.2.2 b o q
  exact⟨sl,keep b _ (apart b o q n) q1⟩
/-- the last entry lets its frame go -/
theorem b4M {fl:Value}{Q:Unit->Shared->Prop}(st:B.StaysIn s.heap/\B.get? e=none)(ff:s.heap.FunFrames B l)(tr:TrD s.heap B e k a0 od fl)
  (next:∀h',FlyD B l e k a0 od h'->s.heap.UpToSlots h'->Q () { s with heap:=h' }):wpAny M A (setFlight (.ref e) none) Q E s:=by
 obtain⟨oe,vs,T,oT,ts,⟨q1,q2,q3,q4⟩,⟨q5,q6⟩,⟨q7,q8⟩,q9,q10,q11⟩:=tr
 have sz:3<ts.size:=(YU.mp q11).1
 have off:∀b,b≠T->(s.heap.update T (Obj.mapFields (·.setIfInBounds 3 ((none:Option Addr).elim Value.none fun f=>rawInt f)))).get? b=s.heap.get? b:=fun b n=>YS _ _ (Ne.symm n)
 have apart:∀b o,s.heap.get? b=some o->(∀ws,o.data≠ .fields ws)->b≠T:=fun b o q n z=>by
  subst z
  cases q9.symm.trans q
  exact n ts q10
 unfold setFlight
 refine Yb (XA q1 q4 q6 ?_)
 rw[if_pos (show (Value.ref T != Value.none)=true by simp)]
 refine XU q9 q10 sz (next _ ⟨⟨fun b o q=>(off b fun z=>by rw[z,q7]at q;cases q).trans (st.1 b o q),st.2⟩,ff.of_keeps fun b o q n=>⟨o,(off b (apart b o q n)).trans q,rfl⟩,?_⟩ fun b o q n=>⟨o.slots,(off b (apart b o q n)).trans q⟩)
 exact⟨oe,vs,T,_,_,⟨(off e (Ne.symm q8)).trans q1,q2,q3,q4⟩,⟨q5,q6⟩,⟨q7,q8⟩,Xn _ q9 (Obj.isFreed_of_fields (Xy q10 _)),Xy q10 _,by simp[sz]⟩
theorem b6Q {Q:Unit->Shared->Prop}(x:HeldD B l e k a0 od L s.heap)(next:∀h',FlyD B l e k a0 od h'->s.heap.UpToSlots h'->Q () { s with heap:=h' }):wpAny M A (setFlight (.ref e) none) Q E s:=
 b4M x.1 x.2.1 x.2.2 next
theorem b5V {Q:Unit->Shared->Prop}(x:FlyD B l e k a0 od s.heap)(next:∀h',FlyD B l e k a0 od h'->s.heap.UpToSlots h'->Q () { s with heap:=h' }):wpAny M A (setFlight (.ref e) none) Q E s:=
 b4M x.1 x.2.1 x.2.2 next
/-- the frame is noted,a second time or later -/
theorem b2Y {Q:Unit->Shared->Prop}(fr:A.frames=some (env::outer))(fL:env.frame=some L)(x:FlyD B (env::outer) e k a0 od s.heap)
  (next:∀h',HeldD B (env::outer) e k a0 od L h'->s.heap.UpToSlots h'->Q () { s with heap:=h' }):wpAny M A (noteFrame (.ref e) env) Q E s:=by
 obtain⟨st,ff,oe,vs,T,oT,ts,⟨q1,q2,q3,q4⟩,⟨q5,q6⟩,⟨q7,q8⟩,q9,q10,q11⟩:=x
 subst q2 q3
 have off:∀b,b≠T->(s.heap.update T (Obj.mapFields (·.setIfInBounds 3 Value.none))).get? b=s.heap.get? b:=fun b n=>YS _ _ (Ne.symm n)
 have apart:∀b o,s.heap.get? b=some o->(∀ws,o.data≠ .fields ws)->b≠T:=fun b o q n z=>by
  subst z
  cases q9.symm.trans q
  exact n ts q10
 unfold noteFrame
 simp only[fL]
 refine Yb (XA q1 q4 q6 ?_)
 rw[if_pos (show (Value.ref T != Value.none)=true by simp)]
 refine Yb (XA q9 q10 q11 ?_)
 rw[if_neg (show ¬ ((Value.none == rawInt L)=true) by simp[rawInt])]
 refine Yb (XU q9 q10 (YU.mp q11).1 ?_)
 refine b6A (B:=B) fr (ff.of_keeps fun b o q n=>⟨o,(off b (apart b o q n)).trans q,rfl⟩) fL ⟨fun b o q=>(off b fun z=>by rw[z,q7]at q;cases q).trans (st.1 b o q),st.2⟩ ((off e (Ne.symm q8)).trans q1) q4 (YU.mp q6).1 q5 fun h' x1 x2=>?_
 exact next h' x1 fun b o q n=>x2 b o ((off b (apart b o q n)).trans q) n
/-- it leaves the frame in which it was raised -/
theorem b4L {oe:Obj}{vs:Array Value}{Q:Unit->Shared->Prop}(fr:A.frames=some (env::outer))(fL:env.frame=some L)(st:B.StaysIn s.heap/\B.get? e=none)(ff:s.heap.FunFrames B (env::outer))
  (at_:s.heap.get? e=some oe) (dat:oe.data= .fields vs) (arg:vs[0]? =some a0) (bare:vs[1]? =some .none) (next:∀h',FlyD B outer e oe.cls a0 oe.dict h'->s.heap.UpToSlots h'->Q () { s with heap:=h' }) :
  wpAny M A (leaving env (.ref e)) Q E s:=by
 unfold leaving noteFrame
 simp only[fL]
 refine Yb (Yb (XA at_ dat bare ?_))
 rw[if_neg (by decide)]
 refine b6A (B:=B) fr ff fL st at_ dat (YU.mp bare).1 arg fun h1 x1 x2=>?_
 exact b6Q x1 fun h2 x3 x4=>next h2 x3.tail (x2.trans x4)
/-- it leaves another one -/
theorem c0S {Q:Unit->Shared->Prop}(fr:A.frames=some (env::outer))(fL:env.frame=some L)(x:FlyD B (env::outer) e k a0 od s.heap)
  (next:∀h',FlyD B outer e k a0 od h'->s.heap.UpToSlots h'->Q () { s with heap:=h' }):wpAny M A (leaving env (.ref e)) Q E s:=by
 unfold leaving
 exact Yb (b2Y fr fL x fun h1 x1 x2=>b6Q x1 fun h2 x3 x4=>next h2 x3.tail (x2.trans x4))
end
end L2

/-! EXCEPTIONS over the layer:raised by a def of the text (own classes without __init__),handed on,caught by a try. -/
namespace L2
open PySem PySem.Spec PyProof.Rows
/-- what a class of the text that stands under ValueError is,read off the written part -/
theorem c5K {K:W.Frag}{h:Heap}{C:Addr}{bmB:List Value}{newId:String}(kin:K.In h)(hq:W.excIn K C bmB newId=true) :
  ∃bm N nm qn bs hdct sn sub ab col dd k0 k1 k2 k3 k5 mN,h.get? C=some (excClassObj nm qn C N bs bm hdct sn sub ab col dd k0 k1 k2 k3 k5 newId)/\h.Ns N mN/\mN "__init__"=none/\OwnTail h bmB bm:=by
 unfold W.excIn at hq
 split at hq
 ·rename_i dd cdt slots look
  split at hq
  ·rename_i C1 bm j0 j1 j2 j3 nid j5 em es
   simp only[YC,Y8,Bool.not_eq_true']at hq
   obtain⟨⟨⟨⟨⟨e1,e2⟩,e3⟩,e4⟩,e5⟩,e6⟩:=hq
   subst e1 e2
   obtain⟨c1,c2,c3,c4,c5,c6,c7,c8,c9,c10,c11⟩:=cdt
   dsimp only at em e3 e5 e6
   subst em e3
   have esl:slots=#[j0,j1,j2,j3,some (.builtin nid),j5]:=by
    cases slots with
    | mk l=>
     have:l=_:=es
     rw[this]
   subst esl
   exact⟨bm,c4,c1,c5,c2,c6,c7,c8,c9,c10,dd,j0,j1,j2,j3,j5,_,kin _ _ look,.of_isNs (W.isNs_of_in kin e5),W.nsMap_none_of_in kin e5 e6,W.tail_of_in kin e4⟩
  ·cases hq
 ·cases hq
/-- a tracked object is there -/
theorem ObjOk.there {P:Program}{w:World}{H:Hp}{h:Heap}{a:Addr}{o:HO}(x:ObjOk P w H h a o):∃ob,h.get? a=some ob:=by
 cases o with
 |lst xs=>obtain⟨_,_,_,_,e⟩:=x;exact⟨_,e⟩
 |tup xs=>obtain⟨_,_,_,ob,e,_⟩:=x;exact⟨_,e⟩
 |dK kvs=>obtain⟨_,_,_,_,o,_,_,e,_⟩:=x;exact⟨_,e⟩
 |dT kvs=>obtain⟨_,_,_,_,o,_,_,e,_⟩:=x;exact⟨_,e⟩
 |set S n=>obtain⟨o,_,_,_,e,_⟩:=x;exact⟨_,e⟩
 |ins C dx fs=>obtain⟨_,_,_,e,_⟩:=x;exact⟨_,e⟩
 |own y=>exact x
 |xd fs=>obtain⟨_,⟨_,_,_,e,_⟩,_⟩:=x;exact⟨_,e⟩
 |rng lo hi=>obtain⟨_,_,_,e⟩:=x;exact⟨_,e⟩
 |frz ob u=>obtain⟨e,_⟩:=x;exact⟨_,e⟩
 |tbl ps=>exact⟨_,(show h.get? a=some _ from x)⟩
 |met f y=>exact⟨_,(show h.get? a=some _ from x)⟩
 |ext φ=>obtain⟨_,e,_⟩:=x;exact e
/-- an exception flies:a its object,B all else that stands still -/
structure Fly (P:Program)(w:World)(outer:List Env)(H H':Hp)(s s':Shared)(a t:Addr)(cls:Value)(od:Option Addr)(B:Heap):Prop where
 os:s'.os=s.os
 bare:AllBare s'.gens
 un:Un (frs outer) [] H H' s.heap s'.heap
 hok:HOk P w H' s'.heap
 new:H' a=none
 fly:FlyD B outer a cls (.ref t) od s'.heap
 old:∀b o,s.heap.get? b=some o->H b=none->b∉frs outer->B.get? b=some o
 trk:∀b u,H' b=some u->∃o,s'.heap.get? b=some o/\B.get? b=some o
 all:∀b o,s.heap.get? b=some o->b∉frs outer->∃o',B.get? b=some o'
def CXR (P:Program)(w:World):CXT:=fun outer H s E e s'=>∃(a t:Addr)(cls:Value)(od:Option Addr)(H':Hp)(B:Heap),e= .ref a/\Fly P w outer H H' s s' a t cls od B/\E cls od H'
theorem a7I {P:Program}{w:World}{X:Cx}:Passes (CXR P w) X E0:=fun _ _ _ _ _ _ _ h=>by
 obtain⟨_,_,_,_,_,_,_,_,q⟩:=h
 exact q.elim
/-- how the tracked objects and the old ones come over from B -/
theorem HOk.fromB {P:Program}{w:World}{H:Hp}{h h' B:Heap}(ok:HOk P w H h)(trk:∀b u,H b=some u->∃o,h.get? b=some o/\B.get? b=some o)(st:B.StaysIn h'):HOk P w H h':=fun a u q=>
 (ok a u q).stay (fun b o hb e=>by
  have:∃v,H b=some v:=by
   rcases hb with rfl | hb
   ·exact⟨u,q⟩
   ·exact⟨_,hb⟩
  obtain⟨v,hv⟩:=this
  obtain⟨o',e1,e2⟩:=trk b v hv
  rw[e]at e1;cases e1
  exact st b o e2) (fun _ z=>z) fun _ _ z=>z
section
variable {P:Program}{w:World}{K:W.Frag}{mg:Str->Option Value}{base:Heap}{N:List Str}{qual:Str}{scope:Scope}{f:Addr}{cd:Value}{A:Around}{outer:List Env}{s:Shared}{H:Hp}{E:XK}
/-- the frames of the callers lie below this one -/
theorem wB {pins:List (Addr×Obj)}{σ:St}{H1:Hp}{s1:Shared}{CX:CXT}(I:Inv (cxOf CX P w K mg base N qual scope f cd A outer s H E) pins σ H1 s1){b:Addr}{o:Obj}(e:s.heap.get? b=some o)(n:b∉frs outer) :
  b∉frs (cxOf CX P w K mg base N qual scope f cd A outer s H E).stack:=fun hb=>by
 have hb':=I.stkSub b hb
 rcases Yv.mp hb' with z | z
 ·have lt:=Ym e
  have z':b=s.heap.objs.size:=z
  rw[z']at lt
  exact YW _ lt
 ·exact n z
/-- an exception e,made and not tracked,leaves the def -/
theorem a3J {pins:List (Addr×Obj)}{σ:St}{H1:Hp}{s1:Shared}{e t:Addr}{oe:Obj}{vs:Array Value}(I:Inv (cxOf (CXR P w) P w K mg base N qual scope f cd A outer s H E) pins σ H1 s1)
  (he:s1.heap.get? e=some oe) (hd:oe.data= .fields vs) (h0:vs[0]? =some (.ref t)) (h1:vs[1]? =some .none) (new:s.heap.get? e=none) (free:H1 e=none) (hE:E oe.cls oe.dict H1) :
  (cxOf (CXR P w) P w K mg base N qual scope f cd A outer s H E).xe (.ref e) s1:=by
 have fr:=I.ok.frames
 have ff:=I.stack
 generalize hst:(cxOf (CXR P w) P w K mg base N qual scope f cd A outer s H E).stack=stk at fr ff
 have hst':stk=(cxOf (CXR P w) P w K mg base N qual scope f cd A outer s H E).env::outer:=hst.symm
 have nfr:e∉frs stk:=fun z=>by
  obtain⟨_,o,q,n⟩:=YY ff z
  cases he.symm.trans q
  exact n vs hd
 have hin:∀env∈stk,∀a,env.frame=some a->a∈e::frs stk:=fun env h a ha=>Yf _ (YR.mpr ⟨env,h,ha⟩)
 have mk:∀b o,s1.heap.get? b=some o->b∉frs stk->b≠e->(W.hideAll s1.heap (e::frs stk)).get? b=some o:=fun b o q n z=>W.hideAll_get _ q fun m=>by
  rcases Yv.mp m with m | m
  ·exact z m
  ·exact n m
 have nf0:∀b o,s.heap.get? b=some o->b∉frs outer->b∉frs stk:=fun b o q n=>by rw[<-hst];exact wB I q n
 have ne0:∀b o,s.heap.get? b=some o->b≠e:=fun b o q z=>by rw[z,new]at q;cases q
 refine b4L (B:=W.hideAll s1.heap (e::frs stk)) (show _=some ((cxOf (CXR P w) P w K mg base N qual scope f cd A outer s H E).stack) from hst▸fr) rfl ⟨fun b o q=>W.of_hideAll _ q,W.hideAll_none _ (Yw ..)⟩ (show Heap.FunFrames _ _ (cxOf (CXR P w) P w K mg base N qual scope f cd A outer s H E).stack from by rw[hst];exact W.funFrames_hide ff hin) he hd h0 h1 fun h2 x1 x4=>?_
 have old:∀b o,s.heap.get? b=some o->H b=none->b∉frs outer->(W.hideAll s1.heap (e::frs stk)).get? b=some o:=fun b o q n nf=>
  mk b o (I.base.keep b o q n nf (fun z=>by cases z)) (nf0 b o q nf) (ne0 b o q)
 have trk0:∀b u,H1 b=some u->∃o,s1.heap.get? b=some o/\(W.hideAll s1.heap (e::frs stk)).get? b=some o:=fun b u q=>by
  obtain⟨o,eo⟩:=(I.hok b u q).there
  refine⟨o,eo,mk b o eo (fun z=>?_) fun z=>by rw[z,free]at q;cases q⟩
  rw[I.stkFree b (by rw[hst];exact z)]at q
  cases q
 have slots:∀b o,s1.heap.get? b=some o->b∈frs outer->∃sl,h2.get? b=some { o with slots:=sl }:=fun b o q hb=>by
  have hm:b∈frs stk:=by
   obtain⟨env,h,hf⟩:=YR.mp hb
   rw[hst']
   exact YR.mpr ⟨env,Yf _ h,hf⟩
  obtain⟨_,o',ho',nf⟩:=YY ff hm
  rw[q]at ho';cases ho'
  exact x4 b o q nf
 refine⟨e,t,oe.cls,oe.dict,H1,_,rfl,⟨I.os,I.bare,⟨?_,?_,?_,?_,?_,?_,?_⟩,HOk.fromB I.hok trk0 x1.1.1,free,x1,old,?_,?_⟩,hE⟩
 ·exact fun b o q n nf _=>x1.1.1 b o (old b o q n nf)
 ·intro b o q n hb nx
  obtain⟨sl,q1⟩:=I.base.slot b o q n hb nx
  obtain⟨sl',q2⟩:=slots b _ q1 hb
  exact⟨sl',q2⟩
 ·exact fun b o q n nx=>I.base.free b o q n nx
 ·intro b o q nx
  obtain⟨o',q1⟩:=I.base.there b o q nx
  by_cases hb:b∈frs outer
  ·obtain⟨sl',q2⟩:=slots b _ q1 hb
   exact⟨_,q2⟩
  ·exact⟨o',x1.1.1 b o' (mk b o' q1 (nf0 b o q hb) (ne0 b o q))⟩
 ·exact I.base.tups
 ·exact I.base.frzs
 ·exact I.base.tbls
 ·intro b u q
  obtain⟨o,_,e2⟩:=trk0 b u q
  exact⟨o,x1.1.1 b o e2,e2⟩
 ·intro b o q nf
  obtain⟨o',q1⟩:=I.base.there b o q (fun z=>by cases z)
  exact⟨o',mk b o' q1 (nf0 b o q nf) (ne0 b o q)⟩
theorem b2Q {pins:List (Addr×Obj)}{σ:St}{H1:Hp}{s1:Shared}{h':Heap}{e:Addr}{cls:Value}{vs:List Value}(I:Inv (cxOf (CXR P w) P w K mg base N qual scope f cd A outer s H E) pins σ H1 s1)
  (hx:Heap.MadeExcOf s1.heap h' e cls vs) (hE:E cls none H1):(cxOf (CXR P w) P w K mg base N qual scope f cd A outer s H E).xe (.ref e) { s1 with heap:=h' }:=by
 obtain⟨t,he,_,_⟩:=hx.there
 have J:Inv (cxOf (CXR P w) P w K mg base N qual scope f cd A outer s H E) pins σ H1 { s1 with heap:=h' }:=I.kept hx.keeps
 refine a3J J (t:=t) he rfl rfl rfl ?_ ?_ hE
 ·cases q:s.heap.get? e with
  |none=>rfl
  | some o=>
   obtain⟨o',q1⟩:=I.base.there e o q (fun z=>by cases z)
   rw[hx.new]at q1;cases q1
 ·cases q:H1 e with
  |none=>rfl
  | some u=>
   obtain⟨o,eo⟩:=(I.hok e u q).there
   rw[hx.new]at eo;cases eo
/-- an exception of a callee is handed on -/
theorem lN {E1:XK}(hE:∀cls od H',E1 cls od H'->E cls od H'):Passes (CXR P w) (cxOf (CXR P w) P w K mg base N qual scope f cd A outer s H E) E1:=by
  intro pins σ H1 s1 ev s2 I h
  obtain⟨a,t,cls,od,H',B,rfl,F,q⟩:=h
  have fr:=I.ok.frames
  refine c0S fr rfl F.fly fun h2 x1 x2=>?_
  have old:∀b o,s.heap.get? b=some o->H b=none->b∉frs outer->B.get? b=some o:=fun b o e n nf=>
    F.old b o (I.base.keep b o e n nf (fun z=>by cases z)) (I.base.free b o e n (fun z=>by cases z)) (wB I e nf)
  have slots:∀b o,s2.heap.get? b=some o->b∈frs outer->∃sl,h2.get? b=some { o with slots:=sl }:=fun b o e hb=>by
    have hm:b∈frs (cxOf (CXR P w) P w K mg base N qual scope f cd A outer s H E).stack:=YR.mpr (by
      obtain⟨env,he,hf⟩:=YR.mp hb
      exact⟨env,Yf _ he,hf⟩)
    obtain⟨_,o',ho',nf⟩:=YY F.fly.2.1 hm
    rw[e]at ho';cases ho'
    exact x2 b o e nf
  have hst:∀b,b∈frs outer->b∈frs (cxOf (CXR P w) P w K mg base N qual scope f cd A outer s H E).stack:=fun b hb=>YR.mpr (by
      obtain⟨env,he,hf⟩:=YR.mp hb
      exact⟨env,Yf _ he,hf⟩)
  refine⟨a,t,cls,od,H',B,rfl,⟨F.os.trans I.os,F.bare,⟨?_,?_,?_,?_,?_,?_,?_⟩,HOk.fromB F.hok F.trk x1.1.1,F.new,x1,old,?_,?_⟩,hE _ _ _ q⟩
  · exact fun b o e n nf _=>x1.1.1 b o (old b o e n nf)
  · intro b o e n hb nx
    obtain⟨sl,q1⟩:=I.base.slot b o e n hb nx
    obtain⟨sl1,q2⟩:=F.un.slot b _ q1 (I.base.free b o e n nx) (hst b hb) (fun z=>by cases z)
    obtain⟨sl2,q3⟩:=slots b _ q2 hb
    exact⟨sl2,q3⟩
  · exact fun b o e n nx=>by
      obtain⟨o1,q1⟩:=I.base.there b o e nx
      exact F.un.free b o1 q1 (I.base.free b o e n nx) (fun z=>by cases z)
  · intro b o e nx
    obtain⟨o1,q1⟩:=I.base.there b o e nx
    obtain⟨o2,q2⟩:=F.un.there b o1 q1 (fun z=>by cases z)
    by_cases hb:b∈frs outer
    · obtain⟨sl',q3⟩:=slots b _ q2 hb
      exact⟨_,q3⟩
    · obtain⟨o3,q3⟩:=F.all b o1 q1 (wB I e hb)
      exact⟨o3,x1.1.1 b o3 q3⟩
  · exact fun b xs z=>F.un.tups b xs (I.base.tups b xs z)
  · exact fun b o u z=>F.un.frzs b o u (I.base.frzs b o u z)
  · intro b ps z
    obtain⟨m1,z1⟩:=I.base.tbls b ps z
    obtain⟨m2,z2⟩:=F.un.tbls b _ z1
    exact⟨m1++m2,by rw[<-Array.append_assoc];exact z2⟩
  · intro b u z
    obtain⟨o,_,e2⟩:=F.trk b u z
    exact⟨o,x1.1.1 b o e2,e2⟩
  · intro b o e nf
    obtain⟨o1,q1⟩:=I.base.there b o e (fun z=>by cases z)
    exact F.all b o1 q1 (wB I e nf)
end
end L2

/-! raise,try,isinstance of an exception -/
namespace L2
open PySem PySem.Spec PyProof.Rows
section
variable {P:Program}{w:World}{K:W.Frag}{mg:Str->Option Value}{base:Heap}{N:List Str}{qual:Str}{scope:Scope}{f:Addr}{cd:Value}{A:Around}{outer:List Env}{s:Shared}{H:Hp}{E:XK}
def tRaise (C:Addr)(E:XK)(t:TA):TS:=fun _ σ H=>t σ H fun vs H1=>vs.length<=sizeLine/\E (.ref C) none H1
theorem mW {x:Str}{C:Addr}{np cpos pos:Pos}{e₀:Expr}{rest:List Expr}{t:TA}{B newId initId:String}{bmB:List Value}(FB:ExcBaseFacts B newId initId bmB)(hm:mg x=some (.ref C))
  (hq:W.excIn K C bmB newId=true) (ha:PA (cxOf (CXR P w) P w K mg base N qual scope f cd A outer s H E) (e₀::rest) t)
  (hx:Gl (cxOf (CXR P w) P w K mg base N qual scope f cd A outer s H E) x:=by rfl) (hd:(x == ("__debug__":Str))=false:=by decide)
  (he:starEach (e₀::rest) (cxOf (CXR P w) P w K mg base N qual scope f cd A outer s H E).env=(false,eval e₀ (cxOf (CXR P w) P w K mg base N qual scope f cd A outer s H E).env)::starEach rest (cxOf (CXR P w) P w K mg base N qual scope f cd A outer s H E).env:=by rfl)
  (hpl:(backTo cpos (starEach rest (cxOf (CXR P w) P w K mg base N qual scope f cd A outer s H E).env)).any (·.1)=false:=by rfl) :
  PS (cxOf (CXR P w) P w K mg base N qual scope f cd A outer s H E) (.Raise (some (.Call (.Name x np) (e₀::rest) [] cpos)) none pos) (tRaise C E t):=by
 intro pins s1 σ H1 D I hw
 obtain⟨bm,N',nm,qn,bs,hdct,sn,sub,ab,col,dd,k0,k1,k2,k3,k5,mN,hC,hN,hni,T⟩:=c5K I.ok.mod.kin hq
 refine wpAny_Raise_call_subT (C:=C) (nm:=nm) (q:=qn) (N:=N') (bs:=bs) (bm:=bm) (hdct:=hdct) (sn:=sn) (sub:=sub) (ab:=ab) (col:=col) (dd:=dd) (k0:=k0) (k1:=k1) (k2:=k2) (k3:=k3) (k5:=k5) FB (mN:=mN)
  (T.hasType FB.hasBase) (I.ok.hd rfl) (by rw[he];exact hpl) hni (zV I hx hm ⟨rfl,?_⟩ hd)
 have h:=ha cpos pins s1 σ H1 _ I hw
 rw[he]at h ⊢
 exact XM (YQ h (fun us s2 ⟨vs,H2,I2,rv,z,q⟩=>⟨rfl,by rw[<-rv.length];exact z,I2.bk _ _ hC,hN.keeps I2.bk,T.keeps I2.bk,fun h' e hx=>b2Q I2 hx q⟩) fun _ _ y=>y)
/-- THE RULE for a def that may raise -/
theorem Fun.okR {x qual:Str}{st:Stmt}{f:Addr}{fd:FuncData}{N ps:List Str}{k:Nat}{sp:Sp}(F:Fun K x qual st f fd)(S:FnScope N ps (defScope st))(len:∀vs H Q E,sp vs H Q E->vs.length=ps.length)
  (hbody:∀(cdv:Value)(A:Around)(outer:List Env)(s:Shared)(H:Hp)(vs:List V)(Q:VK)(E:XK),Room k (A.deeper (envOfC qual (defScope st) s.heap.objs.size f cdv))->sp vs H Q E->
   ∃t,PSs (cxOf (CXR P w) P w K mg base N qual (defScope st) f cdv A outer s H E) (defBody st) t/\t { nx:=fun _ H'=>Q .non H',rt:=Q } (start N vs) H):FnOk P w K mg base (CXR P w) (k+1) f fd ps sp:=by
 obtain⟨oc,od,kV,doc,pm,an,cdv,ct,osl,rfl,lk,hcd⟩:=F.ex
 exact c3P lk hcd S len fun A outer s H vs Q E hr hsp=>hbody cdv A outer s H vs Q E hr hsp
end
/-! ### try -/
section
variable {X:Cx}
/-- a caught exception,as it is tracked in the suite -/
def excO (cls:Value)(a:Addr)(od:Option Addr):HO:= .ext fun h=>∃o vs,h.get? a=some o/\(o.cls=cls/\o.dict=od)/\o.data= .fields vs
theorem land {pins:List (Addr×Obj)}{σ:St}{H1 H':Hp}{s1 s':Shared}{a t:Addr}{cls:Value}{od:Option Addr}{B h6:Heap}(I:Inv X pins σ H1 s1)(F:Fly X.prog X.w X.stack H1 H' s1 s' a t cls od B)
  (fl:FlyD B X.stack a cls (.ref t) od h6) (sm:s'.heap.UpToSlots h6):Inv X pins σ (upd H' a (excO cls a od)) { s' with heap:=h6 }:=by
 obtain⟨oe,vs,ee,ec,eo,ed⟩:=fl.obj
 have neB:∀b o,B.get? b=some o->b≠a:=fun b o e z=>by rw[z,fl.1.2]at e;cases e
 have neF:∀b,b∈frs X.stack->b≠a:=fun b hb z=>by
  obtain⟨_,o,ho,nf⟩:=YY fl.2.1 hb
  rw[z,ee]at ho;cases ho
  exact nf _ ed
 have slots:∀b o,s'.heap.get? b=some o->b∈frs X.stack->∃sl,h6.get? b=some { o with slots:=sl }:=fun b o e hb=>by
  obtain⟨_,o',ho',nf⟩:=YY F.fly.2.1 hb
  rw[e]at ho';cases ho'
  exact sm b o e nf
 have neT:∀b u,H' b=some u->b≠a:=fun b u e z=>by rw[z,F.new]at e;cases e
 have up:∀b u,H' b=some u->upd H' a (excO cls a od) b=some u:=fun b u e=>by rw[aQ (neT b u e)];exact e
 refine I.call' (ch:=[]) F.os ⟨?_,?_,?_,?_,?_,?_,?_⟩ ?_ F.bare (fun _ z=>nomatch z)
 ·exact fun b o e n nf _=>fl.1.1 b o (F.old b o e n nf)
 ·intro b o e n hb nx
  obtain⟨sl,q1⟩:=F.un.slot b o e n hb nx
  obtain⟨sl2,q2⟩:=slots b _ q1 hb
  exact⟨sl2,q2⟩
 ·intro b o e n nx
  have z:b≠a:=by
   by_cases hb:b∈frs X.stack
   ·exact neF b hb
   ·exact neB b o (F.old b o e n hb)
  rw[aQ z]
  exact F.un.free b o e n nx
 ·intro b o e nx
  by_cases hb:b∈frs X.stack
  ·obtain⟨o1,q1⟩:=F.un.there b o e nx
   obtain⟨sl2,q2⟩:=slots b _ q1 hb
   exact⟨_,q2⟩
  ·obtain⟨o3,q3⟩:=F.all b o e hb
   exact⟨o3,fl.1.1 b o3 q3⟩
 ·exact fun b xs z=>up b _ (F.un.tups b xs z)
 ·exact fun b o u z=>up b _ (F.un.frzs b o u z)
 ·intro b ps z
  obtain⟨m,z1⟩:=F.un.tbls b ps z
  exact⟨m,up b _ z1⟩
 ·intro b u e
  by_cases hb:b=a
  ·subst hb
   rw[aK]at e
   cases e
   exact⟨⟨oe,vs,ee,⟨ec,eo⟩,ed⟩,⟨oe,ee⟩,fun h1 h2 ⟨o,v,q1,q2,q3⟩ k=>⟨o,v,k o q1,q2,q3⟩⟩
  ·rw[aQ hb]at e
   refine(HOk.fromB F.hok F.trk fl.1.1 b u e).stay (fun c v _ q=>q) (fun c q=>up c _ q) fun c xs q=>up c _ q
/-- the context of an except suite -/
abbrev Cx.marked (X:Cx)(e:Value):Cx:={ X with A:=X.A.mark (some e),calm:=false,xe:=fun _ _=>False }
theorem Inv.marked {pins:List (Addr×Obj)}{σ:St}{H:Hp}{s:Shared}(I:Inv X pins σ H s)(e:Value):Inv (X.marked e) pins σ H s:=
 ⟨⟨I.ok.mod,I.ok.kind,I.ok.glob,I.ok.blt,I.ok.above,I.ok.inj,I.ok.has,I.ok.cab,(fun z=>nomatch z),I.ok.frames,I.ok.stk,I.ok.exf,I.ok.bs,I.ok.bsz,I.ok.noex,I.ok.exfs,I.ok.funs,I.ok.frf⟩,I.os,I.bare,I.base,I.loc,I.cell,I.free,I.freeC,I.pin,I.hok,I.len⟩
theorem Inv.unmarked {pins:List (Addr×Obj)}{σ:St}{H:Hp}{s:Shared}{e:Value}(ok:X.Ok)(I:Inv (X.marked e) pins σ H s):Inv X pins σ H s:=
 ⟨ok,I.os,I.bare,I.base,I.loc,I.cell,I.free,I.freeC,I.pin,I.hok,I.len⟩
/-- a local name is unbound -/
theorem unbound {M:Model}{A:Around}{E:Value->Shared->Prop}{pins:List (Addr×Obj)}{σ:St}{H:Hp}{s:Shared}{i:Nat}{n:Str}{pos:Pos}{Q:Unit->Shared->Prop}(I:Inv X pins σ H s)(hN:X.N.Nodup)(hi:X.N[i]? =some n)(hk:X.env.scope.names.lookup n=some .local)
  (h:∀s',Inv X pins (σ.set i none) H s'->Q () s'):wpAny M A (do bindName X.env n .none;unbindBehindTheSuite X.env n pos) Q E s:=by
 obtain⟨m,hn,hl⟩:=id I.loc
 have hcls:(X.env.scope.kind == .class || (X.env.scope.kind == .module && X.env.locals != X.env.globals))=false:=by rw[I.ok.kind];rfl
 have hiσ:i<σ.length:=by rw[I.len];exact(Yc.mp hi).1
 refine wpAny_nameGoes_keeps hk hn hcls fun h' v hn' hs=>h _ ?_
 have low:∀b o,X.s₀.heap.get? b=some o->h'.get? b=s.heap.get? b:=fun b o e=>hs.2 b (YL (Yp (Ym e) I.ok.above))
 have other:∀b,b≠X.env.locals->h'.get? b=s.heap.get? b:=fun b hb=>hs.2 b hb
 refine⟨I.ok,I.os,I.bare,⟨fun b o e n hb hx=>(low b o e).trans (I.base.keep b o e n hb hx),fun b o e n hb hx=>?_,I.base.free,fun b o e hx=>?_,I.base.tups,I.base.frzs,I.base.tbls⟩,⟨_,hn',fun j y v' e1 e2 e3=>?_⟩,fun y c e=>?_,I.free,I.freeC,fun p hp=>?_,fun b ob e=>?_,by simpa using I.len⟩
 ·obtain⟨sl,e1⟩:=I.base.slot b o e n hb hx
  exact⟨sl,(low b o e).trans e1⟩
 ·obtain⟨o',e1⟩:=I.base.there b o e hx
  exact⟨o',(low b o e).trans e1⟩
 ·by_cases hj:j=i
  ·subst hj
   rw[List.getElem?_set_self hiσ]at e2
   cases e2
  ·rw [Xb (Ne.symm hj)]at e2
   obtain⟨u',r',q⟩:=hl j y v' e1 e2 e3
   refine⟨u',r',?_⟩
   rcases q with ⟨k,e⟩ | ⟨k,c,e,z⟩
   ·have hy:y≠n:=fun e=>hj (a9X hN e1 (e▸hi))
    exact .inl ⟨k,(if_neg hy).trans e⟩
   ·exact .inr ⟨k,c,e,z.sameBut hs (I.cne y c e)⟩
 ·obtain⟨w',z⟩:=I.cell y c e
  exact⟨w',z.sameBut hs (I.cne y c e)⟩
 ·obtain⟨e,n,ne,nf,d⟩:=I.pin p hp
  exact⟨(other p.1 ne).trans e,n,ne,nf,d⟩
 ·refine(I.hok b ob e).stay (fun c w' hc q=>(other c ?_).trans q) (fun _ q=>q) fun _ _ q=>q
  rintro rfl
  rcases hc with rfl | hc
  ·rw[I.free]at e;cases e
  ·rw[I.free]at hc;cases hc
/-- try:CALL / except C as n:suite -/
def sufE (D:Ends)(i:Nat):Ends:={ nx:=fun σ' H'=>D.nx (σ'.set i none) H',rt:=D.rt,bk:=fun σ' H'=>D.bk (σ'.set i none) H',ct:=fun σ' H'=>D.ct (σ'.set i none) H' }
variable {e:Expr}{tx:St->Hp->VK->XK->Prop}{p1 np hpos pos:Pos}{y n:Str}{C:Addr}{i:Nat}{b₀:Stmt}{suite:List Stmt}{ts:TS}
end
end L2

/-! calls within an except suite -/
namespace L2
open PySem PySem.Spec PyProof.Rows
section
variable {X:Cx}{CX:CXT}{k:Nat}{f C:Addr}{fd:FuncData}{ps:List Str}{sp:Sp}{dvs:List V}{ds:List Value}{E:XK}{x m:Str}{p pos apos:Pos}{e o:Expr}{es:List Expr}{ta:TE}{t:TA}
end
section
variable {P:Program}{w:World}{K:W.Frag}{mg:Str->Option Value}{base:Heap}
end
end L2

/-! AN EXCEPTION WHOSE CLASS HAS __init__:it is made,its __init__ runs,it is raised. -/
namespace L2
open PySem PySem.Spec PyProof.Rows
/-- what is read off the written part:a class of the text under a built-in error,with an __init__ of its own -/
def excInit (K:W.Frag)(C fI:Addr)(bmB:List Value)(nid:String):Bool:=match K.lookup C with
 | some ⟨.type "type",_,.cls cdt,slots⟩=>(match slots.toList,cdt.mro with
  |[_,_,_,_,some (.builtin n),_],.ref C1::bm=>(C1 == C && n == nid && !cdt.hasDel && W.tailIn K bmB bm) && (W.nsOkIn K cdt.ns && (W.nsIn K cdt.ns "__init__" == some (some (.ref fI)) && cdt.hasDict))
  |_,_=>false)
 |_=>false
theorem c6T {K:W.Frag}{h:Heap}{N:Addr}{m:Str->Option Value}{n:Str}{v:Value}(X:K.In h)(G:h.Ns N m)(e:W.nsIn K N n=some (some v)):m n=some v:=by
 obtain⟨ob,es,ep,at_,hd,_,look⟩:=G
 unfold W.nsIn at e
 split at e
 ·rename_i k
  have z:=(X _ _ k).symm.trans at_
  cases z
  cases hd
  split at e
  ·rename_i hh
   rw[<-look]
   unfold nsFind findBy
   rw[<-Array.find?_toList,hh]
   simpa using e
  ·split at e <;> cases e
 ·cases e
theorem a4V {K:W.Frag}{h:Heap}{C fI:Addr}{bmB:List Value}{newId:String}(kin:K.In h)(hq:excInit K C fI bmB newId=true) :
  ∃bm N nm qn bs sn sub ab col dd k0 k1 k2 k3 k5 mN,h.get? C=some (excClassObj nm qn C N bs bm true sn sub ab col dd k0 k1 k2 k3 k5 newId)/\h.Ns N mN/\mN "__init__"=some (.ref fI)/\OwnTail h bmB bm:=by
 unfold excInit at hq
 split at hq
 ·rename_i dd cdt slots look
  split at hq
  ·rename_i j0 j1 j2 j3 nid j5 C1 bm es em
   simp only[YC,Y8,Bool.not_eq_true']at hq
   obtain⟨⟨⟨⟨e1,e2⟩,e3⟩,e4⟩,e5,e6,e7⟩:=hq
   subst e1 e2
   obtain⟨c1,c2,c3,c4,c5,c6,c7,c8,c9,c10,c11⟩:=cdt
   dsimp only at em e3 e5 e6 e7
   subst em e3 e7
   have esl:slots=#[j0,j1,j2,j3,some (.builtin nid),j5]:=by
    cases slots with
    | mk l=>
     have:l=_:=es
     rw[this]
   subst esl
   have G:h.Ns c4 _:= .of_isNs (W.isNs_of_in kin e5)
   exact⟨bm,c4,c1,c5,c2,c7,c8,c9,c10,dd,j0,j1,j2,j3,j5,_,kin _ _ look,G,c6T kin G e6,W.tail_of_in kin e4⟩
  ·cases hq
 ·cases hq
/-- an exception that no frame has noted yet -/
abbrev rawE (C t:Addr)(od:Option Addr):Obj:={ cls:= .ref C,dict:=od,data:= .fields #[.ref t,.none,.none,.none,.bool false,.none] }
abbrev tupE (vs:List Value):Obj:={ cls:= .type "tuple",data:= .seq vs.toArray }
section
variable {prog:Program}{w:World}{A:Around}{E:Value->Shared->Prop}{h:Heap}{g:Array GenState}{d:Drawn}{t:Nat}{os:OsState}
variable {nm q:Str}{C N:Addr}{bs bm bmB:List Value}{hdct:Bool}{sn:List Str}{sub:List Value}{ab:Bool}{col:Option Bool}{dd:Option Addr}{k0 k1 k2 k3 k5:Option Value}{B newId initId:String}
/-- C(..) of such a class:__init__ runs on the new object -/
theorem c4Z (F:ExcBaseFacts B newId initId bmB)(T:OwnTail h bmB bm){mN:Str->Option Value}{us:List Value}{fI:Addr}{oI:Obj}{Q:Fin->Shared->Prop}
  (hC:h.get? C=some (excClassObj nm q C N bs bm hdct sn sub ab col dd k0 k1 k2 k3 k5 newId)) (hn:h.Ns N mN) (hi:mN "__init__"=some (.ref fI)) (hf:h.get? fI=some oI) (hfc:oI.cls= .type "function") (hus:us.length<=sizeLine)
  (hq:wpAny (model prog w) A (call (.ref fI) (.ref (h.objs.size+1)::us)) (fun r s'=>r= .none/\Q (.done (.ret (.ref (h.objs.size+1)))) s') E ⟨(h.push (tupE us)).push (rawE C h.objs.size none),g,d,t,os⟩) :
  wpAny (model prog w) A (Builtin.«type.__call__» ⟨.ref C::us, []⟩) Q E ⟨h,g,d,t,os⟩:=by
 repeat (first | with_reducible refine wpAny_madeBy_exc hC ?_ | with_reducible refine XF hC ?_ | wp_step)
 refine codeAny_call_builtin_code (Code.quiet_builtin _ F.quiet) (wpAny_check_new_subT F T hC (codeAny_exc_new_subT F T hC ?_ hus))
 show wpAny _ _ _ _ _ _
 have up:∀b o,h.get? b=some o->((h.push (tupE us)).push (rawE C h.objs.size none)).get? b=some o:=fun b o e=>Yd _ (Yd _ e)
 have hC1:=up _ _ hC
 have hget:((h.push (tupE us)).push (rawE C h.objs.size none)).get? (h.objs.size+1)=some (rawE C h.objs.size none):=by heap_get
 have hcC:(Value.ref C::bm).contains (.ref C)=true:=by simp
 unfold isInstance
 repeat (first | with_reducible refine XF hget ?_ | (with_reducible refine wpAny_isSubtype_exc hC1 ?_;rw[hcC]) | wp_step)
 show wpAny _ _ (typeLookup (.ref C) _) _ _ _
 refine wpAny_typeLookup_tail hC1 (hn.keeps up) (T.keeps up) F.mroIs F.init.lookup ?_
 rw[hi]
 refine Y9 (Yb ?_)
 unfold bindSpecial
 refine Yb (wpAny_typeOf (T:="function") ⟨_,up _ _ hf,hfc⟩ ?_)
 rw[if_pos (by decide)]
 refine YI (Yb (YQ hq (fun r s' z=>?_) fun _ _ x=>x))
 obtain⟨rfl,z⟩:=z
 wp_walk
 exact z
theorem c6W (F:ExcBaseFacts B newId initId bmB)(T:OwnTail h bmB bm){mN:Str->Option Value}{us:List Value}{fI:Addr}{oI:Obj}{Q:Value->Shared->Prop}
  (hC:h.get? C=some (excClassObj nm q C N bs bm hdct sn sub ab col dd k0 k1 k2 k3 k5 newId)) (hn:h.Ns N mN) (hi:mN "__init__"=some (.ref fI)) (hf:h.get? fI=some oI) (hfc:oI.cls= .type "function") (hus:us.length<=sizeLine)
  (hq:wpAny (model prog w) (A.under (.builtin "type.__call__" ⟨.ref C::us, []⟩)) (call (.ref fI) (.ref (h.objs.size+1)::us)) (fun r s'=>r= .none/\Q (.ref (h.objs.size+1)) s') E ⟨(h.push (tupE us)).push (rawE C h.objs.size none),g,d,t,os⟩) :
  wpAny (model prog w) A (call (.ref C) us) Q E ⟨h,g,d,t,os⟩:=by
 have f1:=tc_lookup
 have f2:=tc_bind (.ref C)
 have hT:(⟨h,g,d,t,os⟩:Shared).TypeIs (.ref C) "type":=⟨_,hC,rfl⟩
 refine XI (codeAny_of_tree ?_)
 show wpAny _ _ (callAny (.ref C) _) _ _ _
 repeat (any_goals (first | assumption | with_reducible refine XF hC ?_ | wp_step))
 exact⟨rfl,codeAny_call_builtin_at (Code.quiet_builtin _ (by decide +kernel)) entry_typeCall (wpAny_check_type_call_sub hC (c4Z F T hC hn hi hf hfc hus hq))⟩
/-- raise of an object that has a dict -/
theorem c4I {s:Shared}{env:Env}{x:Sem Value}{Q:Flow->Shared->Prop}(hbase:bm.contains (.type "BaseException")=true)(hh:A.handled=none)
  (hx:wpAny (model prog w) A x (fun v s1=>∃e t od,v= .ref e/\(s1.heap.get? C=some (excClassObj nm q C N bs bm hdct sn sub ab col dd k0 k1 k2 k3 k5 newId)/\s1.heap.get? e=some (rawE C t od))/\E (.ref e) s1) E s) :
  wpAny (model prog w) A (raiseStmt env (some x) none) Q E s:=by
 have hcB:(Value.ref C::bm).contains (.type "BaseException")=true:=by rw[List.contains_cons,hbase,Bool.or_true]
 unfold raiseStmt
 refine Yb (YQ hx (fun v s1 z=>?_) fun _ _ z=>z)
 obtain⟨e,t,od,rfl,⟨hC,he⟩,hE⟩:=z
 obtain⟨hp,g,d,tk,os⟩:=s1
 repeat (first | with_reducible refine XF hC ?_ | with_reducible refine XF he ?_ | (show wpAny _ _ (isSubtype (.ref C) _) _ _ _;with_reducible refine wpAny_isSubtype_exc hC ?_;rw[hcB]) | wp_step)
 exact wpAny_raiseNew_none hh hE
end
end L2

/-! raise C(..) where C has an __init__ of its own;self.f=v there;e.f behind except -/
namespace L2
open PySem PySem.Spec PyProof.Rows
/-- a new exception,while its __init__ runs -/
def rawO (C t:Addr)(od:Option Addr)(e:Addr):HO:= .ext fun h=>h.get? e=some (rawE C t od)
/-- the heap without e -/
def del (H:Hp)(e:Addr):Hp:=fun b=>if b=e then none else H b
theorem c1J {H:Hp}{e:Addr}:del H e e=none:=if_pos rfl
theorem b0J {H:Hp}{e b:Addr}(n:b≠e):del H e b=H b:=if_neg n
theorem a6H {H:Hp}{e b:Addr}(n:H b=none):del H e b=none:=by unfold del;split <;> first | rfl | exact n
theorem c1I {H:Hp}{e b:Addr}{o:HO}(q:del H e b=some o):b≠e/\H b=some o:=by
 unfold del at q
 split at q
 ·cases q
 ·rename_i n;exact⟨n,q⟩
theorem HOk.del {P:Program}{w:World}{H:Hp}{h:Heap}{e:Addr}{φ:Heap->Prop}(ok:HOk P w H h)(he:H e=some (.ext φ)):HOk P w (L2.del H e) h:=fun a o q=>by
 obtain⟨n,q1⟩:=c1I q
 refine(ok a o q1).stay (fun _ _ _ z=>z) (fun b z=>?_) fun b xs z=>?_
 ·rw[b0J (b1P z he (fun y=>by cases y))];exact z
 ·rw[b0J (b1P z he (fun y=>by cases y))];exact z
theorem Un.del {fs ex:List Addr}{H H1:Hp}{h h1:Heap}{e:Addr}{φ:Heap->Prop}(u:Un fs ex H H1 h h1)(he:H1 e=some (.ext φ)):Un fs ex H (L2.del H1 e) h h1 where
 keep:=u.keep
 slot:=u.slot
 free:=fun b o q n x=>a6H (u.free b o q n x)
 there:=u.there
 tups:=fun b xs q=>by have z:=u.tups b xs q;rw[b0J (b1P z he (fun y=>by cases y))];exact z
 frzs:=fun b o v q=>by have z:=u.frzs b o v q;rw[b0J (b1P z he (fun y=>by cases y))];exact z
 tbls:=fun b ps q=>by obtain⟨m,z⟩:=u.tbls b ps q;exact⟨m,by rw[b0J (b1P z he (fun y=>by cases y))];exact z⟩
theorem Inv.del {X:Cx}{pins:List (Addr×Obj)}{σ:St}{H:Hp}{s:Shared}{e:Addr}{φ:Heap->Prop}(I:Inv X pins σ H s)(he:H e=some (.ext φ)):Inv X pins σ (L2.del H e) s:=
 ⟨I.ok,I.os,I.bare,I.base.del he,I.loc,I.cell,a6H I.free,fun y c q=>a6H (I.freeC y c q),fun p hp=>let ⟨a,b,c⟩:=I.pin p hp;⟨a,a6H b,c⟩,I.hok.del he,I.len⟩
section
variable {P:Program}{w:World}{K:W.Frag}{mg:Str->Option Value}{base:Heap}{N:List Str}{qual:Str}{scope:Scope}{f:Addr}{cd:Value}{A:Around}{outer:List Env}{s:Shared}{H:Hp}{E:XK}
def tRaiseI (C:Addr)(sp:Sp)(E:XK)(t:TA):TS:=fun _ σ H=>t σ H fun vs H1=>vs.length<=sizeLine/\∀e ta,H1 e=none->sp (.ref e::vs) (upd H1 e (rawO C ta none e)) (fun v H2=>v= .non/\∃od,H2 e=some (rawO C ta od e)/\E (.ref C) od (del H2 e)) E0
theorem a7G {x:Str}{C fI:Addr}{k:Nat}{fd:FuncData}{ps:List Str}{sp:Sp}{np cpos pos:Pos}{e₀:Expr}{rest:List Expr}{t:TA}{B newId initId:String}{bmB:List Value}(FB:ExcBaseFacts B newId initId bmB)(hm:mg x=some (.ref C))
  (hq:excInit K C fI bmB newId=true) (hfn:W.isFn K (.ref fI)=true) (F:FnOk P w K mg base CX0 k fI fd ps sp) (hr:Room (k+1) (cxOf (CXR P w) P w K mg base N qual scope f cd A outer s H E).A) (hb:Binds K fd ps [])
  (ha:PA (cxOf (CXR P w) P w K mg base N qual scope f cd A outer s H E) (e₀::rest) t)
  (hx:Gl (cxOf (CXR P w) P w K mg base N qual scope f cd A outer s H E) x:=by rfl) (hd:(x == ("__debug__":Str))=false:=by decide)
  (he:starEach (e₀::rest) (cxOf (CXR P w) P w K mg base N qual scope f cd A outer s H E).env=(false,eval e₀ (cxOf (CXR P w) P w K mg base N qual scope f cd A outer s H E).env)::starEach rest (cxOf (CXR P w) P w K mg base N qual scope f cd A outer s H E).env:=by rfl)
  (hpl:(backTo cpos (starEach rest (cxOf (CXR P w) P w K mg base N qual scope f cd A outer s H E).env)).any (·.1)=false:=by rfl) :
  PS (cxOf (CXR P w) P w K mg base N qual scope f cd A outer s H E) (.Raise (some (.Call (.Name x np) (e₀::rest) [] cpos)) none pos) (tRaiseI C sp E t):=by
 intro pins s1 σ H1 D I hw
 obtain⟨bm,N',nm,qn,bs,sn,sub,ab,col,dd,k0,k1,k2,k3,k5,mN,hC,hN,hni,T⟩:=a4V I.ok.mod.kin hq
 rw[arm_exec_Raise]
 simp only[evalOpt,Option.map]
 refine Yb (wpAny_standAt (c4I (C:=C) (nm:=nm) (q:=qn) (N:=N') (bs:=bs) (bm:=bm) (hdct:=true) (sn:=sn) (sub:=sub) (ab:=ab) (col:=col) (dd:=dd) (k0:=k0) (k1:=k1) (k2:=k2) (k3:=k3) (k5:=k5) (newId:=newId) (T.hasType FB.hasBase) (I.ok.hd rfl) ?_))
 refine Yb (YQ (wpAny_Call_ofName (zV I hx hm ?_ hd)) (fun v s3 h3=>Yb (wpAny_standAt (YI h3))) fun _ _ x=>x)
 have h:=ha cpos pins s1 σ H1 _ I hw
 rw[he]at h ⊢
 unfold callWith
 refine Yb (Y9 (XM (YQ h (fun us s2 hz9=>?_) fun _ _ y=>y)))
 obtain⟨vs,H2,I2,rv,z,q⟩:=hz9
 refine Yb (wpAny_standAt ?_)
 have hp2:(backTo cpos ((false,eval e₀ (cxOf (CXR P w) P w K mg base N qual scope f cd A outer s H E).env)::starEach rest (cxOf (CXR P w) P w K mg base N qual scope f cd A outer s H E).env)).any (·.1)=false:=hpl
 simp only[hp2]
 obtain⟨hp,g,dr,tk,os⟩:=s2
 have hC2:=I2.bk _ _ hC
 refine Yb (wpAny_keeperOf_exc hC2 ?_)
 obtain⟨oI,lk,hfc⟩:=Yt.mp (Y8.mp hfn)
 have hf2:=I2.kIn _ _ lk
 refine Yb (c6W FB (T.keeps I2.bk) hC2 (hN.keeps I2.bk) (us:=us) hni hf2 hfc (by rw[<-rv.length];exact z) ?_)
 have I3:Inv (cxOf (CXR P w) P w K mg base N qual scope f cd A outer s H E) pins σ (upd H2 (hp.objs.size+1) (rawO C hp.objs.size none (hp.objs.size+1))) ⟨(hp.push (tupE us)).push (rawE C hp.objs.size none),g,dr,tk,os⟩:=by
  have at_:((hp.push (tupE us)).push (rawE C hp.objs.size none)).get? (hp.objs.size+1)=some (rawE C hp.objs.size none):=by heap_get
  refine I2.laid (h':=(hp.push (tupE us)).push (rawE C hp.objs.size none)) (t':=tk) (fun b o e=>Yd _ (Yd _ e)) (Nat.le_succ _) ⟨at_,⟨_,at_⟩,fun h1 h2 y k=>k _ y⟩
 have hq2:=q (hp.objs.size+1) hp.objs.size (I2.hok.fresh (Nat.le_succ _))
 have r2:Vals (V.ref (hp.objs.size+1)::vs) (Value.ref (hp.objs.size+1)::us):= .cons rfl rv
 have hl:(Value.ref (hp.objs.size+1)::us++[]).length=ps.length:=by
  have e:=r2.length
  rw[F.len _ _ _ _ hq2]at e
  rw[Yz]
  exact e.symm
 have bd:=hb _ (Value.ref (hp.objs.size+1)::us) I3.kIn hl
 rw[Yz]at bd
 refine XI (XE (F.run _ (cxOf (CXR P w) P w K mg base N qual scope f cd A outer s H E).stack _ _ ⟨Value.ref (hp.objs.size+1)::us, []⟩ (Value.ref (hp.objs.size+1)::us) _ _ E0 (hr.make C us []) (I3.env0.make C us []) bd r2 hq2) fun r s' hq'=>?_)
 cases r with
 |error e=>exact False.elim hq'
 | ok fl=>
  cases fl with
  | ret u=>
   obtain⟨v,H',I4,rx,ev,od,hod,hE⟩:=I3.after hq'
   subst ev
   refine⟨rx,Yb (Y9 (wpAny_point (YI ?_)))⟩
   have at4:s'.heap.get? (hp.objs.size+1)=some (rawE C hp.objs.size od):=(I4.hok _ _ hod).1
   refine⟨hp.objs.size+1,hp.objs.size,od,rfl,⟨I4.bk _ _ hC,at4⟩,?_⟩
   refine a3J (I4.del hod) (t:=hp.objs.size) at4 rfl rfl rfl ?_ c1J hE
   refine Heap.get?_none_of_le (Yn I2.sz (Nat.le_succ _))
  |next=>exact False.elim hq'
  |brk=>exact False.elim hq'
  |cont=>exact False.elim hq'
end
end L2

/-! self.f=v in an exception's __init__ -/
namespace L2
open PySem PySem.Spec PyProof.Rows Builtin Builtin.ObjectAttr
theorem c2D {h:Heap}{bmB tl:List Value}(T:OwnTail h bmB tl)(self:Value)(hp:refuseLoop self "__setattr__" bmB=pure ()):refuseLoop self "__setattr__" tl=pure ():=by
 induction T with
 |base=>exact hp
 |own _ _ _ _ ih=>rw[refuseLoop_ref];exact ih
section
variable {prog:Program}{w:World}{K:W.Frag}{A:Around}{s:Shared}{a C t fI:Addr}{f:Str}{R:Result->Shared->Prop}
/-- object.__setattr__ on an exception:down to the store in its own dict -/
theorem c7U {B newId:String}{bmB:List Value}{u:Value}{tk:Tok}{ox:Obj}{od:Option Obj}(SF:StoreFacts B bmB "object.__setattr__" "object")(X:K.In s.heap)(J:W.InstAt s.heap a ox C od)(hq:excInit K C fI bmB newId=true)
  (n :NoAttr K C f) (h:wpAny (model prog w) A.in1 (storeInOwnDict (.ref a) (.ref C) (.str f tk) f u false)
   (fun fin s'=>match fin with | .done f=>R (.ok f) s' | .again c'=>c'.quiet=true/\codeAny (model prog w) A c' R s') (fun e s'=>R (.error e) s') s) :
  codeAny (model prog w) A (.call (.builtin "object.__setattr__") ⟨[.ref a,.str f tk,u], []⟩) R s:=by
 obtain⟨bm,N,nm,qn,bs,sn,sub,ab,col,dd,k0,k1,k2,k3,k5,mN,hC,hN,hni,T⟩:=a4V X hq
 have hcO:(Value.ref C::bm).contains (.type "object")=true:=by rw[List.contains_cons,T.hasType SF.hasOwner,Bool.or_true]
 have LT:=J.type (M:=model prog w)
 have LS:W.Looks (model prog w) s.heap (isSubtype (.ref C) (.type "object")) true:=fun A' Q' E' s' k z=>wpAny_isSubtype_exc (k _ _ hC) (by rw[hcO];exact z)
 have LM:W.Looks (model prog w) s.heap (mroOf (.ref C)) (.ref C::bm):=fun A' Q' E' s' k z=>wpAny_mroOf_exc (k _ _ hC) z
 have LI:W.Looks (model prog w) s.heap (isInstance (.ref a) (.type "object")) true:=LT.andThen LS
 have LN:=Xg (M:=model prog w) X n
 have L3:W.Looks (model prog w) s.heap (storeTaker? none) none:= .now
 refine XQ SF.slot.plain SF.entry (@W.check_slot (model prog w) _ _ s "object.__setattr__" "object" "__setattr__" (.ref a) [.str f tk,u] [] _ SF.kind SF.split LI (SF.args (.ref a) (.str f tk) u) ?_)
 rw[W.osa_eq,refuse_eq]
 refine Yb (Yb (LT.here (Yb (LM.here ?_))))
 rw[refuseLoop_ref,c2D T _ (SF.passes _)]
 exact YI (Yb (LT.here (Yb (LN.here (Yb (L3.here h))))))
theorem c4G {E:Value->Shared->Prop}{newId:String}{bmB:List Value}{u:Value}{tk:Tok}{tt:Addr}{Q:Fin->Shared->Prop}(X:K.In s.heap)(ha:s.heap.get? a=some (rawE C tt none))(hq:excInit K C fI bmB newId=true)
  (h:∀h' tk',h'.get? a=some (rawE C tt (some s.heap.objs.size))->(∃mA,h'.Ns1 s.heap.objs.size mA/\∀y,mA y=if y=f then some u else none)->(∀b o,b≠a->s.heap.get? b=some o->h'.get? b=some o)->Q (.done (.ret .none)) { s with heap:=h',toks:=tk' }) :
  wpAny (model prog w) A (storeInOwnDict (.ref a) (.ref C) (.str f tk) f u false) Q E s:=by
 obtain⟨bm,N,nm,qn,bs,sn,sub,ab,col,dd,k0,k1,k2,k3,k5,mN,hC,hN,hni,T⟩:=a4V X hq
 unfold storeInOwnDict ownDictForStores instanceDict classData
 refine Yb (YI (Yb (Yb (XS ha (Yb (Yb (wpAny_load hC (YI ?_))))))))
 have as:a≠s.heap.objs.size:=YL (Ym ha)
 have ha1:(s.heap.push { cls:= .type "dict",data:= .dict #[] }).get? a=some (rawE C tt none):=Yd _ ha
 refine Yb (wpAny_alloc' (Yb (wpAny_update' ha1 (YI ?_))))
 have gd:((s.heap.push { cls:= .type "dict",data:= .dict #[] }).update a fun o=>{ o with dict:=some s.heap.objs.size }).get? s.heap.objs.size=some { cls:= .type "dict",data:= .dict #[] }:=
  (YS _ _ as).trans (Heap.get?_push_at rfl rfl)
 have nd:((s.heap.push { cls:= .type "dict",data:= .dict #[] }).update a fun o=>{ o with dict:=some s.heap.objs.size }).Ns s.heap.objs.size (fun _=>none):=⟨_, #[],_,gd,rfl,fun e he=>absurd he (by simp),fun _=>rfl⟩
 show wpAny _ _ (storeInDict s.heap.objs.size (.str f tk) f u) _ _ _
 unfold storeInDict newKeyGuard
 refine Yb (YI (Yb (wpAny_nsSet1 (Heap.Ns1.of_empty nd) fun h' n1 sb=>?_)))
 obtain⟨oD,esD,epD,hoD,hdD,hcD⟩:=n1.count (Within.cons f u Within.nil)
 refine Yb (wpAny_lookBehind hoD (by rw[hdD];exact pastItsLine_dict (Yn hcD (by rw[Ys,List.length_nil,sizeLine_eq];omega))) (YI ?_))
 refine h h' _ ?_ ⟨_,n1,fun y=>rfl⟩ fun b o nb q=>?_
 ·exact(sb.2 a as).trans (Xn _ ha1 rfl)
 ·exact(sb.2 b (YL (Ym q))).trans ((YS _ _ (Ne.symm nb)).trans (Yd _ q))
end
section
variable {X:Cx}{A:Around}{E:Value->Shared->Prop}{pins:List (Addr×Obj)}{σ:St}{H:Hp}{s:Shared}{a C t fI:Addr}{f:Str}
theorem b9O {B newId:String}{bmB:List Value}{y:V}{u:Value}{Q:Unit->Shared->Prop}(SF:StoreFacts B bmB "object.__setattr__" "object")(I:Inv X pins σ H s)(e:H a=some (rawO C t none a))(hq:excInit X.K C fI bmB newId=true)
  (hs:W.findIn X.K (.ref C) "__setattr__"=some (some (.builtin "object.__setattr__"))) (n:NoAttr X.K C f) (ry:RelV y u)
  (h:∀dx s',H dx=none->dx≠a->Inv X pins σ (upd (upd H a (rawO C t (some dx) a)) dx (.xd [(f,y)])) s'->Q () s'):wpAny (model X.prog X.w) A (setAttr (.ref a) f u) Q E s:=by
 have ha:s.heap.get? a=some (rawE C t none):=(I.hok a _ e).1
 have J:W.InstAt s.heap a (rawE C t none) C none:=⟨ha,rfl,rfl,trivial⟩
 refine W.set_plain I.kIn J hs (c7U (s:={ s with toks:=s.toks+1 }) SF I.kIn J hq n (c4G (s:={ s with toks:=s.toks+1 }) I.kIn ha hq fun h' tk' at_ nsd kp=>?_))
 obtain⟨mA,n1,hmA⟩:=nsd
 have fresh:=I.fresh
 have ne:s.heap.objs.size≠a:=Nat.ne_of_gt (Ym ha)
 refine h s.heap.objs.size _ fresh ne ?_
 have ma:Mut (H a):=by rw[e];exact True.intro
 have new1:ObjOk X.prog X.w (upd (upd H a (rawO C t (some s.heap.objs.size) a)) s.heap.objs.size (.xd [(f,y)])) h' a (rawO C t (some s.heap.objs.size) a):=⟨at_,⟨_,at_⟩,fun h1 h2 z k=>k _ z⟩
 have new2:ObjOk X.prog X.w (upd (upd H a (rawO C t (some s.heap.objs.size) a)) s.heap.objs.size (.xd [(f,y)])) h' s.heap.objs.size (.xd [(f,y)]):=by
  refine⟨mA,n1,fun g=>?_⟩
  rw[hmA g]
  by_cases q:g=f
  ·subst q;simp[List.lookup,RelO];exact ry
  ·have z:(g == f)=false:=by simpa using q
   simp[List.lookup,z,q,RelO]
 have oth:∀b,b≠a->b≠s.heap.objs.size->upd (upd H a (rawO C t (some s.heap.objs.size) a)) s.heap.objs.size (.xd [(f,y)]) b=H b:=fun b n1 n2=>by rw[aQ n2,aQ n1]
 have nA:∀b o,H b=some o->(∀φ,o≠ .ext φ)->b≠a:=fun b o q z w'=>by subst w';rw[e]at q;cases q;exact z _ rfl
 have nS:∀b o,H b=some o->b≠s.heap.objs.size:=fun b o q z=>by rw[z,fresh]at q;cases q
 refine I.un (h':=h') (t':=tk') ⟨?_,?_,?_,?_,?_,?_,?_⟩ fun b o q=>?_
 ·intro b o q nh _ _
  exact kp b o (fun z=>by rw[z,e]at nh;cases nh) q
 ·intro b o q nh _ _
  exact⟨o.slots,kp b o (fun z=>by rw[z,e]at nh;cases nh) q⟩
 ·intro b o q nh _
  rw[oth b (fun z=>by rw[z,e]at nh;cases nh) (YL (Ym q))]
  exact nh
 ·intro b o q _
  by_cases z:b=a
  ·subst z;exact⟨_,at_⟩
  ·exact⟨o,kp b o z q⟩
 ·intro b xs q
  rw[oth b (nA b _ q fun φ z=>by cases z) (nS b _ q)];exact q
 ·intro b o v q
  rw[oth b (nA b _ q fun φ z=>by cases z) (nS b _ q)];exact q
 ·intro b ps q
  exact⟨#[],by rw[oth b (nA b _ q fun φ z=>by cases z) (nS b _ q),q];simp⟩
 ·by_cases z1:b=s.heap.objs.size
  ·subst z1;rw[aK]at q;cases q;exact new2
  ·by_cases z2:b=a
   ·subst z2;rw[aQ z1,aK]at q;cases q;exact new1
   ·rw [oth b z2 z1]at q
    refine(I.hok b o q).stay (fun c v hc r=>kp c v (fun z=>?_) r) (fun c r=>?_) fun c xs r=>?_
    ·subst z
     rcases hc with hc | hc
     ·exact z2 hc.symm
     ·rw[e]at hc;cases hc
    ·rw[oth c (nA c _ r fun φ z=>by cases z) (nS c _ r)];exact r
    ·rw[oth c (nA c _ r fun φ z=>by cases z) (nS c _ r)];exact r
end
end L2

/-! READINGS THAT COMPUTE:the same rules,their readings by cases of the values (no witnesses asked where the values are known) -/
namespace L2
open PySem PySem.Spec PyProof.Rows
theorem PE.imp {X:Cx}{e:Expr}{t t':TE}(h:PE X e t)(i:∀σ H Q,t' σ H Q->t σ H Q):PE X e t':=fun pins s σ H Q I q=>h pins s σ H Q I (i σ H Q q)
theorem PS.imp {X:Cx}{e:Stmt}{t t':TS}(h:PS X e t)(i:∀D σ H,t' D σ H->t D σ H):PS X e t':=fun pins s σ H D I q=>h pins s σ H D I (i D σ H q)
theorem OpR.imp {X:Cx}{f:Value->Value->Sem Value}{r r':R2}(h:OpR X f r)(i:∀x y H Q,r' x y H Q->r x y H Q):OpR X f r':=fun pins s σ H x y v u Q I rx ry q=>h pins s σ H x y v u Q I rx ry (i x y H Q q)
theorem UnR.imp {X:Cx}{f:Value->Sem Value}{r r':V->Hp->VK->Prop}(h:UnR X f r)(i:∀x H Q,r' x H Q->r x H Q):UnR X f r':=fun pins s σ H x v Q I rx q=>h pins s σ H x v Q I rx (i x H Q q)
theorem CallR.imp {X:Cx}{f:Value}{r r':List V->Hp->VK->Prop}(h:CallR X f r)(i:∀xs H Q,r' xs H Q->r xs H Q):CallR X f r':=fun pins s σ H xs us Q I rv q=>h pins s σ H xs us Q I rv (i xs H Q q)
theorem IxR.imp {X:Cx}{r r':R2}(h:IxR X r)(i:∀x y H Q,r' x y H Q->r x y H Q):IxR X r':=fun va sl pins s σ H x y v u Q I rx ry q hs=>h va sl pins s σ H x y v u Q I rx ry (i x y H Q q) hs
/-! ### by cases (recursors:they compute whatever their value is written like) -/
def oV (o:Option (Option V))(k:V->Prop):Prop:=@Option.rec (Option V) (fun _=>Prop) False (fun o=>@Option.rec V (fun _=>Prop) False k o) o
def vI (x:V)(k:Int->Prop):Prop:=@V.rec (fun _=>Prop) False (fun _=>False) k (fun _=>False) (fun _=>False) (fun _=>False) (fun _=>False) (fun _=>False) x
def vB (x:V)(k:Bool->Prop):Prop:=@V.rec (fun _=>Prop) False k (fun _=>False) (fun _=>False) (fun _=>False) (fun _=>False) (fun _=>False) (fun _=>False) x
def vS (x:V)(k:Str->Prop):Prop:=@V.rec (fun _=>Prop) False (fun _=>False) (fun _=>False) k (fun _=>False) (fun _=>False) (fun _=>False) (fun _=>False) x
def vR (x:V)(k:Addr->Prop):Prop:=@V.rec (fun _=>Prop) False (fun _=>False) (fun _=>False) (fun _=>False) (fun _=>False) (fun _=>False) k (fun _=>False) x
def l1 (vs:List V)(k:V->Prop):Prop:=@List.rec V (fun _=>Prop) False (fun x r _=>@List.rec V (fun _=>Prop) (k x) (fun _ _ _=>False) r) vs
def l2 (vs:List V)(k:V->V->Prop):Prop:=@List.rec V (fun _=>Prop) False (fun x r _=>l1 r fun y=>k x y) vs
theorem oV.ex {o:Option (Option V)}{k:V->Prop}(h:oV o k):∃v,o=some (some v)/\k v:=by
 cases o with
 |none=>exact h.elim
 | some o=>cases o with
  |none=>exact h.elim
  |some v=>exact⟨v,rfl,h⟩
theorem vI.ex {x:V}{k:Int->Prop}(h:vI x k):∃i,x= .int i/\k i:=by
 cases x with
 |int i=>exact⟨i,rfl,h⟩
 |_=>exact h.elim
theorem vB.ex {x:V}{k:Bool->Prop}(h:vB x k):∃i,x= .bl i/\k i:=by
 cases x with
 |bl i=>exact⟨i,rfl,h⟩
 |_=>exact h.elim
theorem vS.ex {x:V}{k:Str->Prop}(h:vS x k):∃i,x= .str i/\k i:=by
 cases x with
 |str i=>exact⟨i,rfl,h⟩
 |_=>exact h.elim
theorem vR.ex {x:V}{k:Addr->Prop}(h:vR x k):∃i,x= .ref i/\k i:=by
 cases x with
 |ref i=>exact⟨i,rfl,h⟩
 |_=>exact h.elim
theorem l1.ex {vs:List V}{k:V->Prop}(h:l1 vs k):∃x,vs= [x]/\k x:=by
 match vs,h with
 |[x],h=>exact⟨x,rfl,h⟩
theorem l2.ex {vs:List V}{k:V->V->Prop}(h:l2 vs k):∃x y,vs= [x,y]/\k x y:=by
 match vs,h with
 |[x,y],h=>exact⟨x,y,rfl,h⟩
/-! ### names -/
def dVar (i:Nat):TE:=fun σ H Q=>oV σ[i]? fun v=>Q v H
section
variable {X:Cx}
theorem dv (i:Nat){x:Str}{pos:Pos}(hN:X.N[i]? =some x:=by rfl)(hv:Vis X.env.scope x:=by first | exact Or.inl rfl | exact Or.inr (Or.inl rfl) | exact Or.inr (Or.inr rfl))(hd:(x == ("__debug__":Str))=false:=by decide)
  (hcd:(x == ("__classdict__":Str))=false:=by decide):PE X (.Name x pos) (dVar i):=(b9X hN hv hd hcd).imp fun σ H Q h=>h.ex
/-! ### operations -/
def mI (C:Int->Int->Prop)(g:Int->Int->V):R2:=fun x y H Q=>vI x fun i=>vI y fun j=>C i j/\Q (g i j) H
def mI0 (g:Int->Int->V):R2:=fun x y H Q=>vI x fun i=>vI y fun j=>Q (g i j) H
theorem mI.to {C:Int->Int->Prop}{g:Int->Int->V}:∀x y H Q,mI C g x y H Q->rI C g x y H Q:=fun x y H Q h=>by
 obtain⟨i,rfl,h1⟩:=vI.ex h
 clear h
 obtain⟨j,rfl,h⟩:=vI.ex h1
 exact⟨_,_,rfl,rfl,h.1,h.2⟩
theorem mI0.to {g:Int->Int->V}:∀x y H Q,mI0 g x y H Q->rI0 g x y H Q:=fun x y H Q h=>by
 obtain⟨i,rfl,h1⟩:=vI.ex h
 clear h
 obtain⟨j,rfl,h⟩:=vI.ex h1
 exact⟨_,_,rfl,rfl,h⟩
def mU (g:Int->V):V->Hp->VK->Prop:=fun x H Q=>vI x fun i=>Q (g i) H
theorem mU.to {g:Int->V}:∀x H Q,mU g x H Q->rU g x H Q:=fun x H Q h=>vI.ex h
theorem jK:OpR X (binaryOp .Add) (mI0 fun i j=> .int (i+j)):=c4X.imp mI0.to
theorem b8Y:OpR X (binaryOp .Sub) (mI0 fun i j=> .int (i-j)):=c4T.imp mI0.to
theorem uB:OpR X (binaryOp .Mult) (mI CMulB fun i j=> .int (i*j)):=c2Q.imp mI.to
theorem b3O:OpR X (binaryOp .Mod) (mI (fun _ j=>0<j) fun i j=> .int (i % j)):=c4U.imp mI.to
theorem b9B:UnR X (unaryOp .USub) (mU fun i=> .int (-i)):=c4D.imp mU.to
theorem b2L:OpR X (compareOp .Lt) (mI0 fun i j=> .bl (decide (i<j))):=c6N.imp mI0.to
theorem a8Y:OpR X (compareOp .LtE) (mI0 fun i j=> .bl (decide (i<=j))):=c6O.imp mI0.to
theorem a4K:OpR X (compareOp .Gt) (mI0 fun i j=> .bl (decide (j<i))):=c6P.imp mI0.to
theorem c3Z:OpR X (compareOp .GtE) (mI0 fun i j=> .bl (decide (j<=i))):=c6Q.imp mI0.to
theorem dI {i j:Int}:decide (V.int i=V.int j)=decide (i=j):=by
 by_cases h:i=j
 ·rw[Yk h,Yk (Yy V.int h)]
 ·rw[Yi h,Yi fun z=>h (V.int.inj z)]
theorem dS {i j:Str}:decide (V.str i=V.str j)=decide (i=j):=by
 by_cases h:i=j
 ·rw[Yk h,Yk (Yy V.str h)]
 ·rw[Yi h,Yi fun z=>h (V.str.inj z)]
theorem dB {i j:Bool}:decide (V.bl i=V.bl j)=decide (i=j):=by
 by_cases h:i=j
 ·rw[Yk h,Yk (Yy V.bl h)]
 ·rw[Yi h,Yi fun z=>h (V.bl.inj z)]
/-- == of two scalars -/
def eqW (f:Bool->Prop)(x y:V):Prop:=@V.rec (fun _=>Prop)
 (@V.rec (fun _=>Prop) (f true) (fun _=>False) (fun _=>f false) (fun _=>f false) (fun _=>False) (fun _=>False) (fun _=>False) (fun _=>False) y)
 (fun i=>@V.rec (fun _=>Prop) False (fun j=>f (decide (i=j))) (fun _=>False) (fun _=>False) (fun _=>False) (fun _=>False) (fun _=>False) (fun _=>False) y)
 (fun i=>@V.rec (fun _=>Prop) (f false) (fun _=>False) (fun j=>f (decide (i=j))) (fun _=>f false) (fun _=>False) (fun _=>False) (fun _=>False) (fun _=>False) y)
 (fun i=>@V.rec (fun _=>Prop) (f false) (fun _=>False) (fun _=>f false) (fun j=>f (decide (i=j))) (fun _=>False) (fun _=>False) (fun _=>False) (fun _=>False) y)
 (fun _=>False) (fun _=>False) (fun _=>False) (fun _=>False) x
theorem eqW.ex {f:Bool->Prop}{x y:V}(h:eqW f x y):scal x y=true/\f (decide (x=y)):=by
 cases x with
 |non=>cases y <;> first | exact h.elim | exact⟨rfl,h⟩
 |bl i=>cases y <;> first | exact h.elim | (exact⟨rfl,by rw[dB];exact h⟩)
 |int i=>cases y <;> first | exact h.elim | exact⟨rfl,h⟩ | (exact⟨rfl,by rw[dI];exact h⟩)
 |str i=>cases y <;> first | exact h.elim | exact⟨rfl,h⟩ | (exact⟨rfl,by rw[dS];exact h⟩)
 |_=>exact h.elim
def mEq:R2:=fun x y H Q=>eqW (fun b=>Q (.bl b) H) x y
def mNe:R2:=fun x y H Q=>eqW (fun b=>Q (.bl (!b)) H) x y
theorem uP:OpR X (compareOp .Eq) mEq:=c6R.imp fun x y H Q h=>eqW.ex (f:=fun b=>Q (.bl b) H) h
theorem b1A:OpR X (compareOp .NotEq) mNe:=c6M.imp fun x y H Q h=>eqW.ex (f:=fun b=>Q (.bl (!b)) H) h
def vN (x:V)(k:Prop):Prop:=@V.rec (fun _=>Prop) k (fun _=>False) (fun _=>False) (fun _=>False) (fun _=>False) (fun _=>False) (fun _=>False) (fun _=>False) x
theorem vN.ex {x:V}{k:Prop}(h:vN x k):x= .non/\k:=by
 cases x with
 |non=>exact⟨rfl,h⟩
 |_=>exact h.elim
def mIsN:R2:=fun x y H Q=>vN y (Q (.bl (decide (x= .non))) H)
theorem b1F:OpR X (compareOp .Is) mIsN:=c4V.imp fun x y H Q h=>vN.ex h
/-! ### tests -/
section
variable {a b c:Expr}{ta tb tc:TE}{pos:Pos}{rest:List Expr}
theorem a9M {x:V}{k:Bool->Prop}:vB x k=∃i,x= .bl i/\k i:=propext ⟨vB.ex,fun ⟨i,e,h⟩=>by subst e;exact h⟩
def dTest (t:TE):TT:=fun σ H Q=>t σ H fun x H'=>vB x fun k=>Q k H'
theorem b4X (t:TE):dTest t=tTest t:=by
 funext σ H Q
 unfold dTest tTest
 simp only[a9M]
theorem b8R (t:TE):dTest t=tB t:=by
 funext σ H Q
 unfold dTest tB
 simp only[a9M]
theorem bH {op:CmpOp}{r:R2}(ho:OpR X (compareOp op) r)(ha:PE X a ta)(hb:PE X b tb)(hm:behindInMarks op b=false):PT X (.Compare a [op] [b] pos) (dTest (tOp r ta tb)):=by
 rw[b4X];exact c2F ho ha hb hm
theorem lX {e:Expr}{t:TE}(h:PE X e t)(he:∀whole,isTrue e X.env whole=(do let v<-whole;standAt e.pos;holding [v] (truthy v)):=by intro _;rfl):PT X e (dTest t):=by
 rw[b8R];exact c4K h he
def dAnd (ta tb:TE):TE:=fun σ H Q=>ta σ H fun x H1=>vB x fun c=>if c=true then tb σ H1 Q else Q (.bl false) H1
def dOr (ta tb:TE):TE:=fun σ H Q=>ta σ H fun x H1=>vB x fun c=>if c=true then Q (.bl true) H1 else tb σ H1 Q
theorem c3C:dAnd ta tb=tAndV ta tb:=by
 funext σ H Q
 unfold dAnd tAndV
 simp only[a9M]
theorem c5P:dOr ta tb=tOrV ta tb:=by
 funext σ H Q
 unfold dOr tOrV
 simp only[a9M]
theorem b0A (ha:PE X a ta)(hb:PE X (.BoolOp .And (b::rest) pos) tb):PE X (.BoolOp .And (a::b::rest) pos) (dAnd ta tb):=by
 rw[c3C];exact c4P ha hb
theorem c3M (ha:PE X a ta)(hb:PE X (.BoolOp .Or (b::rest) pos) tb):PE X (.BoolOp .Or (a::b::rest) pos) (dOr ta tb):=by
 rw[c5P];exact c6K ha hb
end
/-! ### lists and tuples that are read -/
def SqA (K:W.Frag)(H:Hp)(a:Addr)(xs:List V):Prop:=SqL K H a xs\/SqT K H a xs
def mIxL (K:W.Frag):R2:=fun x y H Q=>vR x fun p=>vI y fun i=>∃xs v,SqL K H p xs/\atI xs i=some v/\Q v H
def mIxT (K:W.Frag):R2:=fun x y H Q=>vR x fun p=>vI y fun i=>∃xs v,SqT K H p xs/\atI xs i=some v/\Q v H
def mIxS:R2:=fun x y H Q=>vS x fun z=>vI y fun i=>∃c,z.length<=sizeLine/\atI z.cps.toList i=some c/\Q (.str ⟨#[c]⟩) H
theorem cZ:IxR X (mIxL X.K):=c2Y.imp fun x y H Q h=>by
 obtain⟨p,rfl,h⟩:=vR.ex h
 obtain⟨i,rfl,xs,v,h1,h2,h3⟩:=vI.ex h
 exact⟨_,xs,_,v,rfl,rfl,h1,h2,h3⟩
theorem a7R:IxR X (mIxT X.K):=c5E.imp fun x y H Q h=>by
 obtain⟨p,rfl,h⟩:=vR.ex h
 obtain⟨i,rfl,xs,v,h1,h2,h3⟩:=vI.ex h
 exact⟨_,xs,_,v,rfl,rfl,h1,h2,h3⟩
theorem c3F:IxR X mIxS:=c5F.imp fun x y H Q h=>by
 obtain⟨p,rfl,h⟩:=vS.ex h
 obtain⟨i,rfl,c,h1,h2,h3⟩:=vI.ex h
 exact⟨_,_,c,rfl,rfl,h1,h2,h3⟩
def mLen (K:W.Frag):List V->Hp->VK->Prop:=fun xs H Q=>l1 xs fun x=>vR x fun p=>∃ys,SqA K H p ys/\Q (.int ys.length) H
theorem nH:CallR X (.builtin "len") (mLen X.K):=b3M.imp fun xs H Q h=>by
 obtain⟨x,rfl,h⟩:=l1.ex h
 obtain⟨p,rfl,ys,h1,h2⟩:=vR.ex h
 exact⟨_,ys,rfl,h1,h2⟩
def mLenS:List V->Hp->VK->Prop:=fun xs H Q=>l1 xs fun x=>vS x fun z=>z.length<=sizeLine/\Q (.int z.length) H
theorem b5G:CallR X (.builtin "len") mLenS:=b3L.imp fun xs H Q h=>by
 obtain⟨x,rfl,h⟩:=l1.ex h
 obtain⟨p,rfl,h1,h2⟩:=vS.ex h
 exact⟨_,rfl,h1,h2⟩
def mListOf (K:W.Frag):List V->Hp->VK->Prop:=fun xs H Q=>l1 xs fun x=>vR x fun p=>∃ys,SqA K H p ys/\∀l,H l=none->Q (.ref l) (upd H l (.lst ys))
theorem a5H:CallR X (.type "list") (mListOf X.K):=b3K.imp fun xs H Q h=>by
 obtain⟨x,rfl,h⟩:=l1.ex h
 obtain⟨p,rfl,ys,h1,h2⟩:=vR.ex h
 exact⟨_,ys,rfl,h1,h2⟩
def mMin2:List V->Hp->VK->Prop:=fun xs H Q=>l2 xs fun x y=>vI x fun i=>vI y fun j=>Q (.int (min i j)) H
def mMax2:List V->Hp->VK->Prop:=fun xs H Q=>l2 xs fun x y=>vI x fun i=>vI y fun j=>Q (.int (max i j)) H
theorem c3X (hc:X.calm=true):CallR X (.builtin "min") mMin2:=(b8U hc).imp fun xs H Q h=>by
 obtain⟨x,y,rfl,h⟩:=l2.ex h
 obtain⟨i,rfl,h⟩:=vI.ex h
 obtain⟨j,rfl,h⟩:=vI.ex h
 refine⟨_,_,rfl,?_⟩
 have e:(if j<i then j else i)=min i j:=by omega
 rw[e];exact h
theorem c3Y (hc:X.calm=true):CallR X (.builtin "max") mMax2:=(b8V hc).imp fun xs H Q h=>by
 obtain⟨x,y,rfl,h⟩:=l2.ex h
 obtain⟨i,rfl,h⟩:=vI.ex h
 obtain⟨j,rfl,h⟩:=vI.ex h
 refine⟨_,_,rfl,?_⟩
 have e:(if j > i then j else i)=max i j:=by omega
 rw[e];exact h
/-- isinstance(x,T) of a built-in type:a rule for each T -/
def isiR (T:String)(f:V->Hp->VK->Prop):List V->Hp->VK->Prop:=fun xs H Q=>l2 xs fun x c=>c= .ty T/\f x H Q
end
section
variable {K:W.Frag}
end
section
variable {X:Cx}
theorem c5G {T:String}{f:V->Hp->VK->Prop}(h:∀x H Q,f x H Q->∃t b,TyOf X.K H x t/\W.kitOne X.K t (.type T)=some b/\Q (.bl b) H):CallR X (.builtin "isinstance") (isiR T f):=c1Q.imp fun xs H Q q=>by
 obtain⟨x,c,rfl,q⟩:=l2.ex q
 obtain⟨ec,q2⟩:=q
 subst ec
 obtain⟨t,b,h1,h2,h3⟩:=h x H Q q2
 exact⟨_,_,_,t,b,rfl,rfl,h1,h2,h3⟩
/-! ### n.bit_length(),xs.append(x),xs.pop() -/
def tCutA (t:TA):TA:=fun σ H Q=>∃P:List V->Hp->Prop,t σ H P/\∀x H',P x H'->Q x H'
theorem zQ {es:List Expr}{t:TA}(h:PA X es t):PA X es (tCutA t):=by
 intro pos pins s σ H Q I hw
 obtain⟨P,h1,h2⟩:=hw
 exact thn (h pos pins s σ H P I h1) fun v s1 ⟨x,H1,I1,r,q⟩=>⟨x,H1,I1,r,h2 x H1 q⟩
section
variable {o e:Expr}{es:List Expr}{to:TE}{t:TA}{apos cpos:Pos}
def dAppend (K:W.Frag)(to:TE)(t:TA):TE:=fun σ H Q=>to σ H fun x H1=>vR x fun l=>(∃xs,SqL K H1 l xs)/\t σ H1 fun vs H2=>l1 vs fun y=>∃xs,H2 l=some (.lst xs)/\xs.length<sizeLine/\Q .non (upd H2 l (.lst (xs++[y])))
theorem vQ (ho:PE X o to)(ha:PA X [e] t)(hbase:attributeBase o "append" X.env (eval o X.env)=eval o X.env:=by rfl)
  (hfew:((backTo cpos (starEach [e] X.env)).all (fun x=>!x.1) && (backToKw cpos (keywordEach [] X.env)).all (fun x=>x.1.isSome)
   && decide (([e]:List Expr).length+([]:List Keyword).length+(if ([]:List Keyword).isEmpty then 0 else 1)<30))=true:=by rfl)
  (hline:(apos.endLine == cpos.line)=true:=by rfl) (hs:starEach [e] X.env=(false,eval e X.env)::starEach [] X.env:=by rfl) (hplain:(backTo cpos (starEach [] X.env)).any (·.1)=false:=by rfl) :
  PE X (.Call (.Attribute o "append" apos) [e] [] cpos) (dAppend X.K to t):=
 (b1L Xu PySem.F.slot_list_append PySem.F.type_list_append b7Z (gD ho) (zQ ha) hbase hfew hline hs hplain).imp fun σ H Q h=>⟨_,h,fun x H1 q=>by
  obtain⟨l,rfl,q1,q2⟩:=vR.ex q
  refine⟨.inl ⟨rfl,q1⟩,_,q2,fun vs H2 q3=>?_⟩
  obtain⟨y,rfl,xs,h1,h2,h3⟩:=l1.ex q3
  exact⟨l,xs,y,rfl,rfl,h1,h2,h3⟩⟩
/-! ### slices -/
def dPart (t:TE):TO:=fun σ H Q=>t σ H fun x H1=>vI x fun i=>Q (some i) H1
theorem PO.imp {e:Option Expr}{t t':TO}(h:PO X e t)(i:∀σ H Q,t' σ H Q->t σ H Q):PO X e t':=fun pins s σ H Q I q=>h pins s σ H Q I (i σ H Q q)
theorem vK (h:PE X e to):PO X (some e) (dPart to):=(c2K (gD h)).imp fun σ H Q q=>⟨_,q,fun x H1 z=>vI.ex z⟩
def mSlL (K:W.Frag):V->Option Int->Option Int->Hp->VK->Prop:=fun x lo hi H Q=>vR x fun a=>∃xs,SqL K H a xs/\∀p,H p=none->Q (.ref p) (upd H p (.lst (cutV xs lo hi)))
theorem SlR.imp {r r':V->Option Int->Option Int->Hp->VK->Prop}(h:SlR X r)(i:∀x lo hi H Q,r' x lo hi H Q->r x lo hi H Q):SlR X r':=by
 intro pins s σ H x v vl vu lo hi sl Q I rx hs pl pu q
 exact h pins s σ H x v vl vu lo hi sl Q I rx hs pl pu (i _ _ _ _ _ q)
theorem a9J:SlR X (mSlL X.K):=c2A.imp fun x lo hi H Q h=>by
 obtain⟨a,rfl,xs,h1,h2⟩:=vR.ex h
 exact⟨_,xs,rfl,h1,h2⟩
/-! ### what a loop walks -/
variable {tg:Expr}
theorem PI.imp {iter:Expr}{w w':TI}(h:PI X tg iter w)(i:∀σ H R,w' σ H R->w σ H R):PI X tg iter w':=fun pins s σ H R I q=>h pins s σ H R I (i σ H R q)
def dList (K:W.Frag)(tl:TE):TI:=fun σ H R=>tl σ H fun x H1=>vR x fun a=>(∃xs,SqL K H1 a xs)/\R (Itl K a) H1
theorem sI {l:Expr}{tl:TE}(hl:PE X l tl):PI X tg l (dList X.K tl):=(c2L (gD hl)).imp fun σ H R h=>⟨_,h,fun x H1 q=>vR.ex q⟩
def dRng1 (ta:TA):TI:=fun σ H R=>ta σ H fun vs H1=>l1 vs fun x=>vI x fun j=>(-(2 ^ 62)<=j/\j<2 ^ 62)/\R (Itr 0 j.toNat) H1
def dRng2 (ta:TA):TI:=fun σ H R=>ta σ H fun vs H1=>l2 vs fun x y=>vI x fun i=>vI y fun j=>(-(2 ^ 62)<=i/\i<2 ^ 62/\ -(2 ^ 62)<=j/\j<2 ^ 62)/\R (Itr i (j-i).toNat) H1
theorem a3B {a:Expr}{ta:TA}{p pos:Pos}(hg:Gl X "range")(hm:X.mg "range"=none)(ha:PA X [a] ta)(hs:starEach [a] X.env= [(false,eval a X.env)]:=by rfl):PI X tg (.Call (.Name "range" p) [a] [] pos) (dRng1 ta):=
 (b7R hg hm (zQ ha) hs).imp fun σ H R h=>⟨_,h,fun vs H1 q=>by
  obtain⟨x,rfl,q⟩:=l1.ex q
  obtain⟨j,rfl,q⟩:=vI.ex q
  exact⟨j,rfl,q.1.1,q.1.2,q.2⟩⟩
theorem b1Q {a b:Expr}{ta:TA}{p pos:Pos}(hg:Gl X "range")(hm:X.mg "range"=none)(ha:PA X [a,b] ta)(hs:starEach [a,b] X.env= [(false,eval a X.env),(false,eval b X.env)]:=by rfl)(hs2:starEach [b] X.env= [(false,eval b X.env)]:=by rfl) :
  PI X tg (.Call (.Name "range" p) [a,b] [] pos) (dRng2 ta):=
 (b7Q hg hm (zQ ha) hs hs2).imp fun σ H R h=>⟨_,h,fun vs H1 q=>by
  obtain⟨x,y,rfl,q⟩:=l2.ex q
  obtain⟨i,rfl,q⟩:=vI.ex q
  obtain⟨j,rfl,q⟩:=vI.ex q
  exact⟨i,j,rfl,q.1,q.2⟩⟩
/-! ### xs[i]=v -/
def mSetL:V->V->V->Hp->(Hp->Prop)->Prop:=fun o i v H Q=>vR o fun p=>vI i fun k=>∃xs j,H p=some (.lst xs)/\ixN xs.length k=some j/\Q (upd H p (.lst (xs.set j v)))
theorem b2K:PSet X mSetL:=fun pins s σ H o i v vo vi vv Q I ro ri rv h=>set_list pins s σ H o i v vo vi vv Q I ro ri rv (by
 obtain⟨p,rfl,h⟩:=vR.ex h
 obtain⟨k,rfl,xs,j,h1,h2,h3⟩:=vI.ex h
 exact⟨_,xs,_,j,rfl,rfl,h1,h2,h3⟩)
end
end
end L2

/-! an exception that passes a comprehension -/
namespace L2
open PySem PySem.Spec PyProof.Rows
section
variable {M:Model}{A:Around}{E:Value->Shared->Prop}{s:Shared}{B:Heap}{env:Env}{outer l:List Env}{L e:Addr}{k a0 fl:Value}{od:Option Addr}
/-- the frame is noted,whatever frame the last entry names -/
theorem c0Q {Q:Unit->Shared->Prop}(fr:A.frames=some (env::outer))(fL:env.frame=some L)(st:B.StaysIn s.heap/\B.get? e=none)(ff:s.heap.FunFrames B (env::outer))(tr:TrD s.heap B e k a0 od fl)
  (next:∀h',HeldD B (env::outer) e k a0 od L h'->s.heap.UpToSlots h'->Q () { s with heap:=h' }):wpAny M A (noteFrame (.ref e) env) Q E s:=by
 have tr0:=tr
 obtain⟨oe,vs,T,oT,ts,⟨q1,q2,q3,q4⟩,⟨q5,q6⟩,⟨q7,q8⟩,q9,q10,q11⟩:=tr
 subst q2 q3
 have off:∀b,b≠T->(s.heap.update T (Obj.mapFields (·.setIfInBounds 3 Value.none))).get? b=s.heap.get? b:=fun b n=>YS _ _ (Ne.symm n)
 have apart:∀b o,s.heap.get? b=some o->(∀ws,o.data≠ .fields ws)->b≠T:=fun b o q n z=>by
  subst z
  cases q9.symm.trans q
  exact n ts q10
 unfold noteFrame
 simp only[fL]
 refine Yb (XA q1 q4 q6 ?_)
 rw[if_pos (show (Value.ref T != Value.none)=true by simp)]
 refine Yb (XA q9 q10 q11 ?_)
 by_cases hfl:(fl == rawInt L)=true
 ·rw[if_pos hfl]
  obtain rfl:=eq_of_beq hfl
  exact YI (next s.heap ⟨st,ff,tr0⟩ (Heap.UpToSlots.refl _))
 ·rw[if_neg hfl]
  refine Yb (XU q9 q10 (YU.mp q11).1 ?_)
  refine b6A (B:=B) fr (ff.of_keeps fun b o q n=>⟨o,(off b (apart b o q n)).trans q,rfl⟩) fL ⟨fun b o q=>(off b fun z=>by rw[z,q7]at q;cases q).trans (st.1 b o q),st.2⟩ ((off e (Ne.symm q8)).trans q1) q4 (YU.mp q6).1 q5 fun h' x1 x2=>?_
  exact next h' x1 fun b o q n=>x2 b o ((off b (apart b o q n)).trans q) n
theorem b8F {Q:Unit->Shared->Prop}(fr:A.frames=some (env::outer))(fL:env.frame=some L)(st:B.StaysIn s.heap/\B.get? e=none)(ff:s.heap.FunFrames B (env::outer))(tr:TrD s.heap B e k a0 od fl)
  (next:∀h',FlyD B outer e k a0 od h'->s.heap.UpToSlots h'->Q () { s with heap:=h' }):wpAny M A (leaving env (.ref e)) Q E s:=by
 unfold leaving
 exact Yb (c0Q fr fL st ff tr fun h1 x1 x2=>b6Q x1 fun h2 x3 x4=>next h2 x3.tail (x2.trans x4))
/-- it is handed on,with some frame or none -/
theorem c2O {α:Type}{w:String}{cenv:Env}{Q:α->Shared->Prop}(st:B.StaysIn s.heap/\B.get? e=none)(ff:s.heap.FunFrames B l)(tr:TrD s.heap B e k a0 od fl)
  (next:∀h' fl',B.StaysIn h'->h'.FunFrames B l->TrD h' B e k a0 od fl'->s.heap.UpToSlots h'->E (.ref e) { s with heap:=h' }):wpAny M A (PySem.passOn w (.ref e) cenv:Sem α) Q E s:=by
 obtain⟨oe,vs,T,oT,ts,⟨q1,q2,q3,q4⟩,⟨q5,q6⟩,⟨q7,q8⟩,q9,q10,q11⟩:=tr
 have sz:3<ts.size:=(YU.mp q11).1
 have off:∀(v:Value) b,b≠T->(s.heap.update T (Obj.mapFields (·.setIfInBounds 3 v))).get? b=s.heap.get? b:=fun v b n=>YS _ _ (Ne.symm n)
 have apart:∀b o,s.heap.get? b=some o->(∀ws,o.data≠ .fields ws)->b≠T:=fun b o q n z=>by
  subst z
  cases q9.symm.trans q
  exact n ts q10
 unfold PySem.passOn setFlight
 refine Yb (XA q1 q4 q6 ?_)
 rw[if_neg (show ¬ ((Value.ref T == Value.none)=true) by simp)]
 refine Yb (Yb (XA q1 q4 q6 ?_))
 rw[if_pos (show (Value.ref T != Value.none)=true by simp)]
 refine XU q9 q10 sz (wpAny_throw ?_)
 refine next _ (cenv.frame.elim Value.none fun f=>rawInt f) (fun b o q=>(off _ b fun z=>by rw[z,q7]at q;cases q).trans (st.1 b o q)) (ff.of_keeps fun b o q n=>⟨o,(off _ b (apart b o q n)).trans q,rfl⟩) ?_ fun b o q n=>⟨o.slots,(off _ b (apart b o q n)).trans q⟩
 exact⟨oe,vs,T,_,_,⟨(off _ e (Ne.symm q8)).trans q1,q2,q3,q4⟩,⟨q5,q6⟩,⟨q7,q8⟩,Xn _ q9 (Obj.isFreed_of_fields (Xy q10 _)),Xy q10 _,by simp only[Array.getElem?_setIfInBounds_self_of_lt sz]⟩
end
end L2

/-! COMPREHENSIONS over the layer:[e for x in it], [e for x in it if c],as a value and as name= .. -/
namespace L2
open PySem PySem.Spec PyProof.Rows
/-- the names and values of the def that a comprehension sees,by their places -/
def subN (N:List Str)(ix:List Nat):List Str:=ix.map fun i=>N.getD i ""
def subS (σ:St)(ix:List Nat):St:=ix.map fun i=>σ.getD i none
/-- an exception that leaves a comprehension's block:the frame is noted,the block's names go,it is handed on -/
def compXe (X:Cx)(scope:Scope)(cl:List (Str×Addr))(C:Addr):Value->Shared->Prop:=notedBy (model X.prog X.w) X.A (compEnvC scope cl C X.env) fun e s'=>
 ∃m,s'.heap.Ns C m/\∀h',Heap.SameBut C s'.heap h'->∀cenv:Env,cenv.locals=C->wpAny (model X.prog X.w) X.A (PySem.passOn "comprehension.variables-let-go" e cenv:Sem Value) (fun _ _=>False) X.xe { s' with heap:=h' }
/-- the context of a comprehension's block -/
def cxComp (X:Cx)(scope:Scope)(cl:List (Str×Addr))(x:Str)(ix:List Nat)(C:Addr)(fp:List Addr)(s₀:Shared)(H₀:Hp):Cx:=
 { X with N:=x::subN X.N ix,s₀:=s₀,H₀:=H₀,env:=compEnvC scope cl C X.env,outer:=X.stack,ex:=fp,fn:=fun _=>false,pn:=[],xe:=compXe X scope cl C }
/-- what the text says of a comprehension's scope -/
structure CompScope (X:Cx)(scope:Scope)(cl:List (Str×Addr))(x:Str)(ix:List Nat):Prop where
 clos:closureFor scope X.env=pure cl
 kind:scope.kind= .function
 loc:scope.names.lookup x=some .local
 one:∀y∈scope.names,y.2= .local->y.1=x\/y.1=".0"
 locs:∀y∈scope.names,y.2= .local->scope.names.lookup y.1=some .local
 nocell:∀y∈scope.names,y.2≠ .cell
 free:∀y∈scope.names,y.2= .free->(X.env.kindOf y.1=some .cell\/X.env.kindOf y.1=some .free)
 cells:∀y∈scope.names,y.2= .free->∃c,cl.lookup y.1=some c
 same:∀y∈cl,X.env.cells.lookup y.1=some y.2
 nd:((".0":Str)::x::subN X.N ix).Nodup
theorem lookup_mem {α β:Type}[BEq α][LawfulBEq α]{a:α}{b:β}:∀{l:List (α×β)},l.lookup a=some b->(a,b)∈l
 |[],h=>by simp at h
 | (c,d)::r,h=>by
  rw[Y1]at h
  cases e:a == c with
  | true=>
   rw[e]at h
   cases h
   rw[eq_of_beq e];exact Yw
  | false=>
   rw[e]at h
   exact Yf _ (lookup_mem h)
theorem sV {scope:Scope}{env:Env}{y:Str}{k:NameKind}(h:(relabel scope env).names.lookup y=some k):∃k0,scope.names.lookup y=some k0/\(k=k0\/(k0= .free/\k= .cell)):=by
  have gen :∀(names:List (Str×NameKind)),(names.map fun (n,k)=>if (k == NameKind.free && env.scope.kind == .function && env.kindOf n == some .cell) then (n,NameKind.cell) else (n,k)).lookup y=some k->
      ∃k0,names.lookup y=some k0/\(k=k0\/(k0= .free/\k= .cell)):=by
    intro names
    induction names with
    |nil=>intro h;simp at h
    | cons p r ih=>
      obtain⟨n,k1⟩:=p
      intro h
      rw[Yo]at h
      dsimp only at h
      cases hc:(k1 == NameKind.free && env.scope.kind == .function && env.kindOf n == some .cell) with
      | true=>
        rw[hc,if_pos rfl,Y1]at h
        rw[Y1]
        cases e:y == n with
        | true=>
          rw[e]at h
          cases h
          simp only[YC]at hc
          exact⟨k1,rfl,.inr ⟨eq_of_beq hc.1.1,rfl⟩⟩
        | false=>
          rw[e]at h
          exact ih h
      | false=>
        rw[hc,if_neg Yg,Y1]at h
        rw[Y1]
        cases e:y == n with
        | true=>
          rw[e]at h
          cases h
          exact⟨k,rfl,.inl rfl⟩
        | false=>
          rw[e]at h
          exact ih h
  exact gen scope.names h
section
variable {X:Cx}{scope:Scope}{cl:List (Str×Addr)}{x:Str}{ix:List Nat}{C:Addr}{fp:List Addr}
theorem CompScope.look (S:CompScope X scope cl x ix){y:Str}{c:Addr}(h:cl.lookup y=some c):X.env.cells.lookup y=some c:=S.same _ (lookup_mem h)
theorem CompScope.ok (S:CompScope X scope cl x ix){pins:List (Addr×Obj)}{σ:St}{H:Hp}{s:Shared}(I:Inv X pins σ H s)(hf:∀b∈fp,FpOk X pins H b)(hfl:∀b∈fp,b<s.heap.objs.size)(hC:s.heap.objs.size<=C) :
  (cxComp X scope cl x ix C fp s H).Ok where
 mod:=I.ok.mod
 kind:=S.kind
 glob:=I.ok.glob
 blt:=I.ok.blt
 above:=hC
 inj:=fun y z c h1 h2=>I.ok.inj y z c (S.look h1) (S.look h2)
 has := fun y h=>by
  have h':(relabel scope X.env).names.lookup y=some .cell\/(relabel scope X.env).names.lookup y=some .free:=h
  have fr:scope.names.lookup y=some .free:=by
   rcases h' with h' | h'
   ·obtain⟨k0,e,q | q⟩:=sV h'
    ·exact absurd rfl (q▸S.nocell _ (lookup_mem e))
    ·rw[e,q.1]
   ·obtain⟨k0,e,q | q⟩:=sV h'
    ·rw[e,<-q]
    ·cases q.2
  exact S.cells _ (lookup_mem fr) rfl
 cab:=fun y c h=>absurd h Yg
 hd:=I.ok.hd
 frames:=I.ok.frames
 stk:= .inl rfl
 exf:=fun b hb=>⟨YL (Yp (hfl b hb) hC),fun y c e=>(hf b hb).2.2.2.2.1 y c (S.look e)⟩
 bs:=I.bs
 bsz:=Yn I.ok.bsz I.sz
 noex:=fun b o e hb=>by
  rcases (hf b hb).2.2.2.1 with z | z
  ·exact I.ok.noex b o e z
  ·exact absurd (Yp (Ym e) (Yn I.ok.bsz z)) (YW _)
 exfs:=fun b hb z=>by
  rcases Yv.mp (I.stkSub b z) with e | e
  ·exact(hf b hb).2.1 e
  ·exact(hf b hb).2.2.1 e
 funs:=I.stack
 frf:=I.stkFree
theorem b9K {N:List Str}{ix:List Nat}{j:Nat}{y:Str}(h:(subN N ix)[j]? =some y):∃i,ix[j]? =some i/\y=N.getD i "":=by
 unfold subN at h
 rw[Yq]at h
 cases e:ix[j]? with
 |none=>rw[e]at h;cases h
 |some i=>rw[e]at h;cases h;exact⟨i,rfl,rfl⟩
theorem b9J {σ:St}{ix:List Nat}{j:Nat}{v:V}(h:(subS σ ix)[j]? =some (some v)):∃i,ix[j]? =some i/\σ[i]? =some (some v):=by
 unfold subS at h
 rw[Yq]at h
 cases e:ix[j]? with
 |none=>rw[e]at h;cases h
 | some i=>
  rw[e]at h
  have h':σ.getD i none=some v:=by simpa using h
  refine⟨i,rfl,?_⟩
  rw[YG]at h'
  cases e2:σ[i]? with
  |none=>rw[e2]at h';cases h'
  |some u=>rw[e2]at h';exact Yy some h'
/-- the block begins -/
theorem CompScope.inv (S:CompScope X scope cl x ix){pins:List (Addr×Obj)}{σ:St}{H:Hp}{s s1:Shared}{m:Str->Option Value}(I:Inv X pins σ H s)(hf:∀b∈fp,FpOk X pins H b)(hfl:∀b∈fp,b<s.heap.objs.size)
  (hC:s.heap.objs.size<=C) (os:s1.os=s.os) (bare:AllBare s1.gens) (k:∀b o,s.heap.get? b=some o->s1.heap.get? b=some o) (hn:s1.heap.Ns C m) :
  Inv (cxComp X scope cl x ix C fp s H) [] (none::subS σ ix) H s1 where
 ok:=S.ok I hf hfl hC
 os:=os
 bare:=bare
 base:=Un.kept k
 loc := ⟨m, hn,fun i y v h1 h2 h3=>by
  cases i with
  |zero=>cases (show none=some v from YE h2)
  | succ j =>
   obtain⟨i,e1,e2⟩:=b9K (N:=X.N) (show (subN X.N ix)[j]? =some y from h1)
   obtain⟨i',e1',e3⟩:=b9J (σ:=σ) (show (subS σ ix)[j]? =some (some v) from h2)
   rw[e1]at e1';cases e1'
   have hi:i<X.N.length:=by rw[<-I.len];exact(Yc.mp e3).1
   have hy:X.N[i]? =some y:=by rw[e2,YG,Yh hi];rfl
   have ne:y≠x:=by
    rintro rfl
    have nd:=(Y5.mp S.nd).2
    exact(Y5.mp nd).1 (YA (show (subN X.N ix)[j]? =some y from h1))
   have h3':(relabel scope X.env).names.lookup y=some .local\/(relabel scope X.env).names.lookup y=some .cell\/(relabel scope X.env).names.lookup y=some .free:=h3
   have fr :scope.names.lookup y=some .free/\((relabel scope X.env).names.lookup y=some .cell\/(relabel scope X.env).names.lookup y=some .free):=by
    rcases h3' with z | z | z
    ·obtain⟨k0,e,q | q⟩:=sV z
     ·rcases S.one _ (lookup_mem e) q.symm with z | z
      ·exact absurd z ne
      ·have z':y=".0":=z
       exact absurd (Yf _ (YA (show (subN X.N ix)[j]? =some y from h1))) (z'▸(Y5.mp S.nd).1)
     ·cases q.2
    ·obtain⟨k0,e,q | q⟩:=sV z
     ·exact absurd rfl (q▸S.nocell _ (lookup_mem e))
     ·exact⟨by rw[e,q.1],.inl z⟩
    ·obtain⟨k0,e,q | q⟩:=sV z
     ·exact⟨by rw[e,<-q],.inr z⟩
     ·cases q.2
   have vis:=S.free _ (lookup_mem fr.1) rfl
   obtain⟨m0,_,l0⟩:=I.loc
   obtain⟨u,r,l⟩:=l0 i y v hy e3 (vis.elim (fun z=> .inr (.inl z)) fun z=> .inr (.inr z))
   refine⟨u,r,.inr ⟨fr.2,?_⟩⟩
   rcases l with ⟨k1,_⟩ | ⟨_,c,ec,oc,hoc,hd⟩
   ·rcases vis with z | z
    ·have:=k1.symm.trans z;cases this
    ·have:=k1.symm.trans z;cases this
   ·obtain⟨c',e'⟩:=S.cells _ (lookup_mem fr.1) rfl
    have:some c'=some c:=(S.look e').symm.trans ec
    cases this
    exact⟨c,e',oc,k _ _ hoc,hd⟩⟩
 cell:=fun y c e=>by
  obtain⟨v,oc,hoc,hd⟩:=I.cell y c (S.look e)
  exact⟨v,oc,k _ _ hoc,hd⟩
 free:=I.hok.fresh hC
 freeC:=fun y c e=>I.freeC y c (S.look e)
 pin:=fun p hp=>absurd (show p∈([]:List (Addr×Obj)) from hp) (by simp)
 hok:=I.hok.kept k
 len:=by show (none::subS σ ix).length=(x::subN X.N ix).length;simp[subS,subN]
end
/-! ### tests of a clause -/
def PTs (X:Cx)(ifs:List Expr)(t:TT):Prop:=
 ∀ (pins:List (Addr×Obj))(s:Shared)(σ:St)(H:Hp)(Q:Bool->Hp->Prop),Inv X pins σ H s->t σ H Q->
  wpAny (model X.prog X.w) X.A (forIn ifs true fun c r=>if r=true then do let ok<-isTrue c X.env (eval c X.env);pure (ForInStep.yield ok) else pure (ForInStep.yield r)) (TP X pins σ Q) X.xe s
def tYes:TT:=fun _ H Q=>Q true H
theorem rJ {X:Cx}:PTs X [] tYes:=fun _ _ _ H _ I h=>wpAny_tests_nil ⟨H,I,h⟩
/-! ### the loop -/
section
variable {prog:Program}{w:World}{A:Around}{R:Result->Shared->Prop}{s:Shared}
theorem b3G {elt target iter:Expr}{ifs:List Expr}{scope:Scope}{pos:Pos}{it acc:Value}{env:Env}(I:Nat->Shared->Prop)
    (turn : ∀ n s,I n s->wpAny (model prog w) A (pyNext it) (fun r s₁=>match r with
      |none=>R (.ok .next) s₁
      | some v =>wpAny (model prog w) A (letOwnedTupleGo target it v) (fun _ s₀=>wpAny (model prog w) A (assign target env v) (fun _ s₂=>
          wpAny (model prog w) A (forIn ifs true fun c r=>if r=true then do let ok<-isTrue c env (eval c env);pure (ForInStep.yield ok) else pure (ForInStep.yield r)) (fun ok s₃=>
            if ok=true then wpAny (model prog w) A (eval elt env) (fun x s₄=>
              wpAny (model prog w) A (call (.builtin "list.append") [acc,x]) (fun _ s₅=>∃m,m<n/\I m s₅) (notedBy (model prog w) A env fun e s'=>R (.error e) s') s₄) (notedBy (model prog w) A env fun e s'=>R (.error e) s') s₃
            else ∃m,m<n/\I m s₃) (notedBy (model prog w) A env fun e s'=>R (.error e) s') s₂) (notedBy (model prog w) A env fun e s'=>R (.error e) s') s₀) (notedBy (model prog w) A env fun e s'=>R (.error e) s') s₁) (notedBy (model prog w) A env fun e s'=>R (.error e) s') s)
    (n:Nat) (h:I n s) :
    codeAny (model prog w) A (.compLoop (.ListComp elt [⟨target,iter,ifs,0⟩] scope pos) 0 it acc env) R s:=by
  refine codeAny_loop rfl I (fun n s hI=>?_) n h
  show wpAny _ A ((compTurn (.ListComp elt [⟨target,iter,ifs,0⟩] scope pos) 0 it acc env).onRaise (fun x=>do noteFrame x env;theTreesLotGoes x)) _ _ s
  refine wpAny_noted ?_
  rw[compTurn_list]
  refine Yb (wpAny_standAt (Yb (YQ (turn n s hI) (fun r s₁ h₁=>?_) fun _ _ h'=>h')))
  cases r with
  |none=>exact YI h₁
  | some v=>
    refine Yb (YQ h₁ (fun _ s₀ h₀=>?_) fun _ _ h'=>h')
    refine Yb (YQ h₀ (fun _ s₂ h₂=>Yb (YQ h₂ (fun ok s₃ h₃=>?_) fun _ _ h'=>h')) fun _ _ h'=>h')
    cases ok with
    |false=>exact YI ⟨rfl,h₃⟩
    | true=>
      exact Yb (Yb (YQ h₃ (fun x s₄ h₄=>Yb (YQ h₄ (fun _ s₅ h₅=>YI (YI ⟨rfl,h₅⟩)) fun _ _ h'=>h')) fun _ _ h'=>h'))
end
/-! ### the readings -/
/-- what a comprehension asks:W the word by the turn,a measure,the items so far -/
def cWord (J:It)(tt:TT)(te:TE)(σc:V->St)(H1:Hp)(Q:VK):Prop:=∃W:Nat->Nat->List V->Hp->Prop,(∃m,W 0 m [] H1)/\∀i m ys H,W i m ys H->ys.length<sizeLine/\
  ((J.stop i H/\∀p,H p=none->Q (.ref p) (upd H p (.lst ys)))\/
   (J.go i H/\∃N:List V->Hp->Prop,(∀ys' H',N ys' H'->∃m',m'<m/\W (i+1) m' ys' H')/\∀x H',J.yld i H x H'->tt (σc x) H' fun b H3=>if b=true then te (σc x) H3 fun y H4=>N (ys++[y]) H4 else N ys H3))
/-- where a block begins:the def's state then -/
structure CompAt (X:Cx)(C:Addr)(fp:List Addr)(s:Shared)(H:Hp):Prop where
 inv:∃pins σ,Inv X pins σ H s/\∀b∈fp,FpOk X pins H b
 low:∀b∈fp,b<s.heap.objs.size
 up:s.heap.objs.size<=C
def tComp (ix:List Nat)(wi:TI)(tt:TT)(te:TE):TE:=fun σ H Q=>wi σ H fun J H1=>cWord J tt te (fun x=>some x::subS σ ix) H1 Q
section
variable {X:Cx}{scope:Scope}{cl:List (Str×Addr)}{x:Str}{ix:List Nat}{elt iter:Expr}{ifs:List Expr}{pos px:Pos}{wi:TI}{tt:TT}{te:TE}
/-- the block,from the iterator on:behind it the list stands at D,the block's own names at C -/
theorem b6D (S:CompScope X scope cl x ix)(hc:X.calm=true)
    (ht:∀C fp s H,CompAt X C fp s H->PTs (cxComp X scope cl x ix C fp s H) ifs tt) (he:∀C fp s H,CompAt X C fp s H->PE (cxComp X scope cl x ix C fp s H) elt te)
    {pins:List (Addr×Obj)} {σ:St} {Q:VK} {itv:Value} {s2:Shared} {E:Value->Shared->Prop} {RR:Value->Addr->Result->Shared->Prop} (h2:PIE X pins σ (.Name x px) (fun J H1=>cWord J tt te (fun x=>some x::subS σ ix) H1 Q) itv s2)
    (fin:∀(D C:Addr)(H:Hp)(s':Shared)(m:Str->Option Value),Inv X pins σ H s'->s'.heap.Ns C m->H C=none->s2.heap.objs.size<=C->(∀p∈X.pn++pins,p.1≠C)->X.env.locals≠C->(∀y c,X.env.cells.lookup y=some c->c≠C)->X.s₀.heap.objs.size<=C->Q (.ref D) H->RR (.ref D) C (.ok .next) s')
    (fex:∀(D C:Addr)(e:Value)(s':Shared),compXe X scope cl C e s'->notedBy (model X.prog X.w) X.A (compEnvC scope cl C X.env) (fun e s'=>RR (.ref D) C (.error e) s') e s') :
    wpAny (model X.prog X.w) X.A (newList []) (fun acc s₃=>wpAny (model X.prog X.w) X.A (newFunctionEnv scope X.env.globals cl [] X.env.qual none .none (some X.env)) (fun cenv s₄=>
      codeAny (model X.prog X.w) X.A (.compStart (.ListComp elt [⟨.Name x px,iter,ifs,0⟩] scope pos) 0 itv acc { cenv with scope:=relabel scope X.env }) (RR acc cenv.locals) s₄) E s₃) E s2:=by
  obtain⟨it,fp,tn,J,H2,rfl,I2,T,st2,f2,W,⟨m0,w0⟩,turn⟩:=h2
  have hfl:∀b∈fp,b<s2.heap.objs.size:=fun b hb=>by
    obtain⟨o,e,_⟩:=T.obj _ _ st2 b hb
    exact Ym e
  refine wpAny_newObj_type (wpAny_newFunctionEnv S.nocell (by intro y hy;simp at hy) (fun h₁ hns₁ hsb₁=>?_) S.kind)
  dsimp only at hns₁ hsb₁ ⊢
  generalize hH2:s2.heap.push { cls:= .type "list",dict:=none,data:= .seq ([]:List Value).toArray }=G2 at hns₁ hsb₁ ⊢
  have hC:G2.objs.size=s2.heap.objs.size+1:=by rw[<-hH2,Heap.size_push]
  have hDC:s2.heap.objs.size≠G2.objs.size:=by rw[hC];exact YL (Nat.lt_succ_self _)
  have hCle:s2.heap.objs.size<=G2.objs.size:=by rw[hC];exact Nat.le_succ _
  have below:∀b,b<s2.heap.objs.size->b≠G2.objs.size/\b≠s2.heap.objs.size:=fun b hb=>⟨by rw[hC];exact YL (Nat.lt_succ_of_lt hb),YL hb⟩
  have at0:CompAt X G2.objs.size fp s2 H2:=⟨⟨pins,σ,I2,f2⟩,hfl,hCle⟩
  have old:∀b o,s2.heap.get? b=some o->h₁.get? b=some o:=fun b o e=>hsb₁.extBut b o (below b (Ym e)).1 (Yd _ (hH2▸Yd _ e))
  have hacc:h₁.get? s2.heap.objs.size=some { cls:= .type "list",data:= .seq ([]:List Value).toArray 0 }:=hsb₁.extBut _ _ hDC (Yd _ (hH2▸YB _ rfl))
  have st1:tn 0 h₁:=T.keep _ _ _ st2 fun b _ o e=>old b o e
  -- the block's own context
  have stat:∀{H':Hp},(∀b∈fp,H' b=none)->∀b∈fp,FpOk (cxComp X scope cl x ix G2.objs.size fp s2 H2) [] H' b:=fun hn b hb=>
    ⟨hn b hb,(below b (hfl b hb)).1,fun z=>by
      rcases Yv.mp (I2.stkSub b z) with e | e
      · exact(f2 b hb).2.1 e
      · exact(f2 b hb).2.2.1 e,.inl hb,fun y c e=>(f2 b hb).2.2.2.2.1 y c (S.look e),fun p hp=>absurd (show p∈([]:List (Addr×Obj)) from hp) (by simp)⟩
  have I3:∀s₃:Shared,s₃={ s2 with heap:=h₁,toks:=s2.toks+([]:List (Str×Value)).length }->Inv (cxComp X scope cl x ix G2.objs.size fp s2 H2) [] (none::subS σ ix) H2 s₃:=fun s₃ e=>by
    subst e
    exact S.inv I2 f2 hfl hCle rfl I2.bare old hns₁
  -- the list that is being made
  let Acc:List V->Heap->Prop:=fun ys h=>∃its n,Vals ys its/\h.get? s2.heap.objs.size=some { cls:= .type "list",data:= .seq its.toArray n }
  have loop :∀s₃:Shared,s₃={ s2 with heap:=h₁,toks:=s2.toks+([]:List (Str×Value)).length }->
      codeAny (model X.prog X.w) X.A (.compLoop (.ListComp elt [⟨.Name x px,iter,ifs,0⟩] scope pos) 0 (.ref it) (.ref s2.heap.objs.size) (compEnvC scope cl G2.objs.size X.env)) (RR (.ref s2.heap.objs.size) G2.objs.size) s₃:=by
    intro s₃ e₃
    refine b3G (fun n s'=>∃i ys H',Inv (cxComp X scope cl x ix G2.objs.size fp s2 H2) [] (none::subS σ ix) H' s'/\H' s2.heap.objs.size=none/\Acc ys s'.heap/\tn i s'.heap/\(∀b∈fp,H' b=none)/\W i n ys H') ?_ m0
      ⟨0, [],H2,I3 s₃ e₃,I2.hok.fresh (Ye _),⟨[],0,.nil,by rw[e₃];exact hacc⟩,by rw[e₃];exact st1,fun b hb=>(f2 b hb).1,w0⟩
    rintro n s4 ⟨i,ys,H4,I4,hD4,⟨its,kk,rv,eD⟩,st4,fr4,w4⟩
    obtain⟨hsz,q4⟩:=turn i n ys H4 w4
    have hlen:=rv.length
    rcases q4 with ⟨stop,qn⟩ | ⟨go,N,hN,step⟩
    · refine YQ (T.done (cxComp X scope cl x ix G2.objs.size fp s2 H2) rfl rfl rfl hc i [(s2.heap.objs.size,{ cls:= .type "list",data:= .seq its.toArray kk })] s4 (none::subS σ ix) H4 (fun _ _=>False) ?_ ?_ st4 stop) (fun r s5 ⟨hr,I5⟩=>?_) fun _ _ z=>z.elim
      · refine I4.pins_of fun p hp=>?_
        rw[Yx.mp hp]
        exact⟨eD,hD4,hDC,fun z=>by
          have:=YY I2.stack z
          obtain⟨_,o,ho,_⟩:=this
          exact YW _ (Ym ho),fun v z=>by cases z⟩
      · intro b hb
        obtain⟨a1,a2,a3,a4,a5,_⟩:=stat fr4 b hb
        exact⟨a1,a2,a3,a4,a5,fun p hp=>by
          rw[Yx.mp hp]
          exact fun z=>(below b (hfl b hb)).2 z.symm⟩
      subst hr
      have eD5:=(I5.pin _ (by simp:(s2.heap.objs.size,({ cls:= .type "list",data:= .seq its.toArray kk }:Obj))∈(cxComp X scope cl x ix G2.objs.size fp s2 H2).pn++[(s2.heap.objs.size,{ cls:= .type "list",data:= .seq its.toArray kk })])).1
      have neD:∀b u,H4 b=some u->b≠s2.heap.objs.size:=fun b u e z=>by rw[z,hD4]at e;cases e
      have new:HOk X.prog X.w (upd H4 s2.heap.objs.size (.lst ys)) s5.heap:=by
        intro b u e
        by_cases hb:b=s2.heap.objs.size
        · subst hb
          rw[aK]at e
          cases e
          exact⟨Xl hsz,its,kk,rv,eD5⟩
        · rw[aQ hb]at e
          exact(I5.hok b u e).stay (fun c v _ q=>q) (fun c q=>by rw[aQ (neD c _ q)];exact q) fun c xs q=>by rw[aQ (neD c _ q)];exact q
      have un:Un (frs X.stack) fp H2 (upd H4 s2.heap.objs.size (.lst ys)) s2.heap s5.heap:=by
        have B:=I5.base
        exact⟨B.keep,B.slot,fun b o e n hx=>by rw[aQ (below b (Ym e)).2];exact B.free b o e n hx,B.there,
          fun b xs e=>by rw[aQ (neD b _ (B.tups b xs e))];exact B.tups b xs e,fun b o u e=>by rw[aQ (neD b _ (B.frzs b o u e))];exact B.frzs b o u e,
          fun b ps e=>by
            obtain⟨mm,z⟩:=B.tbls b ps e
            exact⟨mm,by rw[aQ (neD b _ z)];exact z⟩⟩
      have J5:Inv X pins σ (upd H4 s2.heap.objs.size (.lst ys)) s5:=I2.call' (ch:=fp) I5.os un new I5.bare fun b hb=>⟨(f2 b hb).2.2.2.1,(f2 b hb).2.1,(f2 b hb).2.2.2.2.1,(f2 b hb).2.2.2.2.2⟩
      obtain⟨mC,hnC,_⟩:=I5.loc
      refine fin _ _ _ _ mC J5 hnC (by rw[aQ (Ne.symm hDC)];exact I5.free) hCle (fun p hp z=>?_) (YL (Yp I2.lt hCle)) (fun y c e z=>?_) (Yn I2.sz hCle) (qn _ hD4)
      · exact absurd (Yp (Ym (I2.pin p hp).1) hCle) (by rw[z];exact YW _)
      · obtain⟨v,oc,hoc,_⟩:=I2.cell y c e
        exact absurd (Yp (Ym hoc) hCle) (by rw[z];exact YW _)
    · have pinD:∀{pl:List (Addr×Obj)}{σ':St}{H':Hp}{s':Shared}{its':List Value}{k':Nat},Inv (cxComp X scope cl x ix G2.objs.size fp s2 H2) pl σ' H' s'->s'.heap.get? s2.heap.objs.size=some { cls:= .type "list",data:= .seq its'.toArray k' }->H' s2.heap.objs.size=none->
          Inv (cxComp X scope cl x ix G2.objs.size fp s2 H2) [(s2.heap.objs.size,{ cls:= .type "list",data:= .seq its'.toArray k' })] σ' H' s':=fun I' e' n'=>I'.pins_of fun p hp=>by
        rw[Yx.mp hp]
        exact⟨e',n',hDC,fun z=>by
          obtain⟨_,o,ho,_⟩:=YY I2.stack z
          exact YW _ (Ym ho),fun v z=>by cases z⟩
      have stat2:∀{H':Hp},(∀b∈fp,H' b=none)->∀b∈fp,FpOk (cxComp X scope cl x ix G2.objs.size fp s2 H2) [(s2.heap.objs.size,{ cls:= .type "list",data:= .seq its.toArray kk })] H' b:=fun hn b hb=>by
        obtain⟨a1,a2,a3,a4,a5,_⟩:=stat hn b hb
        exact⟨a1,a2,a3,a4,a5,fun p hp=>by
          rw[Yx.mp hp]
          exact fun z=>(below b (hfl b hb)).2 z.symm⟩
      refine YQ (T.item (cxComp X scope cl x ix G2.objs.size fp s2 H2) rfl rfl rfl hc i _ s4 _ H4 (fun _ _=>False) (pinD I4 eD hD4) (stat2 fr4) st4 go) (fun r s5 hz9=>?_) fun _ _ z=>z.elim
      obtain⟨u,hr,h5⟩:=hz9
      subst hr
      refine YQ h5 (fun _ s6 hz9=>?_) fun _ _ z=>z.elim
      obtain⟨y,H6,I6,r6,y6,st6,fr6⟩:=hz9
      have I6':=I6.pinned (stat2 fr6) (T.obj _ _ st6)
      have hxl:(relabel scope X.env).names.lookup x=some .local:=lookup_relabel_local S.loc
      refine wpAny_assign_Name (a5J (X:=cxComp X scope cl x ix G2.objs.size fp s2 H2) (i:=0) I6' (Y5.mp S.nd).2 rfl (.inl hxl) r6 (fun s7 I7=>?_) (.inr hxl))
      have q7:=step y H6 y6
      refine YQ (ht _ _ _ _ at0 _ s7 (some y::subS σ ix) H6 _ I7 q7) (fun ok s8 hz9=>?_) fun _ _ z=>fex _ _ _ _ z
      obtain⟨H8,I8,q8⟩:=hz9
      -- what is kept of the iterator and of the list
      have kept:∀{σ9:St}{H9:Hp}{s9:Shared},Inv (cxComp X scope cl x ix G2.objs.size fp s2 H2) ([(s2.heap.objs.size,{ cls:= .type "list",data:= .seq its.toArray kk })]++pinsAt fp s6.heap) σ9 H9 s9->
          s9.heap.get? s2.heap.objs.size=some { cls:= .type "list",data:= .seq its.toArray kk }/\H9 s2.heap.objs.size=none/\tn (i+1) s9.heap/\∀b∈fp,H9 b=none:=fun {σ9 H9 s9} I9=>by
        have p0:=I9.pin (s2.heap.objs.size,{ cls:= .type "list",data:= .seq its.toArray kk }) (YK _ (XD _ (Yx.mpr rfl)))
        refine⟨p0.1,p0.2.1,T.keep _ _ _ st6 fun b hb o e=>(I9.pin (b,o) (YK _ (YK _ (zT hb e)))).1,fun b hb=>?_⟩
        obtain⟨o,e,d⟩:=T.obj _ _ st6 b hb
        exact(I9.pin (b,o) (YK _ (YK _ (zT hb e)))).2.1
      have back:∀{pl:List (Addr×Obj)}{H9:Hp}{s9:Shared},Inv (cxComp X scope cl x ix G2.objs.size fp s2 H2) pl (some y::subS σ ix) H9 s9->Inv (cxComp X scope cl x ix G2.objs.size fp s2 H2) [] (none::subS σ ix) H9 s9:=fun {pl H9 s9} I9=>
        (I9.weak (σ':=none::subS σ ix) rfl fun j v e=>by
          cases j with
          |zero=>cases (show none=some v from YE e)
          |succ j=>exact e).pins_of fun p hp=>nomatch hp
      cases ok with
      | true=>
        rw[if_pos rfl]at q8 ⊢
        refine YQ (he _ _ _ _ at0 _ s8 (some y::subS σ ix) H8 _ I8 q8) (fun yv s9 hz9=>?_) fun _ _ z=>fex _ _ _ _ z
        obtain⟨yy,H9,I9,r9,n9⟩:=hz9
        obtain⟨m',hm',w9⟩:=hN _ _ n9
        obtain⟨kD,kn,kt,kf⟩:=kept I9
        refine append_at (hsz:=by rw[Yl];omega) kD fun h10 hs10 hD10=>?_
        have neD:∀b u,H9 b=some u->b≠s2.heap.objs.size:=fun b u e z=>by rw[z,kn]at e;cases e
        have I9':=back I9
        have cellne:∀y c,cl.lookup y=some c->c≠s2.heap.objs.size:=fun y c e z=>by
          obtain⟨v,oc,hoc,_⟩:=I2.cell y c (S.look e)
          exact absurd (Ym hoc) (by rw[z];exact YW _)
        have I10:Inv (cxComp X scope cl x ix G2.objs.size fp s2 H2) [] (none::subS σ ix) H9 { s9 with heap:=h10 }:=I9'.turned (t':=s9.toks) (it:=s2.heap.objs.size) (fun b o hb e=>hs10.extBut b o hb e) kn hDC (.inr (Ye _)) cellne fun p hp=>absurd (show p∈([]:List (Addr×Obj)) from hp) (by simp)
        refine⟨m',hm',i+1,ys++[yy],H9,I10,kn,⟨its++[yv],kk+1,rv.append (.cons r9 .nil),?_⟩,T.keep _ _ _ kt fun b hb o e=>hs10.extBut b o (below b (hfl b hb)).2 e,kf,w9⟩
        refine hD10.trans (Yy some ?_)
        simp
      | false=>
        rw[if_neg Yg]at q8 ⊢
        obtain⟨m',hm',w9⟩:=hN _ _ q8
        obtain⟨kD,kn,kt,kf⟩:=kept I8
        exact⟨m',hm',i+1,ys,H8,back I8,kn,⟨its,kk,rv,kD⟩,kt,kf,w9⟩
  exact codeAny_compStart_list (loop _ rfl) (T.self _ 0 _ _ _ st1 (loop _ rfl))
/-! the cells that a comprehension takes along -/
def closFrom (env:Env):List (Str×NameKind)->List (Str×Addr)->List (Str×Addr)
 |[],cs=>cs
 |(n,k)::r,cs=>closFrom env r (if k == .free then (n,(env.cells.lookup n).getD 0)::cs else cs)
theorem b3I {env:Env}:∀(names:List (Str×NameKind))(cs:List (Str×Addr)),(∀y∈names,y.2= .free->∃c,env.cells.lookup y.1=some c)->
  (forIn names cs fun (p:Str×NameKind) (r:List (Str×Addr))=>match p with | (name,kind)=>if (kind == .free)=true then do let c<-cellOf env name;pure (ForInStep.yield ((name,c)::r)) else pure (ForInStep.yield r):Sem (List (Str×Addr)))=pure (closFrom env names cs)
 |[],cs,_=>rfl
 | (n, k)::r,cs,h=>by
  rw[List.forIn_cons]
  cases hk:k == NameKind.free with
  | true=>
   obtain⟨c,hc⟩:=h (n,k) Yw (eq_of_beq hk)
   have e1:cellOf env n=pure c:=by unfold cellOf;rw[hc]
   have e2:closFrom env ((n,k)::r) cs=closFrom env r ((n,c)::cs):=by
    show closFrom env r (if (k == .free)=true then (n,(env.cells.lookup n).getD 0)::cs else cs)=_
    rw[hk,if_pos rfl,hc];rfl
   rw[e2,<-b3I r ((n,c)::cs) fun y hy=>h y (Yf _ hy)]
   dsimp only
   rw[if_pos hk,e1]
   rfl
  | false=>
   have e2:closFrom env ((n,k)::r) cs=closFrom env r cs:=by
    show closFrom env r (if (k == .free)=true then (n,(env.cells.lookup n).getD 0)::cs else cs)=_
    rw[hk,if_neg Yg]
   rw[e2,<-b3I r cs fun y hy=>h y (Yf _ hy)]
   dsimp only
   rw[if_neg (by rw[hk];exact Yg)]
   rfl
theorem a6I {env:Env}{y:Str×Addr}:∀(names:List (Str×NameKind))(cs:List (Str×Addr)),y∈closFrom env names cs->y∈cs\/∃k∈names,k.2= .free/\k.1=y.1/\y.2=(env.cells.lookup y.1).getD 0
 |[],cs,h=> .inl h
 | (n, k)::r,cs,h=>by
  rcases a6I r _ h with z | ⟨p,hp,e⟩
  ·cases hk:k == NameKind.free with
   | true=>
    rw[hk,if_pos rfl]at z
    rcases Yv.mp z with z | z
    ·exact .inr ⟨(n,k),Yw,eq_of_beq hk,by rw[z],by rw[z]⟩
    ·exact .inl z
   | false=>
    rw[hk,if_neg Yg]at z
    exact .inl z
  ·exact .inr ⟨p,Yf _ hp,e⟩
theorem wG {y:Str}{c:Addr}:∀{l:List (Str×Addr)},(y,c)∈l->∃d,l.lookup y=some d
 |[],h=>by simp at h
 | (n, d)::r,h=>by
  rw[Y1]
  cases e:y == n with
  |true=>exact⟨d,rfl⟩
  | false=>
   rcases Yv.mp h with z | z
   ·have:y=n:=(Prod.mk.inj z).1
    rw[this,beq_self_eq_true]at e;cases e
   ·exact wG z
theorem a6D {env:Env}{y:Str}:∀(names:List (Str×NameKind))(cs:List (Str×Addr)),((y,NameKind.free)∈names\/∃c,(y,c)∈cs)->∃c,(y,c)∈closFrom env names cs
 | [],cs,h=>by
  rcases h with h | h
  ·simp at h
  ·exact h
 | (n, k)::r,cs,h=>by
  refine a6D r _ ?_
  rcases h with h | ⟨c,h⟩
  ·rcases Yv.mp h with z | z
   ·obtain⟨e1,e2⟩:=Prod.mk.inj z
    subst e1 e2
    exact .inr ⟨(env.cells.lookup y).getD 0,by rw[if_pos (beq_self_eq_true _)];exact Yw⟩
   ·exact .inl z
  ·refine .inr ⟨c,?_⟩
   split
   ·exact Yf _ h
   ·exact h
/-- what is asked of the text,by a look -/
def compOk (scope:Scope)(env:Env)(x:Str):Bool:=scope.names.all fun y=>(y.2 != .local || ((y.1 == x || y.1 == ".0") && scope.names.lookup y.1 == some .local)) && y.2 != .cell && (y.2 != .free || env.kindOf y.1 == some .cell || env.kindOf y.1 == some .free)
theorem b3F (ok:X.Ok)(hk:scope.kind= .function)(hx:scope.names.lookup x=some .local)(hall:compOk scope X.env x=true)(nd:((".0":Str)::x::subN X.N ix).Nodup):CompScope X scope (closFrom X.env scope.names []) x ix:=by
 have all:∀y∈scope.names,(y.2= .local->(y.1=x\/y.1=".0")/\scope.names.lookup y.1=some .local)/\y.2≠ .cell/\(y.2= .free->(X.env.kindOf y.1=some .cell\/X.env.kindOf y.1=some .free)):=fun y hy=>by
  have z:=YH.mp hall y hy
  simp only[YC,XG,bne_iff_ne,Y8,ne_eq]at z
  refine⟨fun e=>z.1.1.resolve_left fun q=>q e,z.1.2,fun e=>?_⟩
  rcases z.2 with (q | q) | q
  ·exact absurd e q
  ·exact .inl q
  ·exact .inr q
 have cells:∀y∈scope.names,y.2= .free->∃c,X.env.cells.lookup y.1=some c:=fun y hy e=>ok.has y.1 ((all y hy).2.2 e)
 refine⟨?_,hk,hx,fun y hy e=>((all y hy).1 e).1,fun y hy e=>((all y hy).1 e).2,fun y hy=>(all y hy).2.1,fun y hy=>(all y hy).2.2,fun y hy e=>?_,fun y hy=>?_,nd⟩
 ·have q:=b3I scope.names [] cells
  unfold closureFor
  have q2:(forIn scope.names [] fun (p:Str×NameKind) (r:List (Str×Addr))=>match p with | (name,kind)=>if (kind == .free)=true then do let c<-cellOf X.env name;pure (ForInStep.yield ((name,c)::r)) else pure (ForInStep.yield r):Sem (List (Str×Addr))) >>= (fun cs=>pure cs)=pure (closFrom X.env scope.names []):=by
   rw[q];rfl
  exact q2
 ·obtain⟨n,k⟩:=y
  have e':k= .free:=e
  subst e'
  obtain⟨c,hc⟩:=a6D (env:=X.env) scope.names [] (.inl hy)
  exact wG hc
 ·rcases a6I scope.names [] hy with z | ⟨p,hp,e1,e2,e3⟩
  ·simp at z
  ·obtain⟨c,hc⟩:=cells p hp e1
   rw[e2]at hc
   rw[e3,hc];rfl
/-- [e for x in it if ..] -/
theorem rK (hc:X.calm=true)(hi:PI X (.Name x px) iter wi)(ht:∀C fp s H,CompAt X C fp s H->PTs (cxComp X scope (closFrom X.env scope.names []) x ix C fp s H) ifs tt)(he:∀C fp s H,CompAt X C fp s H->PE (cxComp X scope (closFrom X.env scope.names []) x ix C fp s H) elt te)
  (hk:scope.kind= .function) (hx:scope.names.lookup x=some .local) (hall:compOk scope X.env x=true) (nd:((".0":Str)::x::subN X.N ix).Nodup)
  (hs:∀x,foldedSetIterable iter X.env x=pure x:=by intro _;rfl):PE X (.ListComp elt [⟨.Name x px,iter,ifs,0⟩] scope pos) (tComp ix wi tt te):=by
 intro pins s σ H Q I h
 have S:CompScope X scope (closFrom X.env scope.names []) x ix:=b3F I.ok hk hx hall nd
 rw[eval_ListComp]
 refine wpAny_comprehension_free (use:=none) rfl hs S.clos S.kind S.locs (thn (hi pins s σ H _ I h) fun v s1 h1=>thn h1 fun itv s2 h2=>?_)
 refine b6D S hc ht he h2 (fun D C H' s' m J hn hCn hCle hp hL hcl hs0 q=>?_) fun D C e s' z=>z
 exact⟨m,hn,fun h' sb=>⟨.ref D,H',J.turned (t':=s'.toks) (fun b o hb e=>sb.extBut b o hb e) hCn (Ne.symm hL) (.inr hs0) hcl hp,rfl,q⟩⟩
end
/-! ### the forms one uses:a word by the turn and the items so far -/
theorem b6C {lo:Int}{n:Nat}{tt:TT}{te:TE}{σc:V->St}{H:Hp}{Q:VK}(Pv:Nat->List V->Hp->Prop)(hn:∀i ys H,i<=n->Pv i ys H->ys.length<sizeLine)(h0:Pv 0 [] H)
  (hs:∀i ys H,i<n->Pv i ys H->tt (σc (.int (lo+i))) H fun b H3=>if b=true then te (σc (.int (lo+i))) H3 fun y H4=>Pv (i+1) (ys++[y]) H4 else Pv (i+1) ys H3)
  (hd:∀ys H,Pv n ys H->∀p,H p=none->Q (.ref p) (upd H p (.lst ys))):cWord (Itr lo n) tt te σc H Q:=by
 refine⟨fun i m ys H=>m=n-i/\i<=n/\Pv i ys H,⟨n,by simp,YO _,h0⟩,?_⟩
 rintro i m ys H ⟨rfl,hi,p⟩
 refine⟨hn i ys H hi p,?_⟩
 by_cases hlt:i<n
 ·refine .inr ⟨hlt,Pv (i+1),fun ys' H' q=>⟨n-(i+1),by omega,rfl,hlt,q⟩,fun x H' y=>?_⟩
  obtain⟨e,y⟩:=y
  subst e y
  exact hs i ys _ hlt p
 ·have e:i=n:=by omega
  subst e
  exact .inl ⟨Ye _,hd ys H p⟩
theorem pZ {K:W.Frag}{a:Addr}{xs:List V}{tt:TT}{te:TE}{σc:V->St}{H:Hp}{Q:VK}(Pv:Nat->List V->Hp->Prop)(hn:∀i ys H,i<=xs.length->Pv i ys H->ys.length<sizeLine)(h0:Pv 0 [] H)
  (hl:∀i ys H,i<=xs.length->Pv i ys H->SqL K H a xs)
  (hs:∀i x ys H,xs[i]? =some x->Pv i ys H->tt (σc x) H fun b H3=>if b=true then te (σc x) H3 fun y H4=>Pv (i+1) (ys++[y]) H4 else Pv (i+1) ys H3)
  (hd:∀ys H,Pv xs.length ys H->∀p,H p=none->Q (.ref p) (upd H p (.lst ys))):cWord (Itl K a) tt te σc H Q:=by
 refine⟨fun i m ys H=>m=xs.length-i/\i<=xs.length/\Pv i ys H,⟨xs.length,by simp,YO _,h0⟩,?_⟩
 rintro i m ys H ⟨rfl,hi,p⟩
 have q:=hl i ys H hi p
 refine⟨hn i ys H hi p,?_⟩
 by_cases hlt:i<xs.length
 ·refine .inr ⟨⟨xs,xs[i],q,by simp[hlt]⟩,Pv (i+1),fun ys' H' q=>⟨xs.length-(i+1),by omega,rfl,hlt,q⟩,fun x H' y=>?_⟩
  obtain⟨e,y⟩:=y
  subst e
  exact hs i x ys _ (y xs q) p
 ·have e:i=xs.length:=by omega
  subst e
  exact .inl ⟨⟨xs,q,Ye _⟩,hd ys H p⟩
end L2

/-! isinstance of a caught exception;of a value against a tuple of classes -/
namespace L2
open PySem PySem.Spec PyProof.Rows PySem.W PySem.Builtin PySem.Builtin.ObjectAttr PySem.Builtin.Getset_descriptor
section
variable {prog:Program}{w:World}{A:Around}{E:Value->Shared->Prop}{K:W.Frag}{a C:Addr}
/-- what is read off the written part for an exception's class -/
structure ExcC (K:W.Frag)(C:Addr):Prop where
 cd:(W.clsIn K C).isSome=true
 ga:W.findIn K (.ref C) "__getattribute__"=some (some (.builtin "BaseException.__getattribute__"))
 hk:W.findIn K (.ref C) "__getattr__"=some none
 cl:W.findIn K (.ref C) "__class__"=some (some (.builtin "object.__class__"))
 gt:W.specialIn K (.builtin "object.__class__") "__get__"=some (some (.builtin "getset_descriptor.__get__"))
 tk:W.takesIn K (.builtin "object.__class__")=some true
 ob:W.mroIn K C (.type "object")=some true
 ba:W.mroIn K C (.type "BaseException")=some true
theorem b3C {h:Heap}{o:Obj}(hx:h.get? a=some o)(hc:o.cls= .ref C)(M:Model):W.Looks M h (typeOf (.ref a)) (.ref C):=hc▸(W.Looks.ld hx).andThen .now
theorem b5Z {R:Result->Shared->Prop}{tp:Value}{s:Shared}{o:Obj}(X:K.In s.heap)(hx:s.heap.get? a=some o)(hc:o.cls= .ref C)(hm:W.mroIn K C (.type "object")=some true)
  (hR:R (.ok (.ret (.ref C))) s):codeAny (model prog w) A (.call (.builtin "getset_descriptor.__get__") ⟨[.builtin "object.__class__",.ref a,tp], []⟩) R s:=by
 obtain⟨hh,gs,dr,tt,oo⟩:=s
 have L0:=b3C hx hc (model prog w)
 have L1:=W.looks_mroIn (M:=model prog w) X hm
 refine XQ W.KF.slot_gs.plain W.KF.entry_gs (W.KF.slot_gs.check _ _ _ _ _ _ _ _ W.KF.type_class (W.KF.args_gs _ _ _) ?_)
 unfold Builtin.«getset_descriptor.__get__» descrGet
 rw[W.dga_obj]
 apply Yb
 apply YI
 unfold descrGetter descrCheckInstance descrNameAndClass isInstance
 simp only[W.KF.owner_class]
 repeat lk
 refine⟨Code.quiet_builtin _ (by decide +kernel),codeAny_builtin W.KF.entry_class ?_⟩
 unfold Builtin.«object.__class__» shownTypeOf
 repeat lk
 exact hR
theorem c1B {h:Heap}(T:ExcC K C)(X:K.In h)(M:Model):W.Looks M h (find (.ref a) (.ref C) "__class__") (.bind (.builtin "getset_descriptor.__get__") (.builtin "object.__class__")):=by
 have L1:=Xg (M:=M) X T.cl
 have L2:W.Looks M h (getOf (some (.builtin "object.__class__"))) (some (.builtin "getset_descriptor.__get__")):=W.looks_specialIn X T.gt
 have L3:=W.looks_takesIn (M:=M) X T.tk
 have L4:W.Looks M h (dataDescriptor? (some (.builtin "object.__class__")) (some (.builtin "getset_descriptor.__get__"))) (some (.builtin "getset_descriptor.__get__",.builtin "object.__class__")):=L3.andThen .now
 exact L1.andThen (L2.andThen (L4.andThen (W.Looks.tag .now)))
theorem b8M {s:Shared}{o:Obj}{Q:Option Value->Shared->Prop}(T:ExcC K C)(X:K.In s.heap)(hx:s.heap.get? a=some o)(hc:o.cls= .ref C)(hq:Q (some (.ref C)) { s with toks:=s.toks+1 }) :
  wpAny (model prog w) A (getAttr? (.ref a) "__class__") Q E s:=by
 obtain⟨hh,gs,dr,tt,oo⟩:=s
 have L0:=b3C hx hc (model prog w)
 have L1:=Xg (M:=model prog w) X T.ga
 have L2:=Xg (M:=model prog w) X T.hk
 have L3:=c1B (a:=a) T X (model prog w)
 have LB:=W.looks_mroIn (M:=model prog w) X T.ba
 unfold getAttr? getAttrBy? getAttrBy
 refine Yb (wpAny_mkText (Yb (wpAny_attempt (Y9 (Yb (L0.at (Yb (L1.at ?_))))))))
 have ne:(onTheHeap (Value.ref C) && (Value.builtin "BaseException.__getattribute__" == Value.builtin "object.__getattribute__"))=false:=by
  have:(Value.builtin "BaseException.__getattribute__" == Value.builtin "object.__getattribute__")=false:=by decide +kernel
  rw[this];exact XN _
 dsimp only
 rw[ne,if_neg Yg]
 unfold getAttrByItsOwn hookBefore
 rw[if_pos (show onTheHeap (Value.ref C)=true from rfl)]
 refine Yb (L2.at ?_)
 refine Yb (wpAny_attempt (Y9 ?_))
 show wpAny _ _ (boundAndCalled _ _ _) _ _ _
 unfold boundAndCalled
 refine Yb (wpAny_of_eq (F.attr_ValueError.ga.bind (.ref a)) ?_)
 refine XI ?_
 refine XQ F.attr_ValueError.ga.plain F.entry_bexc_ga ?_
 have hk:builtinKind "BaseException.__getattribute__"=some .slot:=by decide +kernel
 have hsplit:splitId "BaseException.__getattribute__"=some ("BaseException","__getattribute__"):=by decide +kernel
 have hargs:=F.args_bexc_ga (.ref a) (.str (Str.ofString "__class__") tt)
 simp only[checkBuiltinCall,hk,hsplit]
 refine Yb ?_
 unfold isInstance
 repeat lk
 refine wpAny_run (b5Z (K:=K) (C:=C) X hx hc T.ob ?_)
 repeat lk
 exact hq
theorem b4N (T:ExcC K C):W.KitX K (.ref a) (.ref C) (fun h=>∃o vs,h.get? a=some o/\o.cls= .ref C/\o.data= .fields vs) where
 ty :=fun M h _ p=>by
  obtain⟨o,_,e,c,_⟩:=p
  exact b3C e c M
 it :=fun _ _ X _=>by
  have hcd:=T.cd
  unfold W.clsIn at hcd
  split at hcd
  ·rename_i look
   intro A' Q' E' s' k q
   unfold isType loadHead
   exact Yb (XS (k _ _ (X _ _ look)) (YI q))
  ·cases hcd
 ne :=fun h tp dd its n sl X htp=>by
  have hcd:=T.cd
  refine Bool.eq_false_iff.mpr fun q=>?_
  have e:C=tp:=Value.ref.inj (Y8.mp q)
  subst e
  unfold W.clsIn at hcd
  split at hcd
  ·rename_i look
   have z:=(X _ _ look).symm.trans htp
   cases z
  ·cases hcd
 ca :=fun X p k=>by
  obtain⟨o,_,e,c,_⟩:=p
  exact b8M T X e c k
end
section
variable {X:Cx}
/-- isinstance(e,C),e a caught exception -/
theorem b8W:CallR X (.builtin "isinstance") (fun xs H Q=>∃a c cv C b,xs= [.ref a,c]/\clsV c=some cv/\(∃od,H a=some (excO (.ref C) a od))/\ExcC X.K C/\W.kitOne X.K (.ref C) cv=some b/\Q (.bl b) H):=by
 intro pins s σ H xs us Q I rv h
 obtain⟨a,c,cv,C,b,rfl,ec,ha,T,e,q⟩:=h
 obtain⟨u,v,rfl,rx,rc⟩:=rv.two
 cases b3H ec rc
 cases (show u=Value.ref a from rx)
 obtain⟨od,ha⟩:=ha
 obtain⟨oe,vs,q1,⟨q2,_⟩,q3⟩:=(show ObjOk X.prog X.w H s.heap a (excO (.ref C) a od) from I.hok a _ ha).1
 have p:∃o vs,s.heap.get? a=some o/\o.cls= .ref C/\o.data= .fields vs:=⟨oe,vs,q1,q2,q3⟩
 exact Xk (b4N T) I.kIn p e (fun z=>nomatch z) fun tk=>⟨.bl b,H,I.tok _,rfl,q⟩
theorem b3R:∀{cs:List V}{us cvs:List Value},Vals cs us->cs.map clsV=cvs.map some->us=cvs
 |_,_, [],.nil,_=>rfl
 |_,_,_::_,.nil,e=>by cases e
 |_,_, [],.cons _ _,e=>by cases e
 | _,_,_::_,.cons r t,e=>by
  rw[Yo,Yo]at e
  injection e with e1 e2
  rw[b3H e1 r,b3R t e2]
/-- isinstance(e,(C,D, ..)),e a caught exception -/
theorem b0O:CallR X (.builtin "isinstance") (fun xs H Q=>∃a p cs cvs C b,xs= [.ref a,.ref p]/\H p=some (.tup cs)/\cs.map clsV=cvs.map some/\(∃od,H a=some (excO (.ref C) a od))/\ExcC X.K C/\W.kitAny X.K (.ref C) cvs=some b/\Q (.bl b) H):=by
 intro pins s σ H xs us Q I rv h
 obtain⟨a,p,cs,cvs,C,b,rfl,hp,ec,ha,T,e,q⟩:=h
 obtain⟨u,v,rfl,rx,rc⟩:=rv.two
 cases (show u=Value.ref a from rx)
 cases (show v=Value.ref p from rc)
 obtain⟨od,ha⟩:=ha
 obtain⟨oe,vs,q1,⟨q2,_⟩,q3⟩:=(show ObjOk X.prog X.w H s.heap a (excO (.ref C) a od) from I.hok a _ ha).1
 have pe:∃o vs,s.heap.get? a=some o/\o.cls= .ref C/\o.data= .fields vs:=⟨oe,vs,q1,q2,q3⟩
 obtain⟨_,its,ri,ob,eo,oc,n,od⟩:=(show ObjOk X.prog X.w H s.heap p (.tup cs) from I.hok p _ hp)
 obtain⟨c0,d0,dt,sl⟩:=ob
 cases oc
 cases od
 cases b3R ri ec
 exact W.kia_tup (b4N T) I.kIn pe eo e (fun z=>nomatch z) fun tk=>⟨.bl b,H,I.tok _,rfl,q⟩
theorem a0I {K:W.Frag}(hK:X.K=K:=by rfl):CallR X (.builtin "isinstance") (fun xs H Q=>∃a c cv C b,xs= [.ref a,c]/\clsV c=some cv/\(∃od,H a=some (excO (.ref C) a od))/\ExcC K C/\W.kitOne K (.ref C) cv=some b/\Q (.bl b) H):=by
 subst hK
 exact b8W
end
end L2

/-! e.f of a caught exception that has the field;self.f=v as a statement -/
namespace L2
open PySem PySem.Spec PyProof.Rows PySem.W PySem.Builtin PySem.Builtin.ObjectAttr PySem.Builtin.Getset_descriptor
section
variable {prog:Program}{w:World}{A:Around}{E:Value->Shared->Prop}{K:W.Frag}{a C dx:Addr}{f:Str}
theorem b5S {h:Heap}{o:Obj}{vs:Array Value}{mA:Str->Option Value}(X:K.In h)(ha:h.get? a=some o)(hc:o.cls= .ref C)(hd:o.dict=some dx)(hv:o.data= .fields vs)(hh:W.hasDictIn K C=true)(hn:h.Ns dx mA)(M:Model) :
  W.Looks M h (inOwnDict f (.ref a)) (mA f):=by
 intro A Q E s k z
 obtain⟨cd,e1,e2⟩:=W.any_some hh
 obtain⟨oc,od,odt,osl⟩:=o
 dsimp only at hc hd hv
 subst hc hd hv
 unfold inOwnDict ObjectAttr.ownDict loadHead instanceDict
 refine Yb (Yb (Yb (XS (k _ _ ha) (YI ?_))))
 refine Yb (XS (k _ _ ha) (Yb (W.looks_clsIn X e1 _ _ _ _ k ?_)))
 rw[e2]
 exact YI (wpAny_nsGet (hn.keeps k) z)
theorem c7D {h:Heap}{o:Obj}{vs:Array Value}{mA:Str->Option Value}{v:Value}(X:K.In h)(ha:h.get? a=some o)(hc:o.cls= .ref C)(hd:o.dict=some dx)(hv:o.data= .fields vs)(hh:W.hasDictIn K C=true)(hn:h.Ns dx mA)
  (na:NoAttr K C f) (hm:mA f=some v) (M:Model):W.Looks M h (find (.ref a) (.ref C) f) (.value v):=by
 have L1:=Xg (M:=M) X na
 have L2:=b5S (f:=f) X ha hc hd hv hh hn M
 rw[hm]at L2
 exact L1.andThen (Looks.andThen (a:=none) .now (Looks.andThen (a:=none) .now (L2.andThen (W.Looks.tag .now))))
/-- what is read off the written part for a field of an exception's class -/
structure ExcF (K:W.Frag)(C:Addr)(f:Str):Prop where
 ga:W.findIn K (.ref C) "__getattribute__"=some (some (.builtin "BaseException.__getattribute__"))
 hk:W.findIn K (.ref C) "__getattr__"=some none
 ba:W.mroIn K C (.type "BaseException")=some true
 hd:W.hasDictIn K C=true
 na:NoAttr K C f
theorem b8L {s:Shared}{o:Obj}{vs:Array Value}{mA:Str->Option Value}{v:Value}{b:Bool}{Q:Value->Shared->Prop}(T:ExcF K C f)(X:K.In s.heap)(ha:s.heap.get? a=some o)(hc:o.cls= .ref C)(hd:o.dict=some dx)(hv:o.data= .fields vs)
  (hn:s.heap.Ns dx mA) (hm:mA f=some v) (hh:handedOut v=pure v) (hq:Q v { s with toks:=s.toks+1 }):wpAny (model prog w) A (getAttr (.ref a) f b) Q E s:=by
 obtain⟨hp,gs,dr,tt,oo⟩:=s
 have L0:=b3C ha hc (model prog w)
 have L1:=Xg (M:=model prog w) X T.ga
 have L2:=Xg (M:=model prog w) X T.hk
 have L3:=c7D X ha hc hd hv T.hd hn T.na hm (model prog w)
 have LB:=W.looks_mroIn (M:=model prog w) X T.ba
 unfold getAttr getAttrBy
 refine Yb (wpAny_mkText (Y9 (Yb (L0.at (Yb (L1.at ?_))))))
 have ne:(onTheHeap (Value.ref C) && (Value.builtin "BaseException.__getattribute__" == Value.builtin "object.__getattribute__"))=false:=by
  have z:(Value.builtin "BaseException.__getattribute__" == Value.builtin "object.__getattribute__")=false:=by decide +kernel
  rw[z,XN]
 dsimp only
 rw[ne,if_neg Yg]
 unfold getAttrByItsOwn hookBefore
 rw[if_pos (show onTheHeap (Value.ref C)=true from rfl)]
 refine Yb (L2.at (Yb (wpAny_attempt (Y9 ?_))))
 have nb:(b && onTheHeap (Value.builtin "BaseException.__getattribute__"))=false:=XN _
 unfold callGetattribute
 rw[nb,if_neg Yg]
 unfold boundAndCalled
 refine Yb (wpAny_of_eq (F.attr_ValueError.ga.bind (.ref a)) (XI (XQ F.attr_ValueError.ga.plain F.entry_bexc_ga ?_)))
 have hk:builtinKind "BaseException.__getattribute__"=some .slot:=by decide +kernel
 have hsplit:splitId "BaseException.__getattribute__"=some ("BaseException","__getattribute__"):=by decide +kernel
 have hargs:=F.args_bexc_ga (.ref a) (.str f tt)
 simp only[checkBuiltinCall,hk,hsplit]
 refine Yb ?_
 unfold isInstance
 repeat lk
 show wpAny _ _ (handedOut v) _ _ _
 rw[hh]
 exact YI hq
end
section
variable {X:Cx}{f:Str}{pos pos':Pos}{e o value:Expr}{ta tv:TE}
/-- e.f,e a caught exception -/
def tFldX (K:W.Frag)(ta:TE)(f:Str):TE:=fun σ H Q=>ta σ H fun x H1=>∃a C dx fs v,x= .ref a/\H1 a=some (excO (.ref C) a (some dx))/\H1 dx=some (.xd fs)/\ExcF K C f/\fs.lookup f=some v/\Q v H1
theorem c2N (he:PE X e ta)(hb:attributeBase e f X.env (eval e X.env)=eval e X.env):PE X (.Attribute e f pos) (tFldX X.K ta f):=by
 intro pins s σ H Q I h
 refine b7D hb (thn (he pins s σ H _ I h) fun u s1 hz9=>?_)
 obtain⟨x,H1,I1,rx,a,C,dx,fs,v,ex,ea,ed,T,l,q⟩:=hz9
 subst ex
 obtain rfl:u=Value.ref a:=rx
 obtain⟨oe,vs,q1,⟨q2,q3⟩,q4⟩:=(show ObjOk X.prog X.w H1 s1.heap a (excO (.ref C) a (some dx)) from I1.hok a _ ea).1
 obtain⟨mA,n1,hm⟩:=(show ObjOk X.prog X.w H1 s1.heap dx (.xd fs) from I1.hok dx _ ed)
 obtain⟨u',hu,ru⟩:=RelO.some_of (v:=v) (o:=mA f) (by rw[<-l];exact hm f)
 exact b8L T I1.kIn q1 q2 q3 q4 n1.ns hu (W.handedOut_of (b1X ru)) ⟨v,H1,I1.tok _,ru,q⟩
/-- what is read off the written part for self.f=v in an exception's __init__ -/
structure XSet (K:W.Frag)(C:Addr)(f:Str):Prop where
 st:∃fI newId,excInit K C fI [.type "ValueError",.type "Exception",.type "BaseException",.type "object"] newId=true
 sa:W.findIn K (.ref C) "__setattr__"=some (some (.builtin "object.__setattr__"))
 na:NoAttr K C f
def sFldX (K:W.Frag)(ta tv:TE)(f:Str):TS:=fun D σ H=>tv σ H fun y H1=>ta σ H1 fun x H2=>∃a C t,x= .ref a/\H2 a=some (rawO C t none a)/\XSet K C f/\
 ∀dx,H2 dx=none->dx≠a->D.nx σ (upd (upd H2 a (rawO C t (some dx) a)) dx (.xd [(f,y)]))
theorem c2H (ha:PE X o ta)(hv:PE X value tv)(hs:swapsWith value (some (.Attribute o f pos')) pos.line X.env=pure false):PS X (.Assign [.Attribute o f pos'] value pos) (sFldX X.K ta tv f):=by
 intro pins s σ H D I h
 refine plainObj_wpAny_Assign_Attribute (thn (hv pins s σ H _ I h) fun u s1 ⟨y,H1,I1,ry,q⟩=>thn (ha pins s1 σ H1 _ I1 q) fun ov s2 ⟨x,H2,I2,rx,a,C,t,ex,ea,T,q2⟩=>?_) hs
 subst ex
 obtain rfl:ov=Value.ref a:=rx
 obtain⟨fI,newId,hq⟩:=T.st
 exact b9O PySem.F.store_ValueError I2 ea hq T.sa T.na ry fun dx s3 n1 n2 I3=>⟨σ,_,I3,q2 dx n1 n2⟩
end
end L2

/-! DEEP EQUALITY:lists and tuples of ints,bools,texts,None,lists,tuples -/
namespace L2
open PySem PySem.Spec PyProof.Rows
mutual
inductive DV (K:W.Frag)(H:Hp):V->PyData->Prop
 |non:DV K H .non .none
 |bl (b:Bool):DV K H (.bl b) (.bool b)
 |int (i:Int):DV K H (.int i) (.int i)
 |str (x:Str):DV K H (.str x) (.str x)
 |lst {a:Addr} {xs:List V} {ds:List PyData}:SqL K H a xs->DVs K H xs ds->DV K H (.ref a) (.list ds)
 |tup {a:Addr} {xs:List V} {ds:List PyData}:SqT K H a xs->DVs K H xs ds->DV K H (.ref a) (.tuple ds)
inductive DVs (K:W.Frag)(H:Hp):List V->List PyData->Prop
 |nil:DVs K H [] []
 |cons {x:V} {xs:List V} {d:PyData} {ds:List PyData}:DV K H x d->DVs K H xs ds->DVs K H (x::xs) (d::ds)
end
section
variable {X:Cx}{pins:List (Addr×Obj)}{σ:St}{H:Hp}{s:Shared}
mutual
theorem Inv.reads (I:Inv X pins σ H s):∀{x:V}{d:PyData}{u:Value},DV X.K H x d->RelV x u->∃as,Reads s.heap u d as
 |_,_,_,.non,r=>by cases r;exact⟨_,Reads.none⟩
 |_,_,_,.bl b,r=>by cases r;exact⟨_,Reads.bool b⟩
 |_,_,_,.int i,r=>by obtain⟨t,rfl⟩:=r;exact⟨_,Reads.int i t⟩
 |_,_,_,.str x,r=>by obtain⟨t,rfl⟩:=r;exact⟨_,Reads.str x t⟩
 | _,_,_,.lst h r,rr=>by
  cases rr
  obtain⟨its,rv,⟨o,n,e,c,_,dt⟩,_⟩:=I.list h
  obtain⟨as,q⟩:=Inv.readsAll I r rv
  exact⟨_,reads_list_at e c dt (by simpa using q)⟩
 | _,_,_,.tup h r,rr=>by
  cases rr
  obtain⟨its,rv,⟨o,e,c,n,dt⟩,_⟩:=I.tuple h
  obtain⟨as,q⟩:=Inv.readsAll I r rv
  exact⟨_,reads_tuple_at e c dt (by simpa using q)⟩
theorem Inv.readsAll (I:Inv X pins σ H s):∀{xs:List V}{ds:List PyData}{us:List Value},DVs X.K H xs ds->Vals xs us->∃as,ReadsAll s.heap us ds as
 |_,_,_,.nil,.nil=>⟨_,ReadsAll.nil⟩
 | _,_,_,.cons h r,.cons q p=>by
  obtain⟨as,q1⟩:=Inv.reads I h q
  obtain⟨bs,q2⟩:=Inv.readsAll I r p
  exact⟨_,ReadsAll.cons q1 q2⟩
end
end
section
variable {X:Cx}
theorem c6C (hu:X.A.units+64<cLine):OpR X (compareOp .NotEq) (fun x y H Q=>∃d e,DV X.K H x d/\DV X.K H y e/\SeqAt.shaped d=true/\SeqAt.shaped e=true/\Q (.bl (!PyData.eqv d e)) H):=by
 intro pins s σ H x y v u Q I rx ry h
 obtain⟨d,e,hd,he,sd,se,q⟩:=h
 obtain⟨as,ra⟩:=I.reads hd rx
 obtain⟨bs,rb⟩:=I.reads he ry
 exact ne_dataH ra rb sd se hu ⟨.bl _,H,I,rfl,q⟩
theorem c6B (hu:X.A.units+64<cLine):OpR X (compareOp .NotEq) (fun x y H Q=>∃d,DV X.K H x d/\DV X.K H y d/\SeqAt.shaped d=true/\Q (.bl false) H):=(c6C hu).imp fun x y H Q ⟨d,h1,h2,h3,q⟩=>⟨d,d,h1,h2,h3,h3,by rw[SeqAt.eqv_refl d (SeqAt.canLay_of_shaped h3)];exact q⟩
end
end L2

/-! sum,min,max of a list of ints -/
namespace L2
open PySem PySem.Spec PyProof.Rows
section
variable {X:Cx}
def mCat:R2:=fun x y H Q=>vR x fun l=>vR y fun b=>∃xs zs,H l=some (.lst xs)/\H b=some (.lst zs)/\xs.length+zs.length<=sizeLine/\∀p,H p=none->Q (.ref p) (upd H p (.lst (xs++zs)))
theorem b3P:OpR X (binaryOp .Add) mCat:=c4W.imp fun x y H Q h=>by
 obtain⟨l,rfl,hh⟩:=vR.ex h
 clear h
 obtain⟨b,rfl,xs,zs,h1,h2,h3,h4⟩:=vR.ex hh
 exact⟨l,b,xs,zs,rfl,rfl,h1,h2,h3,h4⟩
end
end L2

/-! range with a step;set(xs) of ints,its length -/
namespace L2
open PySem PySem.Spec PyProof.Rows
def l3 (vs:List V)(k:V->V->V->Prop):Prop:=@List.rec V (fun _=>Prop) False (fun x r _=>l2 r fun y z=>k x y z) vs
theorem l3.ex {vs:List V}{k:V->V->V->Prop}(h:l3 vs k):∃x y z,vs= [x,y,z]/\k x y z:=by
 match vs,h with
 |[x,y,z],h=>exact⟨x,y,z,rfl,h⟩
/-- lo,lo+c, .. (n of them) -/
def Itrc (lo c:Int)(n:Nat):It:=⟨fun i _=>i<n,fun i H x H'=>H'=H/\x= .int (lo+i*c),fun i _=>n<=i⟩
theorem b3V {P:Program}{w:World}{K:W.Frag}{tg:Expr}(it:Addr)(lo c:Int)(n:Nat):Turn P w K tg (Itrc lo c n) [it] it (fun i h=>IsRangeIter h it (lo+(i:Nat)*c) ((n:Int)-(i:Nat)) c) where
 mem:=by simp
 obj :=fun i h st b hb=>by
  have e:b=it:=by simpa using hb
  subst e
  exact⟨_,st,fun v z=>by
   have z':Data.fields _=Data.cell v:=z
   cases z'⟩
 keep:=fun i h h' st k=>k it (by simp) _ st
 item:=by
  intro X hP hw hK hc i pins s σ H E I hf st hg
  subst hP hw hK
  obtain⟨f0,f1,f2,f3,f4,f5⟩:=hf it (by simp)
  have W:=Walks.range (prog:=X.prog) (w:=X.w) (I.ok.hd hc) it lo c n
  refine W.item i s _ _ hg st fun v h' tk hv st' kk=>?_
  obtain⟨t,rfl⟩:=hv
  have I1:Inv X pins σ H { s with heap:=h',toks:=tk }:=I.turned (fun b o hb e=>kk b o (by simpa using hb) e) f0 f1 f3 f4 f5
  exact⟨_,rfl,b4U (s:={ s with heap:=h',toks:=tk }) (n:="range_iterator") st' rfl rfl (by decide) ⟨.int (lo+i*c),H,I1,⟨t,rfl⟩,⟨rfl,rfl⟩,st',fun b hb=>(hf b hb).1⟩⟩
 done:=by
  intro X hP hw hK hc i pins s σ H E I hf st hg
  subst hP hw hK
  obtain⟨f0,f1,f2,f3,f4,f5⟩:=hf it (by simp)
  exact wpAny_pyNext_range_end (I.ok.hd hc) st (by have:n<=i:=hg;omega) fun h' eb=>⟨rfl,I.turned (t':=s.toks) (fun b o hb e=>eb b o hb e) f0 f1 f3 f4 f5⟩
 self:=fun _ _ _ _ _ st h=>wpAny_pyIter_rangeiter st h
section
variable {X:Cx}{tg:Expr}
def dRng3 (ta:TA):TI:=fun σ H R=>ta σ H fun vs H1=>l3 vs fun x y z=>vI x fun i=>vI y fun j=>vI z fun c=>c≠0/\Builtin.divisionGoesByPylong (j-i) c=false/\∃n:Nat,Builtin.Range.small i j c=true/\Builtin.Range.rangeSize i j c=(n:Int)/\R (Itrc i c n) H1
theorem b8A {a b c:Expr}{ta:TA}{p pos:Pos}(hg:Gl X "range")(hm:X.mg "range"=none)(ha:PA X [a,b,c] ta)(hs:starEach [a,b,c] X.env=(false,eval a X.env)::starEach [b,c] X.env:=by rfl)(hs2:(backTo pos (starEach [b,c] X.env)).any (·.1)=false:=by rfl) :
  PI X tg (.Call (.Name "range" p) [a,b,c] [] pos) (dRng3 ta):=by
 intro pins s σ H R I h
 refine Call_ (a2A I hg hm boot_range (YZ (thn (ha pos pins s σ H _ I h) fun us s1 hz9=>?_) hs hs2))
 obtain⟨vs,H1,I1,r1,q1⟩:=hz9
 obtain⟨x,y,z,rfl,q2⟩:=l3.ex q1
 obtain⟨i,rfl,q3⟩:=vI.ex q2
 obtain⟨j,rfl,q4⟩:=vI.ex q3
 obtain⟨c,rfl,hc,hp,n,hsm,hn,q⟩:=vI.ex q4
 cases r1 with
 | cons r rr=>
  cases rr with
  | cons r' rr=>
   cases rr with
   | cons r'' rr=>
    cases rr
    obtain⟨t,rfl⟩:=r
    obtain⟨t',rfl⟩:=r'
    obtain⟨t'',rfl⟩:=r''
    refine call_range_3 hc ?_ (.inl hp)
    refine wpAny_pyIter_range (IsRange.new ..) hsm ?_
    have I2:Inv X pins σ H1 { s1 with heap:=s1.heap.push { cls:= .type "range",data:= .fields #[.int i t,.int j t',.int c t''] },toks:=s1.toks }:=I1.kept fun b o e=>Yd _ e
    refine⟨(s1.heap.push { cls:= .type "range",data:= .fields #[.int i t,.int j t',.int c t''] }).objs.size, [(s1.heap.push { cls:= .type "range",data:= .fields #[.int i t,.int j t',.int c t''] }).objs.size],_,_,H1,rfl,
     I2.kept (t':=s1.toks) fun b o e=>Yd _ e,b3V _ i c n,?_,fun b hb=>?_,q⟩
    ·show IsRangeIter _ _ (i+((0:Nat):Int)*c) ((n:Int)-((0:Nat):Int)) c
     have e1:i+((0:Nat):Int)*c=i:=by simp
     have e2:(n:Int)-((0:Nat):Int)=Builtin.Range.rangeSize i j c:=by rw[hn];simp
     rw[e1,e2]
     exact YB _ rfl
    ·have e:b=(s1.heap.push { cls:= .type "range",data:= .fields #[.int i t,.int j t',.int c t''] }).objs.size:=by simpa using hb
     subst e
     exact I2.fpOk (Ye _) (I2.hok.fresh (Ye _))
end
/-! ### set(xs) -/
section
variable {X:Cx}
end
end L2

/-! chains of comparisons,data by places -/
namespace L2
open PySem PySem.Spec PyProof.Rows
section
variable {X:Cx}{a b c:Expr}{ta tb tc:TE}{pos:Pos}
def dChain (r r':R2)(ta tb tc:TE):TE:=fun σ H Q=>ta σ H fun x H1=>tb σ H1 fun y H2=>r x y H2 fun z H3=>vB z fun k=>if k=true then tc σ H3 fun u H4=>r' y u H4 Q else Q (.bl false) H3
theorem b2A (r r':R2)(ta tb tc:TE):dChain r r' ta tb tc=tChain r r' ta tb tc:=by
 funext σ H Q
 unfold dChain tChain
 simp only[a9M]
theorem a9Z {op op':CmpOp}{r r':R2}(ho:OpR X (compareOp op) r)(ho':OpR X (compareOp op') r')(ha:PE X a ta)(hb:PE X b tb)(hc:PE X c tc)
  (hm:lastMarks [op,op'] [b,c]=false:=by with_unfolding_all rfl):PE X (.Compare a [op,op'] [b,c] pos) (dChain r r' ta tb tc):=by
 rw[b2A];exact c0C ho ho' ha hb hc hm
theorem a9Y {op op':CmpOp}{r r':R2}(ho:OpR X (compareOp op) r)(ho':OpR X (compareOp op') r')(ha:PE X a ta)(hb:PE X b tb)(hc:PE X c tc)
  (hm:lastMarks [op,op'] [b,c]=false:=by with_unfolding_all rfl):PT X (.Compare a [op,op'] [b,c] pos) (dTest (dChain r r' ta tb tc)):=by
 rw[b2A,b4X];exact b9V ho ho' ha hb hc hm
theorem b4R (z:Int):∀ns:List Int,inV (.int z) (ns.map V.int)=decide (z∈ns)/\(ns.map V.int).all flatV=true
 |[]=>⟨rfl,rfl⟩
 | n ::r=>by
  have ih:=b4R z r
  refine⟨?_,?_⟩
  ·unfold inV at ih ⊢
   rw[Yo,Xq,ih.1]
   show ((n == z) || decide (z∈r))=decide (z∈n::r)
   rw[Xr]
   simp only[XG,Y8,Y2,Yv]
   exact⟨fun h=>h.imp Eq.symm id,fun h=>h.imp Eq.symm id⟩
  ·rw[Yo,Y3,ih.2];rfl
def mInI (K:W.Frag)(f:Bool->Bool):R2:=fun x y H Q=>vI x fun z=>vR y fun p=>∃ns:List Int,SqA K H p (ns.map V.int)/\Q (.bl (f (decide (z∈ns)))) H
theorem b9A:OpR X (compareOp .NotIn) (mInI X.K not):=zR.imp fun x y H Q h=>by
 obtain⟨z,rfl,hh⟩:=vI.ex h
 clear h
 obtain⟨p,rfl,ns,h1,q⟩:=vR.ex hh
 have e:=b4R z ns
 exact⟨p,_,rfl,h1,rfl,e.2,by show Q (.bl (!inV (.int z) (ns.map V.int))) H;rw[e.1];exact q⟩
end
end L2

/-! the same rules with the written part named:for a comprehension's block -/
namespace L2
open PySem PySem.Spec PyProof.Rows
section
variable {X:Cx}{K:W.Frag}
theorem b2M (hK:X.K=K:=by rfl):IxR X (mIxT K):=by subst hK;exact a7R
theorem b7I (hK:X.K=K:=by rfl):CallR X (.type "list") (mListOf K):=by subst hK;exact a5H
end
end L2

/-! more rules that compute:list*n,extend,pop(i),int(x),x is False,all(xs) -/
namespace L2
open PySem PySem.Spec PyProof.Rows
theorem c1R:bootBuiltins "all"=some (.builtin "all"):=by decide +kernel
section
variable {X:Cx}
section
variable {o e:Expr}{es:List Expr}{to:TE}{t:TA}{apos cpos:Pos}
def dPopAt (to:TE)(t:TA):TE:=fun σ H Q=>to σ H fun x H1=>vR x fun l=>(∃xs,H1 l=some (.lst xs))/\t σ H1 fun vs H2=>l1 vs fun y=>vI y fun i=>∃xs k y,H2 l=some (.lst xs)/\(-(2 ^ 63)<=i/\i<2 ^ 63)/\seqIndex? i xs.length=some k/\xs[k]? =some y/\Q y (upd H2 l (.lst (xs.eraseIdx k)))
theorem c0M (ho:PE X o to)(ha:PA X [e] t)(hbase:attributeBase o "pop" X.env (eval o X.env)=eval o X.env:=by rfl)
  (hfew:((backTo cpos (starEach [e] X.env)).all (fun x=>!x.1) && (backToKw cpos (keywordEach [] X.env)).all (fun x=>x.1.isSome)
   && decide (([e]:List Expr).length+([]:List Keyword).length+(if ([]:List Keyword).isEmpty then 0 else 1)<30))=true:=by rfl)
  (hline:(apos.endLine == cpos.line)=true:=by rfl) (hs:starEach [e] X.env=(false,eval e X.env)::starEach [] X.env:=by rfl) (hplain:(backTo cpos (starEach [] X.env)).any (·.1)=false:=by rfl) :
  PE X (.Call (.Attribute o "pop" apos) [e] [] cpos) (dPopAt to t):=
 (b1L Xu PySem.F.slot_list_pop PySem.F.type_list_pop c0L (gD ho) (zQ ha) hbase hfew hline hs hplain).imp fun σ H Q h=>⟨_,h,fun x H1 q=>by
  obtain⟨l,rfl,⟨xs,q1⟩,q2⟩:=vR.ex q
  refine⟨.inl ⟨rfl,xs,SqL.of q1⟩,_,q2,fun vs H2 q3=>?_⟩
  obtain⟨y,rfl,q3⟩:=l1.ex q3
  obtain⟨i,rfl,xs,k,y,h1,h2,h3,h4,h5⟩:=vI.ex q3
  exact⟨l,xs,i,k,y,rfl,rfl,h1,h2.1,h2.2,h3,h4,h5⟩⟩
end
/-! ### all(xs),xs a list of truths -/
theorem a9K:∀{bs:List Bool}{us:List Value},Vals (bs.map V.bl) us->us=bs.map Value.bool
 |[],_,.nil=>rfl
 | b::r,_,.cons h t=>by
  cases (show _=Value.bool b from h)
  rw[a9K t];rfl
def mAll (K:W.Frag):List V->Hp->VK->Prop:=fun xs H Q=>l1 xs fun x=>vR x fun p=>∃bs:List Bool,SqL K H p (bs.map V.bl)/\Q (.bl (bs.all id)) H
theorem all_range (bs:List Bool):(List.range bs.length).all (fun i=>bs.getD i false)=bs.all id:=by
 have e:(List.range bs.length).map (fun i=>bs.getD i false)=bs:=by
  apply List.ext_getElem
  ·simp
  ·intro i h1 h2
   simp[YG,h2]
 conv=>rhs;rw[<-e,List.all_map]
 rfl
theorem c3G (hc:X.calm=true):CallR X (.builtin "all") (mAll X.K):=by
 intro pins s σ H xs us Q I r h
 obtain⟨x,rfl,h⟩:=l1.ex h
 obtain⟨p,rfl,bs,hS,q⟩:=vR.ex h
 obtain⟨u,rfl,ru⟩:=vals1 r
 cases ru
 obtain⟨its,rv,pl,_⟩:=I.list hS
 have ei:=a9K rv
 subst ei
 have hl:=pl.isList
 have hlt:p<s.heap.objs.size:=by obtain⟨_,e,_⟩:=hl;exact Ym e
 refine call_all_walk (wpAny_pyIter_list hl ?_)
 refine⟨_,_,_,_,_,_,fun i=>bs.getD i false,rfl,Walks.list (A:=X.A.in1) (I.ok.hd hc) _ p (YL hlt) _,⟨⟨_,YB _ rfl,rfl,rfl⟩,hl.push _⟩,?_,fun h' tk hk=>?_⟩
 ·intro i v s' Q' E' hP hq
  have hv:(bs.map Value.bool)[i]? =some v:=by simpa using hP
  rw[Yq]at hv
  obtain⟨b,hb,rfl⟩:=Yt.mp hv
  have:bs.getD i false=b:=by rw[YG,hb];rfl
  simp only[this]at hq
  exact Y0 hq
 ·have e:(bs.map Value.bool).toArray.size=bs.length:=by simp
  rw[e,all_range]
  exact⟨.bl _,H,I.kept (old_kept hk),rfl,q⟩
end
end L2

/-! a callee within a comprehension raises:it is handed on through the comprehension to the def -/
namespace L2
open PySem PySem.Spec PyProof.Rows
section
variable {P:Program}{w:World}{K:W.Frag}{mg:Str->Option Value}{base:Heap}{N:List Str}{qual:Str}{scope:Scope}{f:Addr}{cd:Value}{A:Around}{outer:List Env}{s:Shared}{H:Hp}{E:XK}
theorem c2P {pins:List (Addr×Obj)}{σ:St}{H1 H':Hp}{s1 s3:Shared}{h5 B:Heap}{a t C:Addr}{cls fl:Value}{od:Option Addr}(I:Inv (cxOf (CXR P w) P w K mg base N qual scope f cd A outer s H E) pins σ H1 s1)
  (F:Fly P w (cxOf (CXR P w) P w K mg base N qual scope f cd A outer s H E).stack H1 H' s1 s3 a t cls od B) (hC:s.heap.get? C=none) (hCf:H' C=none)
  (st:(W.hideAll B [C]).StaysIn h5) (ff:h5.FunFrames (W.hideAll B [C]) (cxOf (CXR P w) P w K mg base N qual scope f cd A outer s H E).stack) (tr:TrD h5 (W.hideAll B [C]) a cls (.ref t) od fl)
  (slt:∀b o,s3.heap.get? b=some o->b∈frs (cxOf (CXR P w) P w K mg base N qual scope f cd A outer s H E).stack->∃sl,h5.get? b=some { o with slots:=sl }) (hE:E cls od H') :
  (cxOf (CXR P w) P w K mg base N qual scope f cd A outer s H E).xe (.ref a) { s3 with heap:=h5 }:=by
 have fr:=I.ok.frames
 have nB:(W.hideAll B [C]).get? a=none:=by
  cases q:(W.hideAll B [C]).get? a with
  |none=>rfl
  |some o=>have z:=W.of_hideAll _ q;rw[F.fly.1.2]at z;cases z
 refine b8F (s:={ s3 with heap:=h5 }) fr rfl ⟨st,nB⟩ ff tr fun h2 x1 x2=>?_
 have inB:∀b o,b≠C->B.get? b=some o->(W.hideAll B [C]).get? b=some o:=fun b o n e=>W.hideAll_get _ e fun z=>n (Yx.mp z)
 have neC:∀b o,s.heap.get? b=some o->b≠C:=fun b o e z=>by rw[z,hC]at e;cases e
 have old:∀b o,s.heap.get? b=some o->H b=none->b∉frs outer->(W.hideAll B [C]).get? b=some o:=fun b o e n nf=>
  inB b o (neC b o e) (F.old b o (I.base.keep b o e n nf (fun z=>by cases z)) (I.base.free b o e n (fun z=>by cases z)) (wB I e nf))
 have hst:∀b,b∈frs outer->b∈frs (cxOf (CXR P w) P w K mg base N qual scope f cd A outer s H E).stack:=fun b hb=>by
  obtain⟨env,h,hf⟩:=YR.mp hb
  exact YR.mpr ⟨env,Yf _ h,hf⟩
 have slots:∀b o,s3.heap.get? b=some o->b∈frs outer->∃sl,h2.get? b=some { o with slots:=sl }:=fun b o e hb=>by
  obtain⟨_,o',ho',nf⟩:=YY F.fly.2.1 (hst b hb)
  rw[e]at ho';cases ho'
  obtain⟨sl,e1⟩:=slt b o e (hst b hb)
  obtain⟨sl2,e2⟩:=x2 b _ e1 nf
  exact⟨sl2,e2⟩
 have trk:∀b u,H' b=some u->∃o,s3.heap.get? b=some o/\(W.hideAll B [C]).get? b=some o:=fun b u z=>by
  obtain⟨o,e1,e2⟩:=F.trk b u z
  exact⟨o,e1,inB b o (fun q=>by rw[q,hCf]at z;cases z) e2⟩
 refine⟨a,t,cls,od,H',_,rfl,⟨F.os.trans I.os,F.bare,⟨?_,?_,?_,?_,?_,?_,?_⟩,HOk.fromB F.hok trk x1.1.1,F.new,x1,old,?_,?_⟩,hE⟩
 ·exact fun b o e n nf _=>x1.1.1 b o (old b o e n nf)
 ·intro b o e n hb nx
  obtain⟨sl,q1⟩:=I.base.slot b o e n hb nx
  obtain⟨sl1,q2⟩:=F.un.slot b _ q1 (I.base.free b o e n nx) (hst b hb) (fun z=>by cases z)
  obtain⟨sl2,q3⟩:=slots b _ q2 hb
  exact⟨sl2,q3⟩
 ·exact fun b o e n nx=>by
   obtain⟨o1,q1⟩:=I.base.there b o e nx
   exact F.un.free b o1 q1 (I.base.free b o e n nx) (fun z=>by cases z)
 ·intro b o e nx
  obtain⟨o1,q1⟩:=I.base.there b o e nx
  obtain⟨o2,q2⟩:=F.un.there b o1 q1 (fun z=>by cases z)
  by_cases hb:b∈frs outer
  ·obtain⟨sl',q3⟩:=slots b _ q2 hb
   exact⟨_,q3⟩
  ·obtain⟨o3,q3⟩:=F.all b o1 q1 (wB I e hb)
   exact⟨o3,x1.1.1 b o3 (inB b o3 (neC b o e) q3)⟩
 ·exact fun b xs z=>F.un.tups b xs (I.base.tups b xs z)
 ·exact fun b o u z=>F.un.frzs b o u (I.base.frzs b o u z)
 ·intro b ps z
  obtain⟨m1,z1⟩:=I.base.tbls b ps z
  obtain⟨m2,z2⟩:=F.un.tbls b _ z1
  exact⟨m1++m2,by rw[<-Array.append_assoc];exact z2⟩
 ·intro b u z
  obtain⟨o,_,e2⟩:=trk b u z
  exact⟨o,x1.1.1 b o e2,e2⟩
 ·intro b o e nf
  obtain⟨o1,q1⟩:=I.base.there b o e (fun z=>by cases z)
  obtain⟨o3,q3⟩:=F.all b o1 q1 (wB I e nf)
  exact⟨o3,inB b o3 (neC b o e) q3⟩
theorem c6L {E1:XK}{sc:Scope}{cl:List (Str×Addr)}{x:Str}{ix:List Nat}{C:Addr}{fp:List Addr}{s2:Shared}{H2:Hp}(hE:∀cls od H',E1 cls od H'->E cls od H')(at0:CompAt (cxOf (CXR P w) P w K mg base N qual scope f cd A outer s H E) C fp s2 H2) :
  Passes (CXR P w) (cxComp (cxOf (CXR P w) P w K mg base N qual scope f cd A outer s H E) sc cl x ix C fp s2 H2) E1:=by
 intro pins' σ' H1 s1 ev s3 J hq
 obtain⟨⟨pins,σ,I2,f2⟩,hfl,hCle⟩:=at0
 obtain⟨a,t,cls,od,H',B,rfl,F,q⟩:=hq
 have I:Inv (cxOf (CXR P w) P w K mg base N qual scope f cd A outer s H E) pins σ H1 s1:=I2.call' (ch:=fp) J.os J.base J.hok J.bare fun b hb=>⟨(f2 b hb).2.2.2.1,(f2 b hb).2.1,(f2 b hb).2.2.2.2.1,(f2 b hb).2.2.2.2.2⟩
 obtain⟨m,hn,_⟩:=J.loc
 have hnC:s1.heap.Ns C m:=hn
 have freeC:H1 C=none:=J.free
 have nfC:C∉frs (cxOf (CXR P w) P w K mg base N qual scope f cd A outer s H E).stack:=fun z=>by
  obtain⟨_,o,ho,_⟩:=YY I2.stack z
  exact absurd (Yp (Ym ho) hCle) (YW _)
 have hC0:s.heap.get? C=none:=Heap.get?_none_of_le (Yn I2.sz hCle)
 obtain⟨oC,es,ep,eC,rC⟩:=hnC
 have BC:B.get? C=some oC:=F.old C oC eC freeC nfC
 have n3:s3.heap.Ns C m:=⟨oC,es,ep,F.fly.1.1 C oC BC,rC⟩
 have H'C:H' C=none:=F.un.free C oC eC freeC (fun z=>by cases z)
 have aC:a≠C:=fun z=>by have:=F.fly.1.2;rw[z,BC]at this;cases this
 show wpAny (model P w) _ (noteFrame (.ref a) (cxOf (CXR P w) P w K mg base N qual scope f cd A outer s H E).env) _ _ s3
 refine b2Y I.ok.frames rfl F.fly fun h4 held sm=>?_
 refine⟨m,sm.ns n3,fun h' sb cenv hl=>?_⟩
 have sub:∀b o,(W.hideAll B [C]).get? b=some o->B.get? b=some o/\b≠C:=fun b o e=>⟨W.of_hideAll _ e,fun z=>by
  rw[z,W.hideAll_none [C] (Yx.mpr rfl)]at e;cases e⟩
 have st':(W.hideAll B [C]).StaysIn h':=fun b o e=>by
  obtain⟨e1,n⟩:=sub b o e
  exact(sb.2 b n).trans (held.1.1 b o e1)
 have nn:∀b,B.get? b=none->(W.hideAll B [C]).get? b=none:=fun b e=>by
  cases z:(W.hideAll B [C]).get? b with
  |none=>rfl
  |some o=>rw[(sub b o z).1]at e;cases e
 have ff':h'.FunFrames (W.hideAll B [C]) (cxOf (CXR P w) P w K mg base N qual scope f cd A outer s H E).stack:=by
  have go:∀l:List Env,(∀env∈l,env∈(cxOf (CXR P w) P w K mg base N qual scope f cd A outer s H E).stack)->h4.FunFrames B l->h'.FunFrames (W.hideAll B [C]) l:=by
   intro l
   induction l with
   |nil=>intro _ _;trivial
   | cons env r ih=>
    rintro hm ⟨z1,⟨L,o,z2,z3,z4,z5⟩,z6⟩
    refine⟨z1,⟨L,o,z2,nn L z3,(sb.2 L fun q=>nfC ?_).trans z4,z5⟩,ih (fun v hv=>hm v (Yf _ hv)) z6⟩
    rw[<-q]
    exact YR.mpr ⟨env,hm env Yw,z2⟩
  exact go _ (fun _ z=>z) held.2.1
 have tr':TrD h' (W.hideAll B [C]) a cls (.ref t) od (rawInt (cxOf (CXR P w) P w K mg base N qual scope f cd A outer s H E).env.locals):=by
  obtain⟨oe,vs,T,oT,ts,⟨q1,q2,q3,q4⟩,q5,⟨q7,q8⟩,q9,q10⟩:=held.2.2
  refine⟨oe,vs,T,oT,ts,⟨(sb.2 a aC).trans q1,q2,q3,q4⟩,q5,⟨nn T q7,q8⟩,(sb.2 T fun z=>?_).trans q9,q10⟩
  rw[z,BC]at q7;cases q7
 refine c2O (s:={ s3 with heap:=h' }) ⟨st',nn a F.fly.1.2⟩ ff' tr' fun h5 fl' y1 y2 y3 y4=>?_
 have sl5:∀b o,s3.heap.get? b=some o->b∈frs (cxOf (CXR P w) P w K mg base N qual scope f cd A outer s H E).stack->∃sl,h5.get? b=some { o with slots:=sl }:=fun b o e hb=>by
  obtain⟨_,o',ho',nf⟩:=YY F.fly.2.1 hb
  rw[e]at ho';cases ho'
  obtain⟨sl,e1⟩:=sm b o e nf
  have e2:h'.get? b=some { o with slots:=sl }:=(sb.2 b fun z=>nfC (z▸hb)).trans e1
  obtain⟨sl2,e3⟩:=y4 b _ e2 nf
  exact⟨sl2,e3⟩
 exact c2P (s3:=s3) I F hC0 H'C y1 y2 y3 sl5 (hE _ _ _ q)
end
end L2

/-! the signs of a text,one by one -/
namespace L2
open PySem PySem.Spec PyProof.Rows
def Its (z:Str):It:=⟨fun i _=>i<z.cps.size,fun i H x H'=>H'=H/\∃c,z.cps[i]? =some c/\x= .str ⟨#[c]⟩,fun i _=>z.cps.size<=i⟩
section
variable {prog:Program}{w:World}{A:Around}{E:Value->Shared->Prop}{s:Shared}{it:Addr}{z:Str}{t:Tok}{i:Nat}
theorem b7W {c:Nat}{Q:Option Value->Shared->Prop}(hit:s.heap.IsStrIter it (strIterType z) z t i)(hx:z.cps[i]? =some c)
  (hQ:∀h',h'.IsStrIter it (strIterType z) z t (i+1)->Heap.SameBut it s.heap h'->Q (some (.str ⟨#[c]⟩ s.toks)) { s with heap:=h',toks:=s.toks+1 }):wpAny (model prog w) A (pyNext (.ref it)) Q E s:=by
 unfold strIterType at hit hQ
 split at hit
 ·rename_i h;simp only[h]at hQ;exact wpAny_pyNext_ascii_item hit hx hQ
 ·rename_i h;simp only[h]at hQ;exact wpAny_pyNext_wide_item hit hx hQ
theorem c1D {Q:Option Value->Shared->Prop}(hh:A.handled=none)(hit:s.heap.IsStrIter it (strIterType z) z t i)(hx:z.cps[i]? =none)(hQ:∀h',Heap.ExtBut it s.heap h'->Q none { s with heap:=h' }) :
  wpAny (model prog w) A (pyNext (.ref it)) Q E s:=by
 unfold strIterType at hit
 split at hit
 ·exact wpAny_pyNext_ascii_end hh hit hx hQ
 ·exact wpAny_pyNext_wide_end hh hit hx hQ
theorem b7N {Q:Value->Shared->Prop}(hit:s.heap.IsStrIter it (strIterType z) z t i)(h:Q (.ref it) s):wpAny (model prog w) A (pyIter (.ref it)) Q E s:=by
 unfold strIterType at hit
 split at hit
 ·exact wpAny_pyIter_striter_ascii hit h
 ·exact wpAny_pyIter_striter_wide hit h
end
theorem b7J {P:Program}{w:World}{K:W.Frag}{tg:Expr}(z:Str)(t:Tok)(it:Addr):Turn P w K tg (Its z) [it] it (fun i h=>h.IsStrIter it (strIterType z) z t i) where
 mem:=by simp
 obj:=fun i h st b hb=>by
  have e:b=it:=by simpa using hb
  subst e
  obtain⟨o,e,_,d⟩:=st
  exact⟨o,e,fun v y=>by rw[d]at y;cases y⟩
 keep:=fun i h h' ⟨o,e,r⟩ k=>⟨o,k it (by simp) o e,r⟩
 item:=by
  intro X hP hw hK hc i pins s σ H E I hf st hg
  subst hP hw hK
  have hg':i<z.cps.size:=hg
  have hx:z.cps[i]? =some z.cps[i]:=Array.getElem?_eq_getElem hg'
  obtain⟨f0,f1,f2,f3,f4,f5⟩:=hf it (by simp)
  refine b7W st hx fun h' st' sb=>?_
  have I1:Inv X pins σ H { s with heap:=h',toks:=s.toks+1 }:=I.turned (fun b o hb e=>(sb.2 b hb).trans e) f0 f1 f3 f4 f5
  obtain⟨o,e,c,d⟩:=id st'
  refine⟨_,rfl,b4U (s:={ s with heap:=h',toks:=s.toks+1 }) (n:=strIterType z) e c d ?_ ⟨.str ⟨#[z.cps[i]]⟩,H,I1,⟨_,rfl⟩,⟨rfl,_,hx,rfl⟩,st',fun b hb=>(hf b hb).1⟩⟩
  unfold strIterType
  split <;> decide
 done:=by
  intro X hP hw hK hc i pins s σ H E I hf st hg
  subst hP hw hK
  have hg':z.cps.size<=i:=hg
  obtain⟨f0,f1,f2,f3,f4,f5⟩:=hf it (by simp)
  exact c1D (I.ok.hd hc) st (Array.getElem?_eq_none hg') fun h' eb=>⟨rfl,I.turned (t':=s.toks) (fun b o hb e=>eb b o hb e) f0 f1 f3 f4 f5⟩
 self:=fun _ _ _ _ _ st h=>b7N st h
section
variable {X:Cx}{tg:Expr}
def iText (tl:TE):TI:=fun σ H R=>tl σ H fun x H1=>vS x fun z=>R (Its z) H1
theorem c2X {l:Expr}{tl:TE}(hl:PE X l tl):PI X tg l (iText tl):=by
 intro pins s σ H R I h
 refine thn (hl pins s σ H _ I h) fun v s1 hz9=>?_
 obtain⟨x,H1,I1,r1,q1⟩:=hz9
 obtain⟨z,rfl,q⟩:=vS.ex q1
 obtain⟨t,rfl⟩:=(show ∃t,v=Value.str z t from r1)
 refine wpAny_pyIter_strU ?_
 refine⟨s1.heap.objs.size, [s1.heap.objs.size],_,_,H1,rfl,I1.kept (t':=s1.toks) fun b o e=>Yd _ e,b7J z t _,⟨_,YB _ rfl,rfl,rfl⟩,fun b hb=>?_,q⟩
 have e:b=s1.heap.objs.size:=by simpa using hb
 subst e
 exact I1.fpOk (Ye _) (I1.hok.fresh (Ye _))
end
/-- a comprehension over a text:a word by the turn and the items so far -/
theorem b8T {z:Str}{tt:TT}{te:TE}{σc:V->St}{H:Hp}{Q:VK}(Pv:Nat->List V->Hp->Prop)(hn:∀i ys H,i<=z.cps.size->Pv i ys H->ys.length<sizeLine)(h0:Pv 0 [] H)
  (hs:∀i c ys H,z.cps[i]? =some c->Pv i ys H->tt (σc (.str ⟨#[c]⟩)) H fun b H3=>if b=true then te (σc (.str ⟨#[c]⟩)) H3 fun y H4=>Pv (i+1) (ys++[y]) H4 else Pv (i+1) ys H3)
  (hd:∀ys H,Pv z.cps.size ys H->∀p,H p=none->Q (.ref p) (upd H p (.lst ys))):cWord (Its z) tt te σc H Q:=by
 refine⟨fun i m ys H=>m=z.cps.size-i/\i<=z.cps.size/\Pv i ys H,⟨z.cps.size,by simp,YO _,h0⟩,?_⟩
 rintro i m ys H ⟨rfl,hi,p⟩
 refine⟨hn i ys H hi p,?_⟩
 by_cases hlt:i<z.cps.size
 ·refine .inr ⟨hlt,fun ys' H'=>Pv (i+1) ys' H',fun ys' H' q=>⟨_,by omega,rfl,hlt,q⟩,?_⟩
  rintro x H' ⟨rfl,c,hc,rfl⟩
  exact hs i c ys _ hc p
 ·have e:i=z.cps.size:=by omega
  subst e
  exact .inl ⟨Ye _,hd ys H p⟩
end L2

/-! texts:slices,sums,join -/
namespace L2
open PySem PySem.Spec PyProof.Rows Builtin Builtin.Str
/-- the text of these signs -/
def txt (l:List Nat):PySem.Str:=⟨l.toArray⟩
theorem uH (l:List Nat):(txt l).length=l.length:=by simp[txt,PySem.Str.length]
theorem vH (l:List Nat):(txt l).cps.toList=l:=by simp[txt]
theorem c4F (z:PySem.Str):txt z.cps.toList=z:=by cases z;simp[txt]
section
variable {X:Cx}
def mAddS:R2:=fun x y H Q=>vS x fun i=>vS y fun j=>i.length+j.length<=sizeLine/\Q (.str (i++j)) H
theorem yX:OpR X (binaryOp .Add) mAddS:=b5M.imp fun x y H Q h=>by
 obtain⟨i,rfl,h1⟩:=vS.ex h
 obtain⟨j,rfl,h2,q⟩:=vS.ex h1
 exact⟨i,j,rfl,rfl,h2,q⟩
theorem b6F:∀{ts:List PySem.Str}{us:List Value},Vals (ts.map V.str) us->∃l:List (PySem.Str×Tok),us=strValues l/\l.map (·.1)=ts
 |[],_,h=>by cases h;exact⟨[],rfl,rfl⟩
 | z ::r,_,h=>by
  cases h with
  | cons a b=>
   obtain⟨t,rfl⟩:=(show ∃t,_=Value.str z t from a)
   obtain⟨l,rfl,e⟩:=b6F b
   exact⟨(z,t)::l,rfl,by rw[Yo,e]⟩
def rJoin:V->List V->Hp->VK->Prop:=fun x vs H Q=>∃z l ts,x= .str z/\vs= [.ref l]/\H l=some (.lst (ts.map V.str))/\JoinOk z ts=true/\Q (.str (Txt.join z ts)) H
theorem c2W:MtM X "str.join" rJoin:=by
 intro pins s σ H x vs v us Q I rx rv h
 obtain⟨z,l,ts,rfl,rfl,hH,hok,q⟩:=h
 obtain⟨t,rfl⟩:=(show ∃t,v=Value.str z t from rx)
 obtain⟨u,rfl,ru⟩:=rv.one
 cases ru
 obtain⟨hz,its,n,r,hl,e⟩:=I.lstM hH
 obtain⟨ps,rfl,e2⟩:=b6F r
 exact SC.join ⟨_,e,rfl,_,rfl⟩ e2 hok fun t' k=>⟨.str _,H,I.tok k,⟨_,rfl⟩,q⟩
end
section
variable {X:Cx}{o e:Expr}{to:TE}{t:TA}{apos cpos:Pos}
def dJoin (to:TE)(t:TA):TE:=fun σ H Q=>to σ H fun x H1=>vS x fun z=>t σ H1 fun vs H2=>l1 vs fun y=>vR y fun l=>∃ts,H2 l=some (.lst (ts.map V.str))/\JoinOk z ts=true/\Q (.str (Txt.join z ts)) H2
theorem a3C (ho:PE X o to)(ha:PA X [e] t)(hbase:attributeBase o "join" X.env (eval o X.env)=eval o X.env:=by rfl)
  (hfew:((backTo cpos (starEach [e] X.env)).all (fun x=>!x.1) && (backToKw cpos (keywordEach [] X.env)).all (fun x=>x.1.isSome)
   && decide (([e]:List Expr).length+([]:List Keyword).length+(if ([]:List Keyword).isEmpty then 0 else 1)<30))=true:=by rfl)
  (hline:(apos.endLine == cpos.line)=true:=by rfl) (hs:starEach [e] X.env=(false,eval e X.env)::starEach [] X.env:=by rfl) (hplain:(backTo cpos (starEach [] X.env)).any (·.1)=false:=by rfl) :
  PE X (.Call (.Attribute o "join" apos) [e] [] cpos) (dJoin to t):=
 (b1L PySem.F.plainAttrs_str PySem.F.slot_str_join PySem.F.type_str_join c2W (gD ho) (zQ ha) hbase hfew hline hs hplain).imp fun σ H Q h=>⟨_,h,fun x H1 q=>by
  obtain⟨z,rfl,q2⟩:=vS.ex q
  refine⟨rfl,_,q2,fun vs H2 q3=>?_⟩
  obtain⟨y,rfl,q4⟩:=l1.ex q3
  obtain⟨l,rfl,ts,h1,h2,h3⟩:=vR.ex q4
  exact⟨z,l,ts,rfl,rfl,h1,h2,h3⟩⟩
end
end L2

/-! try with any body and several handlers -/
namespace L2
open PySem PySem.Spec PyProof.Rows
section
variable {X:Cx}
abbrev Cx.pinned (X:Cx)(pins0:List (Addr×Obj)):Cx:={ X with pn:=X.pn++pins0 }
/-- the context of a try's body:what is raised is caught here -/
abbrev Cx.tried (X:Cx)(pins0:List (Addr×Obj))(σ0:St)(EX:XK):Cx:=(X.pinned pins0).wish fun ev s'=>∃pins H1 s1,Inv (X.pinned pins0) pins σ0 H1 s1/\CXR X.prog X.w X.stack H1 s1 EX ev s'
theorem Inv.pinUp {pins0:List (Addr×Obj)}{σ:St}{H:Hp}{s:Shared}(I:Inv X pins0 σ H s):Inv (X.pinned pins0) [] σ H s:=
 ⟨⟨I.ok.mod,I.ok.kind,I.ok.glob,I.ok.blt,I.ok.above,I.ok.inj,I.ok.has,I.ok.cab,I.ok.hd,I.ok.frames,I.ok.stk,I.ok.exf,I.ok.bs,I.ok.bsz,I.ok.noex,I.ok.exfs,I.ok.funs,I.ok.frf⟩,I.os,I.bare,I.base,I.loc,I.cell,I.free,I.freeC,
  fun p hp=>I.pin p (by simpa using hp),I.hok,I.len⟩
theorem Inv.pinDown {pins0 pins:List (Addr×Obj)}{σ:St}{H:Hp}{s:Shared}(I:Inv (X.pinned pins0) pins σ H s):Inv X pins0 σ H s:=
 ⟨⟨I.ok.mod,I.ok.kind,I.ok.glob,I.ok.blt,I.ok.above,I.ok.inj,I.ok.has,I.ok.cab,I.ok.hd,I.ok.frames,I.ok.stk,I.ok.exf,I.ok.bs,I.ok.bsz,I.ok.noex,I.ok.exfs,I.ok.funs,I.ok.frf⟩,I.os,I.bare,I.base,I.loc,I.cell,I.free,I.freeC,
  fun p hp=>I.pin p (XD _ hp),I.hok,I.len⟩
abbrev TH:=Ends->St->Value->Option Addr->Hp->Prop
/-- handlers:what stands behind the catch -/
def PH (X:Cx)(hs:List ExceptHandler)(th:TH):Prop:=∀(pins:List (Addr×Obj))(σ:St)(H':Hp)(s5:Shared)(a t:Addr)(cls:Value)(od:Option Addr)(B:Heap)(D:Ends),
 (∀h6,FlyD B X.stack a cls (.ref t) od h6->s5.heap.UpToSlots h6->Inv X pins σ (upd H' a (excO cls a od)) { s5 with heap:=h6 })->FlyD B X.stack a cls (.ref t) od s5.heap->H' a=none->th D σ cls od H'->
 wpAny (model X.prog X.w) X.A (handleBy (.ref a) X.env hs) (SP X pins D) X.xe s5
variable {np hpos pos:Pos}{y n:Str}{C:Addr}{i:Nat}{b₀:Stmt}{suite:List Stmt}{ts:TS}{hs:List ExceptHandler}{th:TH}
def hAs (K:W.Frag)(C:Addr)(i:Nat)(ts:TS)(th:TH):TH:=fun D σ cls od H'=>(W.exmOne K cls (.ref C)=some true/\∀a,H' a=none->ts (sufE D i) (σ.set i (some (.ref a))) (upd H' a (excO cls a od)))\/(W.exmOne K cls (.ref C)=some false/\th D σ cls od H')
def hNil:TH:=fun _ _ _ _ _=>False
theorem c4N:PH X [] hNil:=fun _ _ _ _ _ _ _ _ _ _ _ _ _ z=>z.elim
theorem c6J (hg:Gl X y)(hm:X.mg y=some (.ref C))(nd:X.N.Nodup)(hi:X.N[i]? =some n)(hl:X.env.scope.names.lookup n=some .local)(hs':∀ev,PSs (X.marked ev) (b₀::suite) ts)(hr:PH X hs th)
  (hd:(y == ("__debug__":Str))=false:=by decide):PH X (.ExceptHandler (some (.Name y np)) (some n) (b₀::suite) hpos::hs) (hAs X.K C i ts th):=by
 intro pins σ H' s5 a t cls od B D land fl5 new q
 have J5:=land _ fl5 (Heap.UpToSlots.refl _)
 obtain⟨oe,_,he,hc,_⟩:=fl5.obj
 have LT:∀M,W.Looks M s5.heap (typeOf (.ref a)) cls:=fun M=>hc▸(W.Looks.ld he).andThen .now
 refine wpAny_handleBy_cons (codeAny_handlers_test (zV (X:=X.marked (.ref a)) (J5.marked _) hg hm ?_ hd)) (by intro z;cases z)
 rcases q with ⟨hexm,q⟩ | ⟨hexm,q⟩
 ·refine W.exm_one (K:=X.K) J5.kIn (LT _) hexm _ _ _ _ (fun _ _ z=>z) ?_
  refine codeAny_handlers_suite_as ?_
  refine b5V fl5 fun h6 fl6 sm6=>?_
  have J6:=land _ fl6 sm6
  refine a5J (X:=X.marked (.ref a)) (J6.marked _) nd hi (.inl hl) (v:= .ref a) rfl (fun s7 J7=>?_) (.inr hl)
  refine YQ (hs' (.ref a) pins s7 _ _ (sufE D i) J7 (q a new)) (fun f s8 hf=>?_) (fun _ _ z=>False.elim z)
  cases f with
  |next=>obtain⟨σ',H8,J8,q8⟩:=hf;exact unbound (J8.unmarked J5.ok) nd hi hl fun s9 J9=>⟨_,H8,J9,q8⟩
  |brk=>obtain⟨σ',H8,J8,q8⟩:=hf;exact unbound (J8.unmarked J5.ok) nd hi hl fun s9 J9=>⟨_,H8,J9,q8⟩
  |cont=>obtain⟨σ',H8,J8,q8⟩:=hf;exact unbound (J8.unmarked J5.ok) nd hi hl fun s9 J9=>⟨_,H8,J9,q8⟩
  |ret u=>obtain⟨v,σ',H8,J8,r8,q8⟩:=hf;exact unbound (J8.unmarked J5.ok) nd hi hl fun s9 J9=>⟨v,_,H8,J9,r8,q8⟩
 ·refine W.exm_one (K:=X.K) J5.kIn (LT _) hexm _ _ _ _ (fun _ _ z=>z) ?_
  exact hr pins σ H' s5 a t cls od B D land fl5 new q
def tTryH (tb:St->XK->TS)(th:TH):TS:=fun D σ H=>tb σ (fun cls od H1=>th D σ cls od H1) D σ H
theorem c2G {body:List Stmt}{h₀:ExceptHandler}{tb:St->XK->TS}(hb:∀pins0 σ0 EX,PSs (X.tried pins0 σ0 EX) body (tb σ0 EX))(hh:PH X (h₀::hs) th)(hstk:X.stack=X.env::X.outer)(hfr:X.env.frame=some X.env.locals) :
  PS X (.Try body (h₀::hs) [] [] pos) (tTryH tb th):=by
 intro pins s σ H D I hw
 refine wpAny_Try_except ?_
 refine YQ (hb pins σ _ [] s σ H D (I.pinUp.wish _) hw) (fun f s1 hf=>?_) (fun ev s2 hq=>?_)
 ·cases f with
  |next=>obtain⟨σ',H8,J8,q8⟩:=hf;exact wpAny_execs_nil ⟨σ',H8,J8.unwish.pinDown,q8⟩
  |brk=>obtain⟨σ',H8,J8,q8⟩:=hf;exact⟨σ',H8,J8.unwish.pinDown,q8⟩
  |cont=>obtain⟨σ',H8,J8,q8⟩:=hf;exact⟨σ',H8,J8.unwish.pinDown,q8⟩
  |ret u=>obtain⟨v,σ',H8,J8,r8,q8⟩:=hf;exact⟨v,σ',H8,J8.unwish.pinDown,r8,q8⟩
 ·obtain⟨pins1,H1,s1,I1,a,t,cls,od,H',B,rfl,F,q⟩:=hq
  have I1':=I1.pinDown
  have fr:X.A.frames=some (X.env::X.outer):=by rw[I1'.ok.frames,hstk]
  refine b2Y fr hfr (hstk▸F.fly) fun h4 held4 sm4=>?_
  refine b6Q held4 fun h5 fl5 sm5=>?_
  have fl5':FlyD B X.stack a cls (.ref t) od h5:=hstk▸fl5
  exact hh pins σ H' _ a t cls od B D (fun h6 fl6 sm6=>land (s':=s2) I1' F fl6 ((sm4.trans sm5).trans sm6)) fl5' F.new q
end
end L2

/-! own classes and some list methods,as readings that compute -/
namespace L2
open PySem PySem.Spec PyProof.Rows
section
variable {X:Cx}{o e value:Expr}{es:List Expr}{to ta tv:TE}{t:TA}{apos cpos pos pos':Pos}{C:Addr}{f m:Str}
/-! ### xs.clear(),xs.pop(i) -/
/-! ### fields of an instance of the class at C -/
def dFld (C:Addr)(ta:TE)(f:Str):TE:=fun σ H Q=>ta σ H fun x H1=>vR x fun a=>∃dx fs v,H1 a=some (.ins C dx fs)/\fs.lookup f=some v/\Q v H1
theorem fD (c:Cls X.K C)(n:NoAttr X.K C f)(he:PE X e ta)(hb:attributeBase e f X.env (eval e X.env)=eval e X.env:=by rfl):PE X (.Attribute e f pos) (dFld C ta f):=
 (c4O (gD he) hb).imp fun σ H Q h=>⟨_,h,fun x H1 q=>by
  obtain⟨a,rfl,dx,fs,v,h1,h2,h3⟩:=vR.ex q
  exact⟨a,C,dx,fs,v,rfl,h1,c,n,h2,h3⟩⟩
def dSet (C:Addr)(ta tv:TE)(f:Str):TS:=fun D σ H=>tv σ H fun y H1=>ta σ H1 fun x H2=>vR x fun a=>∃dx fs,H2 a=some (.ins C dx fs)/\fs.length<1000/\D.nx σ (upd H2 a (.ins C dx (putF f y fs)))
theorem jF (c:Cls X.K C)(n:NoAttr X.K C f)(ha:PE X o ta)(hv:PE X value tv)(hs:swapsWith value (some (.Attribute o f pos')) pos.line X.env=pure false:=by rfl) :
  PS X (.Assign [.Attribute o f pos'] value pos) (dSet C ta tv f):=
 (c4M (gD ha) (gD hv) hs).imp fun D σ H h=>⟨_,h,fun y H1 q=>⟨_,q,fun x H2 q2=>by
  obtain⟨a,rfl,dx,fs,h1,h2,h3⟩:=vR.ex q2
  exact⟨a,C,dx,fs,rfl,h1,c,n,h2,h3⟩⟩⟩
/-! ### o.m(..) -/
variable {CX:CXT}{k:Nat}{fa:Addr}{fd:FuncData}{ps:List Str}{sp:Sp}{dvs:List V}{ds:List Value}{E:XK}
def dMeth (C:Addr)(m:Str)(sp:Sp)(dvs:List V)(E:XK)(ta:TE)(t:TA):TE:=fun σ H Q=>ta σ H fun x H1=>vR x fun a=>(∃dx fs,H1 a=some (.ins C dx fs)/\fs.lookup m=none)/\t σ H1 fun vs H2=>sp (.ref a::(vs++dvs)) H2 Q E
theorem eG {pl:Sem Bool}(c:Cls X.K C)(hm:Meth X.K C m fa)(F:FnOk X.prog X.w X.K X.mg X.base CX k fa fd ps sp)(hr:Room k X.A)(hb:Binds X.K fd ps ds)(hd:Vals dvs ds)(hx:Passes CX X E)(he:PE X o ta)(ha:PA X (e::es) t)
  (hst:starEach (e::es) X.env=(false,eval e X.env)::starEach es X.env:=by rfl) (hpl:(backTo pos (starEach es X.env)).any (·.1)=false:=by rfl)
  (ht:eval (.Call (.Attribute o m apos) (e::es) [] pos) X.env=(do
   let ov<-eval o X.env
   standAt apos.atName
   let (f,first)<-holding [ov] (getMethod ov m pl)
   callWith pos f first (backTo pos (starEach (e::es) X.env)) (backToKw pos (keywordEach [] X.env))):=by rfl) :
  PE X (.Call (.Attribute o m apos) (e::es) [] pos) (dMeth C m sp dvs E ta t):=
 (c2M (pl:=pl) (gD he) c hm F hr hb hd hx (zQ ha) hst hpl ht).imp fun σ H Q h=>⟨_,h,fun x H1 q=>by
  obtain⟨a,rfl,⟨dx,fs,h1,h2⟩,h3⟩:=vR.ex q
  exact⟨a,dx,fs,rfl,h1,h2,_,h3,fun vs H2 z=>z⟩⟩
theorem qH {pl:Sem Bool}(c:Cls X.K C)(hm:Meth X.K C m fa)(F:FnOk X.prog X.w X.K X.mg X.base CX k fa fd ps sp)(hr:Room k X.A)(hb:Binds X.K fd ps ds)(hd:Vals dvs ds)(hx:Passes CX X E)(he:PE X o ta)
  (ht:eval (.Call (.Attribute o m apos) [] [] pos) X.env=(do
   let ov<-eval o X.env
   standAt apos.atName
   let (f,first)<-holding [ov] (getMethod ov m pl)
   callWith pos f first (backTo pos (starEach [] X.env)) (backToKw pos (keywordEach [] X.env))):=by rfl) :
  PE X (.Call (.Attribute o m apos) [] [] pos) (dMeth C m sp dvs E ta tNil):=
 (b9Z (pl:=pl) (gD he) c hm F hr hb hd hx ht).imp fun σ H Q h=>⟨_,h,fun x H1 q=>by
  obtain⟨a,rfl,⟨dx,fs,h1,h2⟩,h3⟩:=vR.ex q
  exact⟨a,dx,fs,rfl,h1,h2,h3⟩⟩
end
end L2

/-! x in xs,x not in xs,xs.index(x),by data;xs.count(t) of a list of texts -/
namespace L2
open PySem PySem.Spec PyProof.Rows
section
variable {X:Cx}
end
/-! ### pairs of whole numbers -/
section
variable {X:Cx}
end
end L2
namespace L2
open PySem
end L2

namespace L2
open PySem
/-- a tuple of whole numbers that the module holds -/
def TupK (K:W.Frag)(a:Addr)(ns:List Int):Prop:=∃(o:Obj)(its:Array Value)(n:Nat),K.lookup a=some o/\o.cls= .type "tuple"/\o.data= .seq its n/\its.size<=sizeLine/\Vals (ns.map V.int) its.toList
theorem TupK.of {K:W.Frag}{a:Addr}{od:Option Addr}{sl:Array (Option Value)}{n:Nat}{its:Array Value}{ns:List Int}(h:K.lookup a=some ⟨.type "tuple",od,.seq its n,sl⟩)(hs:its.size<=sizeLine)(hv:Vals (ns.map V.int) its.toList):TupK K a ns:=⟨_,its,n,h,rfl,rfl,hs,hv⟩
theorem TupK.sq {K:W.Frag}{a:Addr}{ns:List Int}(h:TupK K a ns)(H:Hp):SqT K H a (ns.map V.int):= .inr h
end L2

/-! rows that are never reached;slices of any list -/
namespace L2
open PySem PySem.Spec PyProof.Rows
theorem a9C {X:Cx}{s:Stmt}:PS X s (fun _ _ _=>False):=fun _ _ _ _ _ _ h=>h.elim
theorem b8S (xs:List V)(a:Nat):cutV xs none (some (a:Int))=xs.take a:=by
 unfold cutV
 rw[HT.sIx_nat,HT.sIx_none,List.drop_zero,Nat.sub_zero]
 by_cases h:a<=xs.length
 ·rw[XH h]
 ·rw[Nat.min_eq_right (by omega),YD (Ye _),YD (by omega)]
theorem a3D {xs:List V}{a:Nat}(h:a<=xs.length):cutV xs (some (a:Int)) none=xs.drop a:=by
 unfold cutV
 rw[HT.sIx_nat,HT.sIx_none,XH h,YD (by rw[Xm];omega)]
end L2
namespace L2
open PySem PySem.Spec PyProof.Rows
end L2

/-! xs.count(k),xs a list of whole numbers -/
namespace L2
open PySem PySem.Spec PyProof.Rows
section
variable {X:Cx}{o e:Expr}{to:TE}{t:TA}{apos cpos:Pos}
end
end L2
namespace L2
open PySem PySem.Spec PyProof.Rows
section
variable {X:Cx}{o e:Expr}{to:TE}{t:TA}{apos cpos:Pos}
end
end L2

/-! xs.index(k),xs a list of whole numbers -/
namespace L2
open PySem PySem.Spec PyProof.Rows
section
variable {X:Cx}{o e:Expr}{to:TE}{t:TA}{apos cpos:Pos}
end
end L2

/-! xs.count(True),xs.index(True),xs a list of truths -/
namespace L2
open PySem PySem.Spec PyProof.Rows PySem.MeetsSeq PySem.SeqAt
def isB (k:Bool):Value->Bool
 |.bool b=>b == k
 |_=>false
theorem c6F {bs:List Bool}:∀{us:List Value},Vals (bs.map V.bl) us->us=bs.map Value.bool:=by
 induction bs with
 |nil=>intro us r;rw[List.map_nil]at r;cases r;rfl
 | cons b bs ih=>
  intro us r
  rw[Yo]at r
  cases r with
  | cons r1 r2=>
   rw[ih r2]
   obtain rfl:=r1
   rfl
theorem eqB (k:Bool){bs:List Bool}(A:Around)(s:Shared):∀y,y∈bs.map Value.bool->EqAt A s y (.bool k) (isB k y):=fun y hy=>by
 obtain⟨b,_,rfl⟩:=Xw.mp hy
 exact EqAt.bool_bool b k
theorem c7I (k:Bool):∀bs:List Bool,(bs.map Value.bool).countP (isB k)=bs.count k
 |[]=>rfl
 | b::bs=>by
  rw[Yo,List.countP_cons,List.count_cons,c7I k bs]
  rfl
section
variable {X:Cx}{o e:Expr}{to:TE}{t:TA}{apos cpos:Pos}
def rCountB:V->List V->Hp->VK->Prop:=fun x vs H Q=>∃(l:Addr)(bs:List Bool)(k:Bool),x= .ref l/\vs= [.bl k]/\H l=some (.lst (bs.map V.bl))/\Q (.int (bs.count k:Nat)) H
theorem b7Y:MtM X "list.count" rCountB:=by
 intro pins s σ H x vs v us Q I rx rv h
 obtain⟨l,bs,k,rfl,rfl,hH,q⟩:=h
 cases rx
 obtain⟨u,rfl,ru⟩:=rv.one
 obtain rfl:u=Value.bool k:=ru
 obtain⟨z,its,n,r,hl,e⟩:=I.lstM hH
 have ei:=c6F r
 subst ei
 refine XJ PySem.F.slot_list_count ⟨_,e,rfl⟩ PySem.F.entry_list_count (PySem.F.args_list_count_2 _ _) (list_countAt l _ n none #[] (.bool k) (isB k)) ⟨e,fun y hy=>eqB k _ _ y (by simpa using hy),?_⟩
 rw[show ((bs.map Value.bool).toArray.toList.countP (isB k))=bs.count k from by rw[show (bs.map Value.bool).toArray.toList=bs.map Value.bool from rfl,c7I]]
 exact⟨.int (bs.count k:Nat),H,I.tok _,⟨_,rfl⟩,q⟩
def dCountB (to:TE)(t:TA):TE:=fun σ H Q=>to σ H fun x H1=>vR x fun l=>(∃xs,H1 l=some (.lst xs))/\t σ H1 fun vs H2=>l1 vs fun y=>vB y fun k=>∃bs:List Bool,H2 l=some (.lst (bs.map V.bl))/\Q (.int (bs.count k:Nat)) H2
theorem b8C (ho:PE X o to)(ha:PA X [e] t)(hbase:attributeBase o "count" X.env (eval o X.env)=eval o X.env:=by rfl)
  (hfew:((backTo cpos (starEach [e] X.env)).all (fun x=>!x.1) && (backToKw cpos (keywordEach [] X.env)).all (fun x=>x.1.isSome)
   && decide (([e]:List Expr).length+([]:List Keyword).length+(if ([]:List Keyword).isEmpty then 0 else 1)<30))=true:=by rfl)
  (hline:(apos.endLine == cpos.line)=true:=by rfl) (hs:starEach [e] X.env=(false,eval e X.env)::starEach [] X.env:=by rfl) (hplain:(backTo cpos (starEach [] X.env)).any (·.1)=false:=by rfl) :
  PE X (.Call (.Attribute o "count" apos) [e] [] cpos) (dCountB to t):=
 (b1L Xu PySem.F.slot_list_count PySem.F.type_list_count b7Y (gD ho) (zQ ha) hbase hfew hline hs hplain).imp fun σ H Q h=>⟨_,h,fun x H1 q=>by
  obtain⟨l,rfl,⟨xs,q1⟩,q2⟩:=vR.ex q
  refine⟨.inl ⟨rfl,xs,SqL.of q1⟩,_,q2,fun vs H2 q3=>?_⟩
  obtain⟨y,rfl,q3⟩:=l1.ex q3
  obtain⟨k,rfl,bs,h1,h2⟩:=vB.ex q3
  exact⟨l,bs,k,rfl,rfl,h1,h2⟩⟩
end
end L2

/-! max(xs,default=d),xs a list of ints -/
namespace L2
open PySem PySem.Spec PyProof.Rows
set_option maxRecDepth 100000
section
variable {prog:Program}{w:World}{A:Around}{I:Addr}{fp wr:List Addr}{n:Nat}{P:Nat->Value->Prop}{St:Nat->Heap->Prop}{d:Value}
end
section
variable {prog:Program}{w:World}{A:Around}{E:Value->Shared->Prop}{s:Shared}
end
section
variable {X:Cx}
end
end L2

/-! for a,b in enumerate(xs) -/
namespace L2
open PySem PySem.Spec PyProof.Rows
section
variable {X:Cx}{pins:List (Addr×Obj)}{σ:St}{H:Hp}{s:Shared}
end
section
variable {X:Cx}
end
end L2

/-! list(range(a,b,c)) -/
namespace L2
open PySem PySem.Spec PyProof.Rows
section
variable {X:Cx}
def dListR (t:TA):TE:=fun σ H Q=>t σ H fun vs H1=>l3 vs fun x y z=>vI x fun i=>vI y fun j=>vI z fun c=>c≠0/\Builtin.divisionGoesByPylong (j-i) c=false/\∃n:Nat,Builtin.Range.small i j c=true/\Builtin.Range.rangeSize i j c=(n:Int)/\n<=1000/\
 ∀p,H1 p=none->Q (.ref p) (upd H1 p (.lst ((List.range n).map fun k=>V.int (i+((k:Nat):Int)*c))))
theorem b1B {i c:Int}{acc:Array Value}{n:Nat}(h:ItemsOf (fun k v=>∃t,v=Value.int (i+((k:Nat):Int)*c) t) acc n):Vals ((List.range n).map fun k=>V.int (i+((k:Nat):Int)*c)) acc.toList:=by
 have key:∀(us:List Value)(f:Nat->Int),(∀j v,us[j]? =some v->∃t,v=Value.int (f j) t)->Vals ((List.range us.length).map fun k=>V.int (f k)) us:=by
  intro us
  induction us with
  |nil=>intro f _;exact .nil
  | cons u r ih=>
   intro f hf
   have h0:=hf 0 u rfl
   have hr:=ih (fun k=>f (k+1)) fun j v hv=>hf (j+1) v (by simpa using hv)
   rw[Ys,List.range_succ_eq_map,Yo,List.map_map]
   exact .cons h0 hr
 have hs:acc.toList.length=n:=by rw[Array.length_toList];exact h.1
 have:=key acc.toList (fun k=>i+((k:Nat):Int)*c) fun j v hv=>h.2 j v (by rwa [Array.getElem?_toList]at hv)
 rwa [hs]at this
theorem b5O {a b c:Expr}{ta:TA}{p p2 pos pos2:Pos}(hcalm:X.calm=true)(hgl:Gl X "list")(hml:X.mg "list"=none)(hg:Gl X "range")(hm:X.mg "range"=none)(ha:PA X [a,b,c] ta)
  (hs:starEach [a,b,c] X.env=(false,eval a X.env)::starEach [b,c] X.env:=by rfl) (hs2:(backTo pos2 (starEach [b,c] X.env)).any (·.1)=false:=by rfl)
  (ho:starEach [.Call (.Name "range" p2) [a,b,c] [] pos2] X.env= [(false,eval (.Call (.Name "range" p2) [a,b,c] [] pos2) X.env)]:=by rfl) :
  PE X (.Call (.Name "list" p) [.Call (.Name "range" p2) [a,b,c] [] pos2] [] pos) (dListR ta):=by
 intro pins s σ H Q I h
 refine Xc (a2A I hgl hml a6J ?_)
 refine YZ ?_ ho rfl
 rw[ho]
 refine XT (Call_ (a2A I hg hm boot_range (YZ (thn (ha pos2 pins s σ H _ I h) fun us s1 hz9=>?_) hs hs2)))
 obtain⟨vs,H1,I1,r1,q1⟩:=hz9
 obtain⟨x,y,z,rfl,q2⟩:=l3.ex q1
 obtain⟨i,rfl,q3⟩:=vI.ex q2
 obtain⟨j,rfl,q4⟩:=vI.ex q3
 obtain⟨k,rfl,hc,hp,n,hsm,hn,hle,q⟩:=vI.ex q4
 cases r1 with
 | cons r rr=>
  cases rr with
  | cons r' rr=>
   cases rr with
   | cons r'' rr=>
    cases rr
    obtain⟨t,rfl⟩:=r
    obtain⟨t',rfl⟩:=r'
    obtain⟨t'',rfl⟩:=r''
    refine call_range_3 hc ?_ (.inl hp)
    refine Calls.spliced_nil ?_
    refine call_list_range (I.ok.hd hcalm) (IsRange.new ..) hsm hn (Yn hle (by decide)) fun h' tk acc c' kept hl items=>?_
    have I2:Inv X pins σ H1 { s1 with heap:=s1.heap.push { cls:= .type "range",data:= .fields #[.int i t,.int j t',.int k t''] } }:=I1.kept (t':=s1.toks) fun b o e=>Yd _ e
    refine⟨.ref _,_,I2.laid (t':=tk) (a:=(s1.heap.push { cls:= .type "range",data:= .fields #[.int i t,.int j t',.int k t''] }).objs.size) (o:= .lst ((List.range n).map fun k'=>V.int (i+((k':Nat):Int)*k))) kept (Ye _) ?_,rfl,q _ ?_⟩
    ·refine⟨?_,acc.toList,c',b1B items,?_⟩
     ·rw[Ya,List.length_range];exact Xl (a7C hle)
     ·simpa using hl
    ·exact I2.hok.fresh (Ye _)
end
end L2

/-! a long list of written numbers -/
namespace L2
open PySem PySem.Spec PyProof.Rows
section
variable {X:Cx}{es:List Expr}{t:TA}
end
end L2

/-! C.m(x, ..) of a class,and fields and methods of an object of a class that is not fixed -/
namespace L2
open PySem PySem.Spec PyProof.Rows
section
variable {X:Cx}{o e value:Expr}{es:List Expr}{to ta tv:TE}{t:TA}{apos cpos pos pos':Pos}{C:Addr}{f m:Str}
variable {CX:CXT}{k:Nat}{fa:Addr}{fd:FuncData}{ps:List Str}{sp:Sp}{dvs:List V}{ds:List Value}{E:XK}
/-! ### a class that is not fixed -/
end
end L2

/-! o.m(..) in a try's body,where m may raise -/
namespace L2
open PySem PySem.Spec PyProof.Rows
section
variable {X:Cx}{o e:Expr}{es:List Expr}{ta:TE}{t:TA}{apos pos:Pos}{C:Addr}{m:Str}
variable {k:Nat}{fa:Addr}{fd:FuncData}{ps:List Str}{sp:Sp}{dvs:List V}{ds:List Value}
def dMethT (C:Addr)(m:Str)(sp:Sp)(dvs:List V)(σ0:St)(EX:XK)(ta:TE)(t:TA):TE:=fun σ H Q=>ta σ H fun x H1=>vR x fun a=>(∃dx fs,H1 a=some (.ins C dx fs)/\fs.lookup m=none)/\t σ H1 fun vs H2=>σ=σ0/\sp (.ref a::(vs++dvs)) H2 Q EX
theorem c0N {pins0:List (Addr×Obj)}{σ0:St}{EX:XK}{pl:Sem Bool}(c:Cls X.K C)(hm:Meth X.K C m fa)(F:FnOk X.prog X.w X.K X.mg X.base (CXR X.prog X.w) k fa fd ps sp)(hr:Room k X.A)(hb:Binds X.K fd ps ds)(hd:Vals dvs ds)(he:PE (X.tried pins0 σ0 EX) o ta)(ha:PA (X.tried pins0 σ0 EX) (e::es) t)
  (hst:starEach (e::es) X.env=(false,eval e X.env)::starEach es X.env:=by rfl) (hpl:(backTo pos (starEach es X.env)).any (·.1)=false:=by rfl)
  (ht:eval (.Call (.Attribute o m apos) (e::es) [] pos) X.env=(do
   let ov<-eval o X.env
   standAt apos.atName
   let (f,first)<-holding [ov] (getMethod ov m pl)
   callWith pos f first (backTo pos (starEach (e::es) X.env)) (backToKw pos (keywordEach [] X.env))):=by rfl) :
  PE (X.tried pins0 σ0 EX) (.Call (.Attribute o m apos) (e::es) [] pos) (dMethT C m sp dvs σ0 EX ta t):=by
 intro pins s σ H Q I h
 refine W.methodCall_KW (pl:=pl) (thn (he pins s σ H _ I h) fun u s1 hz9=>?_) ht
 obtain⟨x,H1,I1,rx,q⟩:=hz9
 obtain⟨a,rfl,⟨dx,fs,ea,l⟩,q⟩:=vR.ex q
 obtain rfl:u=Value.ref a:=rx
 refine zW (X:=X.tried pins0 σ0 EX) I1 ea c hm l ?_
 refine W.callWith_K (first:=[.ref a]) (h₀:=X.base) I.ok.mod.kin hm.kp (thn (ha pos pins s1 σ H1 _ I1 q) fun us s2 ⟨vs,H2,I2,r,eσ,q2⟩=>⟨I2.kIn,?_⟩) hst hpl
 subst eσ
 have r2:Vals (.ref a::(vs++dvs)) (.ref a::(us++ds)):= .cons rfl (r.append hd)
 have hl:(Value.ref a::us++ds).length=ps.length:=by rw[List.cons_append,<-r2.length];exact F.len _ _ _ _ q2
 refine XI (XE (F.run X.A X.stack s2 H2 ⟨.ref a::us, []⟩ (.ref a::(us++ds)) (.ref a::(vs++dvs)) Q EX hr I2.env0 (hb s2 (.ref a::us) I2.kIn hl) r2 q2) fun r s' hq=>?_)
 cases r with
 |error ev=>exact⟨pins,H2,s2,I2.unwish,hq⟩
 | ok fl=>
  cases fl with
  |ret u=>exact I2.after hq
  |next=>exact False.elim hq
  |brk=>exact False.elim hq
  |cont=>exact False.elim hq
end
end L2

/-! posts:methods by the object's class,a class with no __init__,a list or a tuple walked,a constructor that may raise in a try's body -/
namespace L2
open PySem PySem.Spec PyProof.Rows
/-! ### a list or a tuple -/
section
variable {X:Cx}{tg:Expr}
def dSeq (K:W.Frag)(tl:TE):TI:=fun σ H R=>tl σ H fun x H1=>vR x fun a=>((∃xs,SqL K H1 a xs)/\R (Itl K a) H1)\/((∃xs,SqT K H1 a xs)/\R (Itt K a) H1)
theorem c4Y {l:Expr}{tl:TE}(hl:PE X l tl):PI X tg l (dSeq X.K tl):=by
 intro pins s σ H R I h
 refine thn (hl pins s σ H _ I h) fun v s1 hz9=>?_
 obtain⟨x,H1,I1,r1,q1⟩:=hz9
 obtain⟨a,e,q⟩:=vR.ex q1
 subst e
 cases r1
 rcases q with ⟨⟨xs,hq⟩,q⟩ | ⟨⟨xs,hq⟩,q⟩
 ·obtain⟨its,rv,p,hz⟩:=I1.list hq
  refine wpAny_pyIter_list p.isList ?_
  refine⟨s1.heap.objs.size, [s1.heap.objs.size],_,_,H1,rfl,I1.kept (t':=s1.toks) fun b o e=>Yd _ e,b1J a _,⟨_,YB _ rfl,rfl,rfl⟩,fun b hb=>?_,q⟩
  have e:b=s1.heap.objs.size:=by simpa using hb
  subst e
  exact I1.fpOk (Ye _) (I1.hok.fresh (Ye _))
 ·obtain⟨its,rv,p,hz⟩:=I1.tuple hq
  refine wpAny_pyIter_tuple (show s1.heap.IsTuple a its.toArray from p) ?_
  refine⟨s1.heap.objs.size, [s1.heap.objs.size],_,_,H1,rfl,I1.kept (t':=s1.toks) fun b o e=>Yd _ e,b5I a _,⟨_,YB _ rfl,rfl,rfl⟩,fun b hb=>?_,q⟩
  have e:b=s1.heap.objs.size:=by simpa using hb
  subst e
  exact I1.fpOk (Ye _) (I1.hok.fresh (Ye _))
end
theorem c1O {K:W.Frag}{a:Addr}{xs:List V}{tt:TT}{te:TE}{σc:V->St}{H:Hp}{Q:VK}(Pv:Nat->List V->Hp->Prop)(hn:∀i ys H,i<=xs.length->Pv i ys H->ys.length<sizeLine)(h0:Pv 0 [] H)
  (hl:∀i ys H,i<=xs.length->Pv i ys H->SqT K H a xs)
  (hs:∀i x ys H,xs[i]? =some x->Pv i ys H->tt (σc x) H fun b H3=>if b=true then te (σc x) H3 fun y H4=>Pv (i+1) (ys++[y]) H4 else Pv (i+1) ys H3)
  (hd:∀ys H,Pv xs.length ys H->∀p,H p=none->Q (.ref p) (upd H p (.lst ys))):cWord (Itt K a) tt te σc H Q:=by
 refine⟨fun i m ys H=>m=xs.length-i/\i<=xs.length/\Pv i ys H,⟨xs.length,by simp,YO _,h0⟩,?_⟩
 rintro i m ys H ⟨rfl,hi,p⟩
 have q:=hl i ys H hi p
 refine⟨hn i ys H hi p,?_⟩
 by_cases hlt:i<xs.length
 ·refine .inr ⟨⟨xs,xs[i],q,by simp[hlt]⟩,Pv (i+1),fun ys' H' q=>⟨xs.length-(i+1),by omega,rfl,hlt,q⟩,fun x H' y=>?_⟩
  obtain⟨e,y⟩:=y
  subst e
  exact hs i x ys _ (y xs q) p
 ·have e:i=xs.length:=by omega
  subst e
  exact .inl ⟨⟨xs,q,Ye _⟩,hd ys H p⟩
/-- by either -/
theorem c1P {K:W.Frag}{a:Addr}{xs:List V}{tt:TT}{te:TE}{σc:V->St}{H:Hp}{Q:VK}(h:SqA K H a xs)(Pv:Nat->List V->Prop)(hn:∀i ys,i<=xs.length->Pv i ys->ys.length<sizeLine)(h0:Pv 0 [])
  (hs:∀i x ys,xs[i]? =some x->Pv i ys->tt (σc x) H fun b H3=>if b=true then te (σc x) H3 fun y H4=>Pv (i+1) (ys++[y])/\H4=H else Pv (i+1) ys/\H3=H)
  (hd:∀ys,Pv xs.length ys->∀p,H p=none->Q (.ref p) (upd H p (.lst ys))):((∃xs,SqL K H a xs)/\cWord (Itl K a) tt te σc H Q)\/((∃xs,SqT K H a xs)/\cWord (Itt K a) tt te σc H Q):=by
 rcases h with h | h
 ·refine .inl ⟨⟨_,h⟩,pZ (xs:=xs) (fun i ys H'=>Pv i ys/\H'=H) (fun i ys H' hi z=>hn i ys hi z.1) ⟨h0,rfl⟩ (fun i ys H' hi z=>by rw[z.2];exact h) ?_ ?_⟩
  ·rintro i x ys H' hx ⟨z,rfl⟩
   exact hs i x ys hx z
  ·rintro ys H' ⟨z,rfl⟩
   exact hd ys z
 ·refine .inr ⟨⟨_,h⟩,c1O (xs:=xs) (fun i ys H'=>Pv i ys/\H'=H) (fun i ys H' hi z=>hn i ys hi z.1) ⟨h0,rfl⟩ (fun i ys H' hi z=>by rw[z.2];exact h) ?_ ?_⟩
  ·rintro i x ys H' hx ⟨z,rfl⟩
   exact hs i x ys hx z
  ·rintro ys H' ⟨z,rfl⟩
   exact hd ys z
/-! ### o.m(..),m by the class of o -/
section
variable {X:Cx}{o e value:Expr}{es:List Expr}{to ta tv:TE}{t:TA}{apos cpos pos pos' p:Pos}{C:Addr}{f m x:Str}
variable {CX:CXT}{k:Nat}{fa:Addr}{fd:FuncData}{ps:List Str}{sp:Sp}{dvs:List V}{ds:List Value}{E:XK}{R:Addr->Sp->Prop}
/-! ### C() where there is no __init__ -/
/-! ### C(..) in a try's body,where __init__ may raise -/
end
end L2
namespace L2
open PySem
theorem Room.mo {j k:Nat}{A:Around}(r:Room k A)(h:j<=k:=by decide):Room j A:=r.mono h
end L2

/-! xs.insert(i,x) -/
namespace L2
open PySem PySem.Spec PyProof.Rows
section
variable {X:Cx}{o e e2:Expr}{to:TE}{t:TA}{apos cpos:Pos}
def rInsert:V->List V->Hp->VK->Prop:=fun x vs H Q=>∃(l:Addr)(xs:List V)(k:Nat)(i:Int)(y:V),x= .ref l/\vs= [.int i,y]/\i=((k:Nat):Int)/\H l=some (.lst xs)/\k<=xs.length/\xs.length<sizeLine/\k<2 ^ 62/\Q .non (upd H l (.lst (xs.take k++y::xs.drop k)))
theorem fits {i:Int}(k:Nat)(e:i=((k:Nat):Int))(h:k<2 ^ 62):¬ (!Builtin.List.listFitsIndex i)=true:=by
 have h2:i<2 ^ 63:=by
  have:((2 ^ 62:Nat):Int)=2 ^ 62:=by decide
  omega
 rw[fitsIndex_both (by omega) h2]
 decide
theorem b7X:MtM X "list.insert" rInsert:=by
 intro pins s σ H x vs v us Q I rx rv h
 obtain⟨l,xs,k,i,y,rfl,rfl,hi,hH,hk,hz,hbig,q⟩:=h
 cases rx
 obtain⟨u0,u,rfl,r1,ru⟩:=rv.two
 obtain⟨t,rfl⟩:=r1
 obtain⟨z,its,n,r,hl,e⟩:=I.lstM hH
 have hs:its.toArray.size<=sizeLine:=by rw[Yl,<-hl];exact Xl hz
 have hf:=fits k hi hbig
 have hm:=AutoSeq1.list_insert_list_int_val_1 l its.toArray n i t u hf hs
 refine XJ F.slot_list_insert ⟨_,e,rfl⟩ F.entry_list_insert (F.args_list_insert_3 _ _ _) hm ⟨e,?_⟩
 have hki:k<=its.length:=by omega
 refine⟨.non,_,I.lset (its':=its.take k++u::its.drop k) hH e ?_ ?_ ?_,rfl,q⟩
 ·show (its.toArray.extract 0 (if i<0 then (i+(its.toArray.size:Int)).toNat else min i.toNat its.toArray.size)).push u++its.toArray.extract (if i<0 then (i+(its.toArray.size:Int)).toNat else min i.toNat its.toArray.size)=(its.take k++u::its.drop k).toArray
  have hik:i.toNat=k:=by omega
  rw[if_neg (by omega),hik,Yl,XH hki]
  apply Array.toList_inj.mp
  simp[YD]
 ·exact(r.take k).append (.cons ru (r.drop k))
 ·rw[Yj,Ys,YT,Xm]
  omega
def dInsert (K:W.Frag)(to:TE)(t:TA):TE:=fun σ H Q=>to σ H fun x H1=>vR x fun l=>(∃xs,SqL K H1 l xs)/\t σ H1 fun vs H2=>l2 vs fun a y=>∃(k:Nat)(xs:List V),a= .int ((k:Nat):Int)/\H2 l=some (.lst xs)/\k<=xs.length/\xs.length<sizeLine/\k<2 ^ 62/\Q .non (upd H2 l (.lst (xs.take k++y::xs.drop k)))
theorem b8B (ho:PE X o to)(ha:PA X [e,e2] t)(hbase:attributeBase o "insert" X.env (eval o X.env)=eval o X.env:=by rfl)
  (hfew:((backTo cpos (starEach [e,e2] X.env)).all (fun x=>!x.1) && (backToKw cpos (keywordEach [] X.env)).all (fun x=>x.1.isSome)
   && decide (([e,e2]:List Expr).length+([]:List Keyword).length+(if ([]:List Keyword).isEmpty then 0 else 1)<30))=true:=by rfl)
  (hline:(apos.endLine == cpos.line)=true:=by rfl) (hs:starEach [e,e2] X.env=(false,eval e X.env)::starEach [e2] X.env:=by rfl) (hplain:(backTo cpos (starEach [e2] X.env)).any (·.1)=false:=by rfl) :
  PE X (.Call (.Attribute o "insert" apos) [e,e2] [] cpos) (dInsert X.K to t):=
 (b1L Xu PySem.F.slot_list_insert PySem.F.type_list_insert b7X (gD ho) (zQ ha) hbase hfew hline hs hplain).imp fun σ H Q h=>⟨_,h,fun x H1 q=>by
  obtain⟨l,rfl,q1,q2⟩:=vR.ex q
  refine⟨.inl ⟨rfl,q1⟩,_,q2,fun vs H2 q3=>?_⟩
  obtain⟨a,y,rfl,k,xs,rfl,h1,h2,h3,h4,h5⟩:=l2.ex q3
  exact⟨l,xs,k,_,y,rfl,rfl,rfl,h1,h2,h3,h4,h5⟩⟩
end
end L2

/-! texts:x.zfill(n),x.index(y),x in y,int(x) -/
namespace L2
open PySem PySem.Spec PyProof.Rows
section
variable {X:Cx}{o e:Expr}{to:TE}{t:TA}{apos cpos:Pos}
def mInS:R2:=fun x y H Q=>vS x fun i=>vS y fun j=>Q (.bl (!(Builtin.Str.occurrences j i 0 j.length 1).isEmpty)) H
theorem c6D:OpR X (compareOp .In) mInS:=b7T.imp fun x y H Q h=>by
 obtain⟨i,rfl,h1⟩:=vS.ex h
 obtain⟨j,rfl,q⟩:=vS.ex h1
 exact⟨i,j,rfl,rfl,q⟩
def mIntS:List V->Hp->VK->Prop:=fun xs H Q=>l1 xs fun x=>vS x fun z=>∃n,PySem.intText? z=some n/\z.length<=640/\Q (.int n) H
theorem a4J:CallR X (.type "int") mIntS:=by
 intro pins s σ H xs us Q I r h
 obtain⟨x,rfl,h⟩:=l1.ex h
 obtain⟨z,rfl,n,h1,h2,q⟩:=vS.ex h
 obtain⟨u,rfl,t,rfl⟩:=vals1 r
 exact W.KIN.call_text h1 h2 ⟨.int _,H,I.tok _,⟨_,rfl⟩,q⟩
def mStrI:List V->Hp->VK->Prop:=fun xs H Q=>l1 xs fun x=>vI x fun i=>i.natAbs.log2<1920/\Q (.str (toString i)) H
theorem rZ:CallR X (.type "str") mStrI:=b3J.imp fun xs H Q h=>by
 obtain⟨x,rfl,h⟩:=l1.ex h
 obtain⟨i,rfl,h1,h2⟩:=vI.ex h
 exact⟨i,rfl,h1,h2⟩
end
/-- the signs of a text,with a row to hang a word on -/
def iTextA (tl:TE):TI:=fun σ H R=>tl σ H fun x H1=>vS x fun z=>True/\R (Its z) H1
theorem b4C {X:Cx}{tg l:Expr}{tl:TE}(hl:PE X l tl):PI X tg l (iTextA tl):=(c2X (gD hl)).imp fun σ H R h=>⟨_,h,fun x H1 q=>by
 obtain⟨z,rfl,_,q2⟩:=vS.ex q
 exact q2⟩
theorem b5A {lo c:Int}{n:Nat}{tt:TT}{te:TE}{σc:V->St}{H:Hp}{Q:VK}(Pv:Nat->List V->Hp->Prop)(hn:∀i ys H,i<=n->Pv i ys H->ys.length<sizeLine)(h0:Pv 0 [] H)
  (hs:∀i ys H,i<n->Pv i ys H->tt (σc (.int (lo+i*c))) H fun b H3=>if b=true then te (σc (.int (lo+i*c))) H3 fun y H4=>Pv (i+1) (ys++[y]) H4 else Pv (i+1) ys H3)
  (hd:∀ys H,Pv n ys H->∀p,H p=none->Q (.ref p) (upd H p (.lst ys))):cWord (Itrc lo c n) tt te σc H Q:=by
 refine⟨fun i m ys H=>m=n-i/\i<=n/\Pv i ys H,⟨n,by simp,YO _,h0⟩,?_⟩
 rintro i m ys H ⟨rfl,hi,p⟩
 refine⟨hn i ys H hi p,?_⟩
 by_cases hlt:i<n
 ·refine .inr ⟨hlt,Pv (i+1),fun ys' H' q=>⟨n-(i+1),by omega,rfl,hlt,q⟩,fun x H' y=>?_⟩
  obtain⟨e,y⟩:=y
  subst e y
  exact hs i ys _ hlt p
 ·have e:i=n:=by omega
  subst e
  exact .inl ⟨Ye _,hd ys H p⟩
end L2

/-! texts:slices beyond the end,x*n,not in -/
namespace L2
open PySem PySem.Spec PyProof.Rows PySem.Builtin PySem.Builtin.Str
section
variable {X:Cx}
def mNotInS:R2:=fun x y H Q=>vS x fun i=>vS y fun j=>Q (.bl (!(!(Builtin.Str.occurrences j i 0 j.length 1).isEmpty))) H
theorem b8Z:OpR X (compareOp .NotIn) mNotInS:=b2V.imp fun x y H Q h=>by
 obtain⟨i,rfl,h1⟩:=vS.ex h
 obtain⟨j,rfl,q⟩:=vS.ex h1
 exact⟨i,j,rfl,rfl,q⟩
def mMulS:R2:=fun x y H Q=>vS x fun z=>vI y fun n=>MulOk z n/\Q (.str (Txt.mul z n)) H
theorem c3W:OpR X (binaryOp .Mult) mMulS:=by
 intro pins s σ H x y v u Q I rx ry h
 obtain⟨z,rfl,h⟩:=vS.ex h
 obtain⟨n,rfl,h1,q⟩:=vI.ex h
 obtain⟨t,rfl⟩:=(show ∃t,v=Value.str z t from rx)
 obtain⟨t2,rfl⟩:=(show ∃t,u=Value.int n t from ry)
 exact SB.mul h1 fun t' k=>⟨.str _,H,I.tok k,⟨_,rfl⟩,q⟩
theorem c0Z {z:Str}{g:TG}{tb:TS}{D:Ends}{σ:St}{H:Hp}(Pv:Nat->St->Hp->Prop)(h0:Pv 0 σ H)
  (hs:∀i c σ H,z.cps[i]? =some c->Pv i σ H->g (.str ⟨#[c]⟩) σ H fun σ2 H2=>tb { D with nx:=Pv (i+1),ct:=Pv (i+1),bk:=D.nx } σ2 H2) (hd:∀σ H,Pv z.cps.size σ H->D.nx σ H) :
  ∃ W:Nat->Nat->St->Hp->Prop,(∃m,W 0 m σ H)/\∀i m σ H,W i m σ H->
   ((Its z).stop i H/\D.nx σ H)\/((Its z).go i H/\∃N:St->Hp->Prop,(∀σ' H',N σ' H'->∃m',m'<m/\W (i+1) m' σ' H')/\∀x H',(Its z).yld i H x H'->g x σ H' fun σ2 H2=>tb { D with nx:=N,ct:=N,bk:=D.nx } σ2 H2):=by
 refine⟨fun i m σ H=>m=z.cps.size-i/\i<=z.cps.size/\Pv i σ H,⟨z.cps.size,by simp,YO _,h0⟩,?_⟩
 rintro i m σ H ⟨rfl,hi,p⟩
 by_cases hlt:i<z.cps.size
 ·refine .inr ⟨hlt,Pv (i+1),fun σ' H' p'=>⟨z.cps.size-(i+1),by omega,rfl,hlt,p'⟩,fun x H' y=>?_⟩
  obtain⟨e,c,hc,y⟩:=y
  subst e y
  exact hs i c σ _ hc p
 ·have e:i=z.cps.size:=by omega
  subst e
  exact .inl ⟨Ye _,hd σ H p⟩
end
end L2

/-! texts:text*number,long lists of written texts -/
namespace L2
open PySem PySem.Spec PyProof.Rows
section
variable {X:Cx}{es:List Expr}{t:TA}
/-- a written text,or one times a number -/
inductive TxI
 |s (x:PySem.Str) (j:Nat) (p:Pos)
 |m (x:PySem.Str) (j:Nat) (p:Pos) (n:Int) (i:Nat) (p2 p3:Pos)
def TxI.mk:TxI->Expr
 |.s x j p=> .Constant (.str x) j p
 |.m x j p n i p2 p3=> .BinOp (.Constant (.str x) j p) .Mult (.Constant (.int n) i p2) p3
def TxI.val:TxI->PySem.Str
 |.s x _ _=>x
 |.m x _ _ n _ _ _=>Txt.mul x n
def TxI.ok:TxI->Prop
 |.s .. =>True
 |.m x _ _ n _ _ _=>MulOk x n
def tTxts (ks:List TxI):TA:=fun _ H Q=>Q ((ks.map TxI.val).map V.str) H
theorem a3A:∀{ks:List TxI},(∀k∈ks,k.ok)->PA X (ks.map TxI.mk) (tTxts ks)
 |[],_=>aB
 | .s x j p::r,h=>by
  have h2:PA X (TxI.mk (.s x j p)::r.map TxI.mk) (tCons (tC (.str x)) (tTxts r)):=aA aR (a3A fun k hk=>h k (Yf _ hk)) (by rfl)
  exact h2
 | .m x j p n i p2 p3::r,h=>by
  have h2:PA X (TxI.mk (.m x j p n i p2 p3)::r.map TxI.mk) (tCons (tOp mMulS (tC (.str x)) (tC (.int n))) (tTxts r)):=aA (bY c3W aR aH) (a3A fun k hk=>h k (Yf _ hk)) (by rfl)
  exact fun pos pins s σ H Q I q=>h2 pos pins s σ H Q I ⟨h _ (Yw ..),q⟩
theorem b3A {K:W.Frag}:W.kitOne K (.type "str") (.type "bool")=some false:=by first | rfl | decide +kernel
def mIsiBS:V->Hp->VK->Prop:=fun x H Q=>@V.rec (fun _=>Prop) False (fun _=>Q (.bl true) H) (fun _=>Q (.bl false) H) (fun _=>Q (.bl false) H) (fun _=>False) (fun _=>False) (fun _=>False) (fun _=>False) x
theorem b9C:CallR X (.builtin "isinstance") (isiR "bool" mIsiBS):=c5G fun x H Q q=>by
 cases x with
 |int i=>exact⟨_,_,.int _,b3B,q⟩
 |bl i=>exact⟨_,_,.bl _,b1D,q⟩
 |str i=>exact⟨_,_,.str _,b3A,q⟩
 |_=>exact q.elim
end
end L2

/-! text.replace(old,new) with written old,new:they are two objects once the counter of made objects has begun (a written text was met ahead in the same body) -/
namespace L2
open PySem PySem.Spec PyProof.Rows
open PySem.Builtin PySem.Builtin.Str
section
variable {X:Cx}{st:Stmt}{rest:List Stmt}{t u:TS}
variable {i:Nat}{x y z:Str}{a o:Expr}{ta to:TE}{pos pos' bp cp cp2 apos cpos:Pos}{j j2:Nat}
end
end L2

/-! text.split(sep) -/
namespace L2
open PySem PySem.Spec PyProof.Rows
open PySem.Builtin PySem.Builtin.Str
section
variable {X:Cx}{o e:Expr}{to:TE}{t:TA}{apos cpos:Pos}
theorem b1G:∀(k:Tok)(xs:List Str),Vals (xs.map V.str) (strsFrom k xs)
 |_, []=> .nil
 |k,x::xs=> .cons ⟨_,rfl⟩ (b1G _ xs)
def rSplit:V->List V->Hp->VK->Prop:=fun x vs H Q=>∃z y:Str,x= .str z/\vs= [.str y]/\(y.length == 0)=false/\z.length<=sizeLine/\(Txt.split z y).length<=sizeLine/\∀p,H p=none->Q (.ref p) (upd H p (.lst ((Txt.split z y).map V.str)))
theorem c0K:MtM X "str.split" rSplit:=by
 intro pins s σ H x vs v us Q I rx rv h
 obtain⟨z,y,rfl,rfl,hy,hz,hn,q⟩:=h
 obtain⟨t,rfl⟩:=(show ∃t,v=Value.str z t from rx)
 obtain⟨u,rfl,ru⟩:=rv.one
 obtain⟨t2,rfl⟩:=(show ∃t,u=Value.str y t from ru)
 have one:∀{k:Tok},Txt.split z y= [z]->EP X pins σ Q (.ref s.heap.objs.size) { s with toks:=k,heap:=s.heap.push { cls:= .type "list",data:= .seq [Value.str z t].toArray } }:=fun {k} e=>by
  have q':=q _ (I.hok.fresh (Ye _))
  rw[e]at q' hn
  exact⟨.ref s.heap.objs.size,upd H s.heap.objs.size (.lst ([z].map V.str)),I.laid (t':=k) (fun b u e=>Yd _ e) (Ye _) (show _/\_ from ⟨hn, [.str z t],0,.cons ⟨_,rfl⟩ .nil,YB _ rfl⟩),rfl,q'⟩
 cases h1:(decide (z.length<y.length) || decide (strKind z<strKind y))
 ·cases hf:(occurrences z y 0 z.length (z.length+1)).isEmpty
  ·have e:Txt.split z y=partsBetween z (occurrences z y 0 z.length (z.length+1)) y.length:=(if_neg (ne_true_of_eq_false h1)).trans (if_neg (ne_true_of_eq_false hf))
   have q':=q _ (I.hok.fresh (Ye _))
   rw[e]at q' hn
   refine XJ F.slot_str_split (typeIs_str _ _ _) F.entry_str_split (F.args_str_split_2 _ _) (meets_str_split_sep z y t t2 h1 hy hf hz hn) ?_
   exact⟨.ref s.heap.objs.size,upd H s.heap.objs.size (.lst ((partsBetween z (occurrences z y 0 z.length (z.length+1)) y.length).map V.str)),I.laid (t':=s.toks+_) (fun b u e=>Yd _ e) (Ye _) (show _/\_ from ⟨by rw[Ya];exact hn,_,0,b1G _ _,YB _ rfl⟩),rfl,q'⟩
  ·exact XJ F.slot_str_split (typeIs_str _ _ _) F.entry_str_split (F.args_str_split_2 _ _) (meets_str_split_not_found z y t t2 h1 hy hf) (one ((if_neg (ne_true_of_eq_false h1)).trans (if_pos hf)))
 ·exact XJ F.slot_str_split (typeIs_str _ _ _) F.entry_str_split (F.args_str_split_2 _ _) (meets_str_split_cannot_occur z y t t2 h1) (one (if_pos h1))
def dSplit (to:TE)(t:TA):TE:=fun σ H Q=>to σ H fun x H1=>vS x fun z=>t σ H1 fun vs H2=>l1 vs fun y=>vS y fun y=>(y.length == 0)=false/\z.length<=sizeLine/\(Txt.split z y).length<=sizeLine/\∀p,H2 p=none->Q (.ref p) (upd H2 p (.lst ((Txt.split z y).map V.str)))
theorem a6E (ho:PE X o to)(ha:PA X [e] t)(hbase:attributeBase o "split" X.env (eval o X.env)=eval o X.env:=by rfl)
  (hfew:((backTo cpos (starEach [e] X.env)).all (fun x=>!x.1) && (backToKw cpos (keywordEach [] X.env)).all (fun x=>x.1.isSome)
   && decide (([e]:List Expr).length+([]:List Keyword).length+(if ([]:List Keyword).isEmpty then 0 else 1)<30))=true:=by rfl)
  (hline:(apos.endLine == cpos.line)=true:=by rfl) (hs:starEach [e] X.env=(false,eval e X.env)::starEach [] X.env:=by rfl) (hplain:(backTo cpos (starEach [] X.env)).any (·.1)=false:=by rfl) :
  PE X (.Call (.Attribute o "split" apos) [e] [] cpos) (dSplit to t):=
 (b1L PySem.F.plainAttrs_str PySem.F.slot_str_split PySem.F.type_str_split c0K (gD ho) (zQ ha) hbase hfew hline hs hplain).imp fun σ H Q h=>⟨_,h,fun x H1 q=>by
  obtain⟨z,rfl,q2⟩:=vS.ex q
  refine⟨rfl,_,q2,fun vs H2 q3=>?_⟩
  obtain⟨y,rfl,q4⟩:=l1.ex q3
  obtain⟨y,rfl,h1⟩:=vS.ex q4
  exact⟨z,y,rfl,rfl,h1⟩⟩
end
end L2

/-! a text that was joined falls apart into the same pieces -/
namespace L2
open PySem PySem.Builtin PySem.Builtin.Str
theorem b4Y {c:Nat}:∀{l1 l2 r1 r2:List Nat},c∉l1->c∉l2->l1++c::r1=l2++c::r2->l1=l2/\r1=r2
 |[], [],_,_,_,_,h=>⟨rfl,(XC h).2⟩
 |[],y::l2,_,_,_,h2,h=>absurd (Yw) ((XC h).1▸h2)
 |x::l1, [],_,_,h1,_,h=>absurd (Yw) ((XC h).1.symm▸h1)
 | x::l1,y::l2,r1,r2,h1,h2,h=>by
  obtain⟨a,b⟩:=XC h
  obtain⟨p,q⟩:=b4Y (fun z=>h1 (Yf _ z)) (fun z=>h2 (Yf _ z)) b
  exact⟨by rw[a,p],q⟩
theorem b6G {x y:Str}(h:x.cps.toList=y.cps.toList):x=y:=by
 obtain⟨⟨a⟩⟩:=x
 obtain⟨⟨b⟩⟩:=y
 have:a=b:=h
 rw[this]
theorem a6K (x y:Str):(x++y).cps.toList=x.cps.toList++y.cps.toList:=by
 show (x.cps++y.cps).toList=_
 rw[Array.toList_append]
def sepC (c:Nat):Str:=⟨#[c]⟩
theorem b4Q {c:Nat}:∀{A B:List Str},A≠ []->B≠ []->(∀x∈A,c∉x.cps.toList)->(∀x∈B,c∉x.cps.toList)->Str.join (sepC c) A=Str.join (sepC c) B->A=B
 |[],_,h,_,_,_,_=>absurd rfl h
 |_::_, [],_,h,_,_,_=>absurd rfl h
 |[x], [y],_,_,_,_,h=>by rw[show x=y from h]
 | [x],y::z::B,_,_,h1,_,h=>by
  have h':x=y++sepC c++Str.join (sepC c) (z::B):=h
  have:=Yy (fun s:Str=>s.cps.toList) h'
  simp only[a6K]at this
  exact absurd (by rw[this];simp[sepC]) (h1 x Yw)
 | x::w::A, [y],_,_,_,h2,h=>by
  have h':x++sepC c++Str.join (sepC c) (w::A)=y:=h
  have:=Yy (fun s:Str=>s.cps.toList) h'
  simp only[a6K]at this
  exact absurd (by rw[<-this];simp[sepC]) (h2 y Yw)
 | x::w::A,y::z::B,_,_,h1,h2,h=>by
  have h':x++sepC c++Str.join (sepC c) (w::A)=y++sepC c++Str.join (sepC c) (z::B):=h
  have:=Yy (fun s:Str=>s.cps.toList) h'
  simp only[a6K,sepC,Xx]at this
  obtain⟨p,q⟩:=b4Y (c:=c) (h1 x Yw) (h2 y Yw) this
  rw[b6G p,b4Q (A:=w::A) (B:=z::B) (by simp) (by simp) (fun u hu=>h1 u (Yf _ hu)) (fun u hu=>h2 u (Yf _ hu)) (b6G q)]
theorem b9L (x y:Str):Txt.split x y≠ []:=by
 unfold Txt.split
 split
 ·simp
 ·split
  ·simp
  ·intro h
   have:=Yy List.length h
   rw[length_partsBetween]at this
   cases this
theorem join_split (x y:Str):Str.join y (Txt.split x y)=x:=by
 unfold Txt.split
 split
 ·rfl
 ·split
  ·rfl
  ·rw[<-StrLaws.glued_eq_join]
   exact StrLaws.glued_between_self x y _
theorem a9O {c:Nat}{ws:List Str}(h:ws≠ [])(hc:∀x∈ws,c∉x.cps.toList):Txt.split (Txt.join (sepC c) ws) (sepC c)=ws:=by
 refine b4Q (b9L _ _) h (StrLaws.split_free _ c) hc ?_
 rw[join_split]
 show glued (sepC c) ws=_
 rw[StrLaws.glued_eq_join]
end L2

namespace L2
open PySem PySem.Spec PyProof.Rows

/-! ### lists of pairs as tables -/
section
variable {κ:Type}[DecidableEq κ]
def valV (kvs:List (κ×V))(k:κ):Option V:=(kvs.find? fun kv=>decide (kv.1=k)).map (·.2)
/-- in its place,or at the end -/
def putK (kvs:List (κ×V))(k:κ)(v:V):List (κ×V):=
 if (kvs.any fun kv=>decide (kv.1=k))=true then kvs.map (fun kv=>if kv.1=k then (kv.1,v) else kv) else kvs++[(k,v)]
theorem nM {p:κ×V}{r:List (κ×V)}{k:κ}(e:p.1=k):valV (p::r) k=some p.2:=by simp[valV,Xs,e]
theorem nO {p:κ×V}{r:List (κ×V)}{k:κ}(e:¬ p.1=k):valV (p::r) k=valV r k:=by simp[valV,Xs,e]
theorem a5I (k:κ):∀kvs:List (κ×V),(kvs.any fun kv=>decide (kv.1=k))=(valV kvs k).isSome
 |[]=>rfl
 | p::r=>by
  rw[Xq]
  by_cases e:p.1=k
  ·simp only[nM e,Yk e,Bool.true_or,Option.isSome_some]
  ·rw[nO e,Yi e,Bool.false_or];exact a5I k r
theorem b3T (k j:κ)(y:V):∀kvs:List (κ×V),valV (kvs.map fun kv=>if kv.1=k then (kv.1,y) else kv) j=(valV kvs j).map fun x=>if j=k then y else x
 |[]=>rfl
 | p ::r=>by
  have ih:=b3T k j y r
  rw[Yo]
  by_cases h:p.1=k
  ·rw[if_pos h]
   by_cases e:p.1=j
   ·rw[nM (p:=(p.1,y)) e,nM e,Option.map_some,if_pos (e.symm.trans h)]
   ·rw[nO (p:=(p.1,y)) e,nO e,ih]
  ·rw[if_neg h]
   by_cases e:p.1=j
   ·rw[nM (p:=p) e,nM e,Option.map_some,if_neg (fun z=>h (e.trans z))]
   ·rw[nO (p:=p) e,nO e,ih]
theorem b1I (k j:κ)(y:V):∀kvs:List (κ×V),valV kvs k=none->valV (kvs++[(k,y)]) j=if j=k then some y else valV kvs j
 | [],_=>by
  by_cases e:k=j
  ·rw[if_pos e.symm];exact nM (p:=(k,y)) e
  ·rw[if_neg (fun z=>e z.symm)];exact nO (p:=(k,y)) e
 | p::r,hn=>by
  rw[List.cons_append]
  have hk:¬ p.1=k:=fun z=>by rw[nM z]at hn;cases hn
  rw[nO hk]at hn
  have ih:=b1I k j y r hn
  by_cases e:p.1=j
  ·rw[nM e,nM e,if_neg (fun z=>hk (e.trans z))]
  ·rw[nO e,nO e,ih]
theorem b3S (kvs:List (κ×V))(k j:κ)(y:V):valV (putK kvs k y) j=if j=k then some y else valV kvs j:=by
 unfold putK
 by_cases a:(kvs.any fun kv=>decide (kv.1=k))=true
 ·rw [if_pos a,b3T]
  rw[a5I]at a
  by_cases e:j=k
  ·obtain⟨x,hx⟩:=Option.isSome_iff_exists.mp a
   rw[if_pos e,e,hx,Option.map_some,if_pos rfl]
  ·rw[if_neg e]
   cases valV kvs j with
   |none=>rfl
   |some x=>rw[Option.map_some,if_neg e]
 ·rw[if_neg a]
  refine b1I k j y kvs ?_
  rw[a5I]at a
  cases q:valV kvs k with
  |none=>rfl
  |some x=>rw[q]at a;exact(a rfl).elim
theorem a8F (kvs:List (κ×V))(k:κ)(v:V):(putK kvs k v).length<=kvs.length+1:=by
 unfold putK
 split
 ·rw[Ya];omega
 ·rw[Yj,Ys,List.length_nil];omega
theorem RelO.isSome_eq {o:Option V}{u:Option Value}(r:RelO o u):o.isSome=u.isSome:=by
 cases o with
 | none=>cases u with
  |none=>rfl
  |some _=>exact(show False from r).elim
 | some _=>cases u with
  |none=>exact(show False from r).elim
  |some _=>rfl
theorem RelO.getD {o:Option V}{u:Option Value}{d:V}{d':Value}(r:RelO o u)(rd:RelV d d'):RelV (o.getD d) (u.getD d'):=by
 cases o with
 | none=>cases u with
  |none=>exact rd
  |some _=>exact(show False from r).elim
 | some _=>cases u with
  |none=>exact(show False from r).elim
  |some _=>exact r

/-- raw tables of the same keys -/
theorem KV.val {kvs:List (κ×V)}{vs:List (κ×Value)}(r:KV kvs vs)(k:κ):RelO (valV kvs k) (valueAt vs k):=by
 unfold KV at r
 induction r with
 |nil=>exact True.intro
 | @cons p q ps qs h t ih=>
  obtain⟨h1,h2⟩:=h
  by_cases e:p.1=k
  ·have e':q.1=k:=h1.symm.trans e
   have b:valueAt (q::qs) k=some q.2:=by simp[valueAt,Xs,e']
   rw[nM e,b];exact h2
  ·have e':¬ q.1=k:=fun z=>e (h1.trans z)
   have b:valueAt (q::qs) k=valueAt qs k:=by simp[valueAt,Xs,e']
   rw[nO e,b];exact ih
theorem KV.any {kvs:List (κ×V)}{vs:List (κ×Value)}(r:KV kvs vs)(k:κ):(kvs.any fun kv=>decide (kv.1=k))=vs.any fun kv=>decide (kv.1=k):=by
 unfold KV at r
 induction r with
 |nil=>rfl
 |cons h t ih=>rw[Xq,Xq,ih,h.1]
theorem KV.repl {kvs:List (κ×V)}{vs:List (κ×Value)}(r:KV kvs vs)(k:κ){y:V}{u:Value}(ry:RelV y u) :
  KV (kvs.map fun kv=>if kv.1=k then (kv.1,y) else kv) (vs.map fun kv=>if kv.1=k then (kv.1,u) else kv):=by
 unfold KV at r ⊢
 induction r with
 |nil=>exact .nil
 | @cons p q ps qs h t ih=>
  rw[Yo,Yo]
  refine .cons ?_ ih
  obtain⟨h1,h2⟩:=h
  by_cases e:p.1=k
  ·rw[if_pos e,if_pos (h1.symm.trans e)];exact⟨h1,ry⟩
  ·rw[if_neg e,if_neg (fun z=>e (h1.trans z))];exact⟨h1,h2⟩
theorem KV.put {kvs:List (κ×V)}{vs:List (κ×Value)}(r:KV kvs vs)(k:κ){y:V}{u:Value}(ry:RelV y u):KV (putK kvs k y) (stored vs k u):=by
 unfold putK stored
 rw[r.any k]
 by_cases e:(vs.any fun kv=>decide (kv.1=k))=true
 ·rw[if_pos e,if_pos e];exact r.repl k ry
 ·rw[if_neg e,if_neg e];exact Paired.snoc r ⟨rfl,ry⟩
theorem KV.length {kvs:List (κ×V)}{vs:List (κ×Value)}(r:KV kvs vs):kvs.length=vs.length:=Paired.length r
end


/-! ### a tracked dict,its keys ints and texts or tuples of these -/
theorem b4O {P:Program}{w:World}{k:Key}{u:Value}(r:RelV (kV k) u):(mixKind P w).is k u=true:=by
 cases k with
 |inl i=>obtain⟨t,e⟩:=(show ∃t,u=Value.int i t from r);subst e;exact b4B P w i t
 |inr x=>obtain⟨t,e⟩:=(show ∃t,u=Value.str x t from r);subst e;exact b4A P w x t
theorem b1W {P:Program}{w:World}:∀{ks:List Key}{us:List Value},Vals (ks.map kV) us->ItemsAre (mixKind P w) ks us
 |[],_,r=>by rw[List.map_nil]at r;cases r;exact .nil
 | k::ks,_,r=>by
  rw[Yo]at r
  cases r with
  |cons h t=>exact .cons (b4O h) (b1W t)

/-- raw entries of a dict with tuple keys -/
abbrev KT (H:Hp):List (List Key×V)->List (List Key×Addr×Value)->Prop:=Paired fun p q=>p.1=q.1/\H q.2.1=some (.tup (p.1.map kV))/\RelV p.2 q.2.2
theorem KT.val {H:Hp}{kvs:List (List Key×V)}{xs:List (List Key×Addr×Value)}(r:KT H kvs xs)(k:List Key):RelO (valV kvs k) ((atKey xs k).map (·.2)):=by
 induction r with
 |nil=>exact True.intro
 | @cons p q ps qs h t ih=>
  obtain⟨h1,_,h2⟩:=h
  by_cases e:p.1=k
  ·have e':q.1=k:=h1.symm.trans e
   have b:atKey (q::qs) k=some q.2:=by simp[atKey,Xs,e']
   rw[nM e,b];exact h2
  ·have e':¬ q.1=k:=fun z=>e (h1.trans z)
   have b:atKey (q::qs) k=atKey qs k:=by simp[atKey,Xs,e']
   rw[nO e,b];exact ih
theorem KT.repl {H:Hp}{kvs:List (List Key×V)}{xs:List (List Key×Addr×Value)}(r:KT H kvs xs)(k:List Key){y:V}{u:Value}(ry:RelV y u) :
  KT H (kvs.map fun kv=>if kv.1=k then (kv.1,y) else kv) (xs.map (putAt k u)):=by
 induction r with
 |nil=>exact .nil
 | @cons p q ps qs h t ih=>
  rw[Yo,Yo]
  refine .cons ?_ ih
  obtain⟨h1,h2,h3⟩:=h
  unfold putAt
  by_cases e:p.1=k
  ·rw[if_pos e,if_pos (h1.symm.trans e)];exact⟨h1,h2,ry⟩
  ·rw[if_neg e,if_neg (fun z=>e (h1.trans z))];exact⟨h1,h2,h3⟩
theorem KT.put {H:Hp}{kvs:List (List Key×V)}{xs:List (List Key×Addr×Value)}(r:KT H kvs xs)(k:List Key){b:Addr}{y:V}{u:Value}(hb:H b=some (.tup (k.map kV)))(ry:RelV y u) :
  KT H (putK kvs k y) (storedH xs k b u):=by
 have e:(kvs.any fun kv=>decide (kv.1=k))=(atKey xs k).isSome:=by
  rw[a5I,(r.val k).isSome_eq,Option.isSome_map]
 unfold putK storedH
 rw[e]
 by_cases q:(atKey xs k).isSome=true
 ·rw[if_pos q,if_pos q];exact r.repl k ry
 ·rw[if_neg q,if_neg q];exact Paired.snoc r ⟨rfl,hb,ry⟩
theorem KT.keeps {H H':Hp}{kvs:List (List Key×V)}{xs:List (List Key×Addr×Value)}(r:KT H kvs xs)(ht:∀b ys,H b=some (.tup ys)->H' b=some (.tup ys)):KT H' kvs xs:=
 Paired.mapP r fun _ _ z=>⟨z.1,ht _ _ z.2.1,z.2.2⟩

section
variable {P:Program}{w:World}{H:Hp}{h:Heap}{a:Addr}
theorem c3K {u:HO}(ok:HOk P w H h)(e:Rd H a u):ObjOk P w H h a u:=e.ok ok
theorem c1F {kvs:List (Key×V)}(ok:HOk P w H h)(e:Rd H a (.dK kvs)):kvs.length<=sizeLine/\(a == sysModules)=false/\∃vs,KV kvs vs/\h.DictOf (mixKind P w) a vs:=
 show ObjOk P w H h a (.dK kvs) from c3K ok e
theorem c7G {kvs:List (Key×V)}(ok:HOk P w H h)(e:H a=some (.dK kvs)):kvs.length<=sizeLine/\(a == sysModules)=false/\∃vs,KV kvs vs/\h.DictOf (mixKind P w) a vs:=c1F ok (.inl e)
/-- a tracked tuple of ints and texts is a key -/
theorem b5W {ks:List Key}(ok:HOk P w H h)(e:H a=some (.tup (ks.map kV))):(tupleKind (mixKind P w)).is h ks a:=by
 obtain⟨_,its,r,o,h1,h2,n,h3⟩:=(show ObjOk P w H h a (.tup (ks.map kV)) from ok a _ e)
 exact⟨o,its.toArray,n,h1,h2,h3,by simpa using b1W r⟩
theorem c1E {kvs:List (List Key×V)}(ok:HOk P w H h)(e:Rd H a (.dT kvs)):kvs.length<=sizeLine/\(a == sysModules)=false/\
  ∃xs,KT H kvs xs/\h.DictOfH (tupleKind (mixKind P w)) a xs:=by
 obtain⟨z,y,xs,r,o,es,ep,h1,h2,h3,h4,h5⟩:=(show ObjOk P w H h a (.dT kvs) from c3K ok e)
 refine⟨z,y,xs,r,o,es,ep,h1,h2,h3,h4,fun x hx=>?_,h5⟩
 have all:∀{l:List (List Key×V)}{m:List (List Key×Addr×Value)},KT H l m->∀x∈m,(tupleKind (mixKind P w)).is h x.1 x.2.1:=by
  intro l m q
  induction q with
  |nil=>intro x hx;exact nomatch hx
  | @cons p q ps qs hq t ih=>
   intro x hx
   rcases Yv.mp hx with e | hx
   ·subst e
    exact b5W ok (by rw[<-hq.1];exact hq.2.1)
   ·exact ih x hx
 exact all r x hx
theorem c7F {kvs:List (List Key×V)}(ok:HOk P w H h)(e:H a=some (.dT kvs)):kvs.length<=sizeLine/\(a == sysModules)=false/\
  ∃xs,KT H kvs xs/\h.DictOfH (tupleKind (mixKind P w)) a xs:=c1E ok (.inl e)
end

/-- what the dict at a holds at the key y -/
def DGet (H:Hp)(a:Addr)(y:V)(r:Option V):Prop:=
 (∃kvs k,Rd H a (.dK kvs)/\y=kV k/\r=valV kvs k)\/∃kvs k b,Rd H a (.dT kvs)/\y= .ref b/\H b=some (.tup (k.map kV))/\r=valV kvs k
/-- the heap behind a[y]=v -/
def DPut (H:Hp)(a:Addr)(y v:V)(H':Hp):Prop:=
 (∃kvs k,H a=some (.dK kvs)/\y=kV k/\kvs.length<sizeLine/\H'=upd H a (.dK (putK kvs k v)))\/
 ∃kvs k b,H a=some (.dT kvs)/\y= .ref b/\H b=some (.tup (k.map kV))/\kvs.length<sizeLine/\H'=upd H a (.dT (putK kvs k v))
section
variable {X:Cx}{pins:List (Addr×Obj)}{σ:St}{H:Hp}{s:Shared}{a:Addr}{y v:V}{u r:Value}{o:Option V}{A:Around}{E:Value->Shared->Prop}

theorem Inv.big (I:Inv X pins σ H s):sysModules<s.heap.objs.size:=by
 have h:mainGlobals<s.heap.objs.size:=(I.mod.glob.keeps I.bk).lt
 exact Nat.lt_trans (by decide) h

/-- a dict's object is replaced -/
theorem b7B {h':Heap}{t':Nat}{ob:HO}(I:Inv X pins σ H s)(mu:Mut (H a))(hs:Heap.SameBut a s.heap h')(he:∃q,h'.get? a=some q)(new:ObjOk X.prog X.w (upd H a ob) h' a ob) :
  Inv X pins σ (upd H a ob) { s with heap:=h',toks:=t' }:=
 I.write (x:=a) (e:=a) mu (.inl rfl) (fun b q hb z=>(hs.2 b hb).trans z) he new
theorem c5M {P:Program}{w:World}{H':Hp}{h':Heap}{kvs:List (Key×V)}{vs:List (Key×Value)}(z:kvs.length<=sizeLine)(hd:(a == sysModules)=false)(rel:KV kvs vs)(dd:h'.DictOf (mixKind P w) a vs) :
  ObjOk P w H' h' a (.dK kvs):=⟨z,hd,vs,rel,dd⟩
/-- d[y]=v -/
theorem b8Q {H':Hp}{Q:Unit->Shared->Prop}(hu:A.units+1<cLine)(I:Inv X pins σ H s)(g:DPut H a y v H')(ry:RelV y u)(rv:RelV v r)(h:∀s',Inv X pins σ H' s'->Q () s') :
  wpAny (model X.prog X.w) A (setItem (.ref a) u r) Q E s:=by
 rcases g with ⟨kvs,k,e,ey,l,eH⟩ | ⟨kvs,k,b,e,ey,eb,l,eH⟩
 ·subst ey eH
  obtain⟨z,hd,vs,rel,dd⟩:=c7G I.hok e
  have hz:vs.length<=sizeLine:=by rw[<-rel.length];exact z
  have hl:(putK kvs k v).length<=sizeLine:=by have:=a8F kvs k v;omega
  refine wpAny_setItem_pairs (hsz:=hz) (b4O ry) dd fun h' dd' hs=>h _ ?_
  have he:∃q,h'.get? a=some q:=let ⟨q,_,_,hq,_⟩:=dd';⟨q,hq⟩
  exact b7B I (by rw[e];exact True.intro) hs he (c5M hl hd (rel.put k rv) dd')
 ·subst ey eH
  cases (show u=Value.ref b from ry)
  obtain⟨z,hd,xs,rel,dd⟩:=c7F I.hok e
  have hz:xs.length<=sizeLine:=by rw[<-Paired.length rel];exact z
  have hl:(putK kvs k v).length<=sizeLine:=by have:=a8F kvs k v;omega
  refine wpAny_setItem_heap (hsz:=hz) (tupleKind_room_in1 hu) (b5W I.hok eb) dd fun h' dd' hs=>h _ ?_
  obtain⟨q,es,ep,hq,h2,h3,h4,_,h5⟩:=dd'
  refine b7B I (by rw[e];exact True.intro) hs ⟨q,hq⟩ ⟨hl,hd,_,(rel.put k eb rv).keeps fun c ys ec=>?_,q,es,ep,hq,h2,h3,h4,h5⟩
  rw[aQ (b1P ec e (fun z=>nomatch z))]
  exact ec
end

section
variable {X:Cx}{pins:List (Addr×Obj)}{σ:St}{H:Hp}{s:Shared}{a:Addr}{kvs:List (Key×V)}{k:Key}{u:Value}{A:Around}{E:Value->Shared->Prop}
end


/-! ### readings and rules -/
/-- the element of a subscription,not a slice -/
def NoSl (i:Expr):Prop:=∀ov iv,subscripted i false ov iv=operate [ov,iv] (getItem ov iv)
theorem c1V {prog:Program}{w:World}{A:Around}{E:Value->Shared->Prop}{s:Shared}{env:Env}{value slice:Expr}{pos:Pos}{T id:String}{Q:Value->Shared->Prop}
  (hl:typeLookup (.type T) "__getitem__"=pure (some (.builtin id))) (hs:NoSl slice)
  (h:wpAny (model prog w) A (eval value env) (fun o s₁=>wpAny (model prog w) A (eval slice env) (fun i s₂=>s₂.TypeIs o T/\wpAny (model prog w) A (getItem o i) Q E s₂) E s₁) E s) :
  wpAny (model prog w) A (eval (.Subscript value slice pos) env) Q E s:=by
 refine Subscript_ (YQ h (fun o s₁ h₁=>YQ h₁ (fun i s₂ h₂=>?_) fun _ _ x=>x) fun _ _ x=>x)
 obtain⟨hT,h₂⟩:=h₂
 unfold subscriptTail
 refine Yb ?_
 rw[getitemInPython_of_ne hT.not_modules]
 refine Yb (wpAny_specialOf hT hl ?_)
 have fin:wpAny (model prog w) A (subscripted slice false o i) (fun r s₃=>wpAny (model prog w) A (letTemporaryGo value o r >>= fun _=>pure r) Q E s₃) E s₂:=by
  rw[hs o i]
  exact wpAny_operating (YQ h₂ (fun r s₃ h₃=>Yb (wpAny_letTemporaryGo (YI h₃))) fun _ _ x=>x)
 first
  |exact YI (Yb fin)
  |exact Yb (YI (Yb fin))
  |exact Yb fin

/-- d[y]=v -/
def sDPut (td ty tv:TE):TS:=fun D σ H=>tv σ H fun v H1=>td σ H1 fun x H2=>ty σ H2 fun y H3=>∃a H4,x= .ref a/\DPut H3 a y v H4/\D.nx σ H4
section
variable {X:Cx}{o i e value:Expr}{pos pos' tpos:Pos}{td ty tv:TE}
theorem c2I (hu:X.A.units+1<cLine)(ho:PE X o td)(hi:PE X i ty)(hv:PE X value tv)(hs:swapsWith value (some (.Subscript o i pos')) pos.line X.env=pure false) :
  PS X (.Assign [.Subscript o i pos'] value pos) (sDPut td ty tv):=by
 intro pins s σ H D I h
 refine wpAny_Assign_Subscript (thn (hv pins s σ H _ I h) fun r s1 ⟨v,H1,I1,rv,q1⟩=>thn (ho pins s1 σ H1 _ I1 q1) fun u s2 ⟨x,H2,I2,rx,q2⟩=>thn (hi pins s2 σ H2 _ I2 q2) fun iv s3 ⟨y,H3,I3,ry,a,H4,ex,g,q3⟩=>?_) hs
 subst ex
 obtain rfl:u=Value.ref a:=rx
 exact b8Q hu I3 g ry rv fun s4 I4=>⟨σ,H4,I4,q3⟩
end


/-! ### displays -/
theorem c1G {P:Program}{w:World}{H:Hp}(h:Heap)(hb:sysModules<h.objs.size):ObjOk P w H (h.push { cls:= .type "dict",data:= .dict #[] }) h.objs.size (.dK []):=
 ⟨YO _,Y6.mpr (Ne.symm (YL hb)), [],.nil,Heap.DictOf.new h⟩
/-- {},to be a dict of the kind that is wanted -/
def tDNewK:TE:=fun _ H Q=>∀p,H p=none->Q (.ref p) (upd H p (.dK []))
section
variable {X:Cx}{pos:Pos}
theorem c0A:PE X (.Dict [] [] pos) tDNewK:=fun pins s σ H Q I h=>
 wpAny_Dict_empty ⟨.ref s.heap.objs.size,_,I.laid (a:=s.heap.objs.size) (o:= .dK []) (t':=s.toks) (fun _ _ q=>Yd _ q) (Ye _) (c1G s.heap I.big),rfl,h _ (I.hok.fresh (Ye _))⟩
end

/-! ### methods -/
structure M2 (X:Cx)(o:Expr)(m:Str)(apos:Pos)(e f:Expr)(cpos:Pos):Prop where
 base:attributeBase o m X.env (eval o X.env)=eval o X.env
 few:((backTo cpos (starEach [e,f] X.env)).all (fun x=>!x.1) && (backToKw cpos (keywordEach [] X.env)).all (fun x=>x.1.isSome)
  && decide (([e,f]:List Expr).length+([]:List Keyword).length+(if ([]:List Keyword).isEmpty then 0 else 1)<30))=true
 line:(apos.endLine == cpos.line)=true
 trees:backTo cpos (starEach [e,f] X.env)= [(false,eval e X.env),(false,eval f X.env)]

/-- a is a dict,whatever its keys -/
def IsD (H:Hp)(a:Addr):Prop:=(∃kvs,Rd H a (.dK kvs))\/∃kvs,Rd H a (.dT kvs)
theorem c5H {X:Cx}{pins:List (Addr×Obj)}{σ:St}{H:Hp}{s:Shared}{a:Addr}(I:Inv X pins σ H s)(d:IsD H a) :
  s.TypeIs (.ref a) "dict"/\(∀b,Value.ref a= .ref b->∃ob,s.heap.get? b=some ob/\ob.dict=none)/\(a == sysModules)=false:=by
 rcases d with ⟨kvs,e⟩ | ⟨kvs,e⟩
 ·obtain⟨_,hd,vs,_,dd⟩:=c1F I.hok e
  refine⟨dd.typeIs,fun b q=>?_,hd⟩
  cases q
  obtain⟨ob,_,_,h1,h2,_⟩:=dd
  exact⟨ob,h1,h2.2.1⟩
 ·obtain⟨_,hd,xs,_,dd⟩:=c1E I.hok e
  refine⟨dd.typeIs,fun b q=>?_,hd⟩
  cases q
  obtain⟨ob,_,_,h1,h2,_⟩:=dd
  exact⟨ob,h1,h2.2.1⟩

section
variable {X:Cx}{pins:List (Addr×Obj)}{σ:St}{H:Hp}{s:Shared}{a:Addr}{y d:V}{u r:Value}{o:Option V}{A:Around}{E:Value->Shared->Prop}
/-- d.get(y,x) -/
theorem c5O {Q:Value->Shared->Prop}(hu:A.units+1<cLine)(I:Inv X pins σ H s)(g:DGet H a y o)(ry:RelV y u)(rd:RelV d r)(h:∀w' s',Inv X pins σ H s'->RelV (o.getD d) w'->Q w' s') :
  wpAny (model X.prog X.w) A (call (.builtin "dict.get") [.ref a,u,r]) Q E s:=by
 rcases g with ⟨kvs,k,e,ey,l⟩ | ⟨kvs,k,b,e,ey,eb,l⟩
 ·subst ey
  obtain⟨z,hd,vs,rel,dd⟩:=c1F I.hok e
  refine call_meetsIn PySem.F.slot_dict_get dd.typeIs PySem.F.entry_dict_get (PySem.F.args_dict_get_3 _ _ _) (meets_dict_get_default (mixKind X.prog X.w) a (b4O ry) hd r) ⟨_,dd.mapOf,h _ _ (I.tok _) ?_⟩
  rw[l]
  exact(rel.val k).getD rd
 ·subst ey
  cases (show u=Value.ref b from ry)
  obtain⟨z,hd,xs,rel,dd⟩:=c1E I.hok e
  refine call_meetsIn PySem.F.slot_dict_get dd.typeIs PySem.F.entry_dict_get (PySem.F.args_dict_get_3 _ _ _) (meetsH_dict_get_default (tupleKind (mixKind X.prog X.w)) a b hd r) ⟨tupleKind_room_in1 hu,k,xs,b5W I.hok eb,dd,h _ _ (I.tok _) ?_⟩
  rw[l]
  exact(rel.val k).getD rd
end

def tDGet2 (td ty tx:TE):TE:=fun σ H Q=>td σ H fun x H1=>∃a,x= .ref a/\IsD H1 a/\ty σ H1 fun y H2=>tx σ H2 fun z H3=>∃o,DGet H3 a y o/\Q (o.getD z) H3
section
variable {X:Cx}{o e f:Expr}{apos cpos:Pos}{td ty tx:TE}
theorem c0B (hu:X.A.units+1<cLine)(ho:PE X o td)(he:PE X e ty)(hf:PE X f tx)(m:M2 X o "get" apos e f cpos):PE X (.Call (.Attribute o "get" apos) [e,f] [] cpos) (tDGet2 td ty tx):=by
 intro pins s σ H Q I h
 refine wpAny_Call_method m.base m.few m.line PySem.F.plainAttrs_dict PySem.F.slot_dict_get PySem.F.type_dict_get (thn (ho pins s σ H _ I h) fun u s1 hz9=>?_)
 obtain⟨x,H1,I1,rx,a,ex,d,q1⟩:=hz9
 subst ex
 obtain rfl:u=Value.ref a:=rx
 obtain⟨t1,t2,_⟩:=c5H I1 d
 refine⟨t1,t2,?_⟩
 rw[m.trees]
 refine Calls.callWith_builtin rfl (XM (XT (thn (he pins s1 σ H1 _ I1 q1) fun iv s2 ⟨y,H2,I2,ry,q2⟩=>
  XT (thn (hf pins s2 σ H2 _ I2 q2) fun fv s3 ⟨z,H3,I3,rz,ov,g,q3⟩=>Calls.spliced_nil ?_))))
 exact c5O hu I3 g ry rz fun w' s4 I4 rw'=>⟨_,H3,I4,rw',q3⟩
end

/-! ### dict(d):a copy -/
section
variable {X:Cx}{pins:List (Addr×Obj)}{σ:St}{H:Hp}{s:Shared}{a:Addr}{kvs:List (Key×V)}{A:Around}{E:Value->Shared->Prop}
end


section
variable {X:Cx}{pins:List (Addr×Obj)}{σ:St}{H:Hp}{s:Shared}{a:Addr}{y:V}{u:Value}{A:Around}{E:Value->Shared->Prop}
end
end L2
namespace L2
open PySem PySem.Spec PyProof.Rows
/-! ### a dict's pairs:keys that differ -/
section
variable {κ:Type}[DecidableEq κ]
end
end L2

/-! a dict that the module holds for good:its keys whole numbers or texts -/
namespace L2
open PySem PySem.Spec PyProof.Rows
inductive Ents (w:World):List DictEntry->List (Key×V)->Prop
 |nil:Ents w [] []
 |cons {x:Str} {t:Tok} {v:V} {u:Value} {es:List DictEntry} {kvs:List (Key×V)}:RelV v u->Ents w es kvs->Ents w (⟨hashStr w x,.str x t,u⟩::es) ((.inr x,v)::kvs)
def CDict (K:W.Frag)(w:World)(a:Addr)(kvs:List (Key×V)):Prop:=(a == sysModules)=false/\(kvs.map (·.1)).Nodup/\∃es n,K.lookup a=some ⟨.type "dict",none,.dict es.toArray n, #[]⟩/\Ents w es kvs
theorem Ents.ex {P:Program}{w:World}:∀{es:List DictEntry}{kvs:List (Key×V)},Ents w es kvs->∃vs:List (Key×Value),KV kvs vs/\Pairs (mixKind P w) es vs/\(∀e∈es,∃k,(mixKind P w).is k e.key=true/\e.hash=(mixKind P w).hash k)/\vs.map (·.1)=kvs.map (·.1)
 |_,_,.nil=>⟨[],.nil,.nil,fun e he=>(by cases he),rfl⟩
 | _,_,.cons (x:=x) (t:=t) (u:=u) r h=>by
  obtain⟨vs,a,b,c,d⟩:=h.ex (P:=P)
  refine⟨(.inr x,u)::vs,.cons ⟨rfl,r⟩ a,.cons (a7L x t) rfl b,fun e he=>?_,by rw[Yo,Yo,d]⟩
  rcases Yv.mp he with rfl | he
  ·exact⟨.inr x,a7L x t,rfl⟩
  ·exact c e he
section
variable {X:Cx}{pins:List (Addr×Obj)}{σ:St}{H:Hp}{s:Shared}{a:Addr}{kvs:List (Key×V)}
theorem CDict.at (I:Inv X pins σ H s)(h:CDict X.K X.w a kvs):∃vs,KV kvs vs/\s.heap.DictOf (mixKind X.prog X.w) a vs:=by
 obtain⟨_,nd,es,n,e,en⟩:=h
 obtain⟨vs,a1,a2,a3,a4⟩:=en.ex (P:=X.prog)
 exact⟨vs,a1,_,es.toArray,n,I.kIn _ _ e,⟨rfl,rfl,rfl⟩,rfl,fun x hx=>a3 x (by simpa using hx),by simpa using a2,by rw[a4];exact nd⟩
variable {o i:Expr}{pos:Pos}{td ty:TE}
def tCGet (a:Addr)(kvs:List (Key×V))(td ty:TE):TE:=fun σ H Q=>td σ H fun x H1=>ty σ H1 fun y H2=>∃k v,x= .ref a/\y=kV k/\valV kvs k=some v/\Q v H2
def tCIn (f:Bool->Bool)(a:Addr)(kvs:List (Key×V))(ty td:TE):TE:=fun σ H Q=>ty σ H fun y H1=>td σ H1 fun x H2=>∃k,x= .ref a/\y=kV k/\Q (.bl (f (valV kvs k).isSome)) H2
theorem b2U (hD:CDict X.K X.w a kvs)(ho:PE X o td)(hi:PE X i ty)(hs:NoSl i):PE X (.Subscript o i pos) (tCGet a kvs td ty):=by
 intro pins s σ H Q I h
 refine c1V PySem.F.slot_dict_getitem.lookup hs (thn (ho pins s σ H _ I h) fun u s1 ⟨x,H1,I1,rx,q1⟩=>thn (hi pins s1 σ H1 _ I1 q1) fun iv s2 ⟨y,H2,I2,ry,k,v,ex,ey,g,q2⟩=>?_)
 subst ex
 subst ey
 obtain rfl:u=Value.ref a:=rx
 obtain⟨vs,rel,dd⟩:=hD.at I2
 obtain⟨w',hw,rw'⟩:=RelO.some_of (v:=v) (o:=valueAt vs k) (by rw[<-g];exact rel.val k)
 exact⟨dd.typeIs,wpAny_getItem_of (b4O ry) dd.mapOf hw ⟨v,H2,I2.tok _,rw',q2⟩⟩
theorem b7S (hD:CDict X.K X.w a kvs)(hi:PE X i ty)(ho:PE X o td):PC X .NotIn i o (tCIn not a kvs ty td):=by
 intro pins s σ H Q I h
 refine thn (hi pins s σ H _ I h) fun iv s1 ⟨y,H1,I1,ry,q1⟩=>thn (ho pins s1 σ H1 _ I1 q1) fun u s2 ⟨x,H2,I2,rx,k,ex,ey,q2⟩=>?_
 subst ex
 subst ey
 obtain rfl:u=Value.ref a:=rx
 obtain⟨vs,rel,dd⟩:=hD.at I2
 refine wpAny_notIn_of (b4O ry) hD.1 dd.mapOf ?_
 rw[<-(rel.val k).isSome_eq]
 exact⟨.bl _,H2,I2.tok _,rfl,q2⟩
end
end L2

/-! functions made in a body:how they stand in the heap,how they are called -/
namespace L2
open PySem PySem.Spec PyProof.Rows
end L2

/-! a def within a def:the function is made -/
namespace L2
open PySem PySem.Spec PyProof.Rows
section
variable {X:Cx}{pins:List (Addr×Obj)}{σ:St}{H:Hp}{s:Shared}{A:Around}{E:Value->Shared->Prop}{c0 P bm:Addr}{nm qual:Str}{params:Arguments}{body:List Stmt}{scope:Scope}{pos:Pos}{cl:List (Str×Addr)}{Q:Value->Shared->Prop}
end
end L2

/-! a def that makes a function over a cell of its own and hands it back -/
namespace L2
open PySem PySem.Spec PyProof.Rows
section
variable {X:Cx}{st:Stmt}{rest:List Stmt}{t:TS}{u:St->Hp->Prop}{Φ:Flow->Shared->Prop}
end
end L2

/-! f(..),f a name that holds a function;the law where tables of code are tracked -/
namespace L2
open PySem PySem.Spec PyProof.Rows
section
variable {X:Cx}{k i:Nat}{x:Str}{p pos:Pos}{e:Expr}{es:List Expr}{t:TA}{spc:Addr->List V->Hp->VK->Prop}{K:W.Frag}
end
end L2

/-! a lambda over a cell:how it is made,how it is called -/
namespace L2
open PySem PySem.Spec PyProof.Rows
section
variable {X:Cx}{pins:List (Addr×Obj)}{σ:St}{H:Hp}{s:Shared}{A:Around}{E:Value->Shared->Prop}{c0 P bm:Addr}{qual:Str}{params:Arguments}{body:Expr}{scope:Scope}{pos:Pos}{cl:List (Str×Addr)}{Q:Value->Shared->Prop}
end
section
variable {X:Cx}{k i:Nat}{x:Str}{p pos:Pos}{e:Expr}{es:List Expr}{t:TA}{spc:Addr->List V->Hp->VK->Prop}{K:W.Frag}
end
section
variable {X:Cx}
end
end L2

/-! f(..),f a name that holds one of some functions,any of which may raise -/
namespace L2
open PySem PySem.Spec PyProof.Rows
/-- a place that is never reached -/
theorem b6J {X:Cx}{e:Expr}:PE X e (fun _ _ _=>False):=fun _ _ _ _ _ _ h=>h.elim
def RunsG (P:Program)(w:World)(K:W.Frag)(mg:Str->Option Value)(base:Heap)(k:Nat)(spc:Addr->Sp):Prop:=
 ∀(f:Addr)(A:Around)(outer:List Env)(s:Shared)(H:Hp)(us:List Value)(vs:List V)(Q:VK)(E:XK),Room k A->Env0 P w K mg base A outer s H->Vals vs us->spc f vs H Q E->codeAny (model P w) A (.call (.ref f) ⟨us, []⟩) (CR (CXR P w) outer P w H s Q E) s
def tCallG (K:W.Frag)(spc:Addr->Sp)(E:XK)(i:Nat)(t:TA):TE:=fun σ H Q=>∃f,σ[i]? =some (some (.ref f))/\W.keepIn K (.ref f)=true/\t σ H fun vs H1=>spc f vs H1 Q E
section
variable {X:Cx}{k i:Nat}{x:Str}{p pos:Pos}{e:Expr}{es:List Expr}{t:TA}{spc:Addr->Sp}{K:W.Frag}{E:XK}
theorem c0D (F:RunsG X.prog X.w X.K X.mg X.base k spc)(hr:Room k X.A)(hx:Passes (CXR X.prog X.w) X E)(hv:PE X (.Name x p) (tVar i))(ha:PA X (e::es) t)(hK:X.K=K:=by rfl)(he:starEach (e::es) X.env=(false,eval e X.env)::starEach es X.env:=by rfl)(hpl:(backTo pos (starEach es X.env)).any (·.1)=false:=by rfl) :
  PE X (.Call (.Name x p) (e::es) [] pos) (tCallG K spc E i t):=by
 subst hK
 intro pins s σ H Q I ⟨f,h1,h2,h3⟩
 refine Xc (thn (hv pins s σ H (fun v H'=>v= .ref f/\H'=H) I ⟨_,h1,rfl,rfl⟩) fun u s1 hz9=>?_)
 obtain⟨v,H1,I1,rv,e1,e2⟩:=hz9
 subst e1 e2
 obtain rfl:u=Value.ref f:=rv
 refine W.callWith_K (h₀:=X.base) I.ok.mod.kin h2 (thn (ha pos pins s1 σ H1 _ I1 h3) fun us s2 ⟨vs,H2,I2,r,h5⟩=>⟨I2.kIn,?_⟩) he hpl
 refine XI (XE (F f X.A X.stack s2 H2 us vs Q E hr I2.env0 r h5) fun r s' hq=>?_)
 cases r with
 |error e=>exact hx pins σ H2 s2 e s' I2 hq
 | ok fl=>
  cases fl with
  |ret u=>exact I2.after hq
  |next=>exact False.elim hq
  |brk=>exact False.elim hq
  |cont=>exact False.elim hq
end
section
variable {P:Program}{w:World}{K:W.Frag}{mg:Str->Option Value}{base:Heap}{k n:Nat}{a:Addr}{d:FuncData}{ps:List Str}{sp:Sp}{spc spd:Addr->Sp}
theorem RunsG.one (G:FnOk P w K mg base (CXR P w) k a d ps sp)(B:Binds K d ps [])(hk:k<=n):RunsG P w K mg base n fun f vs H Q E=>f=a/\sp vs H Q E:=by
 rintro f A outer s H us vs Q E hr e0 r ⟨rfl,h⟩
 have hl:us.length=ps.length:=by rw[<-r.length];exact G.len _ _ _ _ h
 have KX:K.In s.heap:=e0.mod.kin.keeps fun b o e=>(e0.bs b o e).1
 have hb:=B s us KX (by rw[Yz];exact hl)
 rw[Yz]at hb
 exact G.run A outer s H ⟨us, []⟩ us vs Q E (hr.mono hk) e0 hb r h
theorem RunsG.or (F:RunsG P w K mg base n spc)(G:RunsG P w K mg base n spd):RunsG P w K mg base n fun f vs H Q E=>spc f vs H Q E\/spd f vs H Q E:=fun f A outer s H us vs Q E hr e0 r h=>
 h.elim (F f A outer s H us vs Q E hr e0 r) (G f A outer s H us vs Q E hr e0 r)
end
end L2

/-! BITS AND NUMBERS,plain -/
namespace Bm
def bitI (n j:Nat):Int:=if n.testBit j then 1 else 0
def bitsI (n m:Nat):List Int:=(List.range m).map fun i=>bitI n (m-1-i)
def numI (bs:List Int):Int:=bs.foldl (fun x b=>x*2+b) 0
def Bits (bs:List Int):Prop:=∀b∈bs,b=0\/b=1
end Bm

/-! RUNS AND CHANGES,plain -/
namespace Rn
open Bm
end Rn

namespace Cl
/-- the sum without carries of f 0 .. f (n-1) -/
def xs:Nat->(Nat->Nat)->Nat
 |0,_=>0
 |n+1,f=>xs n f ^^^ f n
end Cl

/-! RESTS by the check's key,plain:R is the sum of the rests of a number's powers -/
namespace Rm
open Bm
def nx (r:Nat):Nat:=if 32768<=2*r then (2*r) ^^^ 64647 else 2*r
def rr:Nat->Nat
 |0=>1
 |k+1=>nx (rr k)
/-- a power's rest where n has it -/
def tm (n k:Nat):Nat:=if n.testBit k then rr k else 0
def R (n:Nat):Nat:=Cl.xs 600 (tm n)
/-! ### of lists of bits -/
/-- the number that bits write -/
def nm (bs:List Int):Nat:=(numI bs).toNat
/-- the rest of bits -/
def rst (bs:List Int):Nat:=R (nm bs)
end Rm

/-! FEW PLACES:no row of one to five unlike places below 127 has the sum 0;bursts -/
namespace Rm
open Bm
/-! ### changed bits -/
end Rm

/-! WIRES,plain:runs at the end,bits put in and left out -/
namespace Wm
open Bm Rn
abbrev S:=Option Int×Nat
def skp (s:S)(b:Int):S:=(some b,if s.1=some b then s.2+1 else 1)
def sk (w:List Int):S:=w.foldl skp (none,0)
def run (w:List Int):Nat:=(sk w).2
/-! ### put in -/
def pst (w:List Int)(b:Int):List Int:=if run (w++[b])=5 then w++[b]++[1-b] else w++[b]
def put (l:List Int):List Int:=l.foldl pst []
/-! ### left out -/
def kst (s:S×List Int)(b:Int):S×List Int:=(skp s.1 b,if s.1.2=5 then s.2 else s.2++[b])
def kp (w:List Int):List Int:=(w.foldl kst ((none,0), [])).2
/-- never six alike ones -/
def Good (w:List Int):Prop:=∀k,k<=w.length->run (w.take k)<=5
end Wm

/-! THE CHECK,plain -/
namespace Rm
open Bm
def zs (n:Nat):List Int:=List.replicate n 0
/-- what noughts in the check's place leave -/
def ckn (bs:List Int):Nat:=rst (bs++zs 15)
def ck (bs:List Int):List Int:=bitsI (ckn bs) 15
end Rm

/-! alike ones as the laws ask them;heads -/
namespace Wm
open L2 Bm Rn
end Wm

-- names:a7A a2Y a2X a8X a4I b0Z a8W a6Z a6Y a4H a6X a4G b0Y a8V a8U a4F a4E a6W a8T a4D b0X a8S a6V a8R a4C a2W a4B a6U a4A a8Q wV a8P yW a2V a2U a6T a3Z b0W a8O a2T a3Y a3X a3W a8N b5F c3V b5E b7H a3V b2J b7G a8M b2I b0V b0U b0T b0S a6S b2H b0R a6R a8L a6Q a8K a8J b5D a8I b0Q mV jX jW pW lL cV pU mR mQ lK fC lJ rT pR pQ lH lG mO pP lF jV iQ mL pO lE aU lD mK gP aG dD kZ bN fB eZ bD bW dO bQ eY cU gO gM kY jU a6P uA vP cT qG c3U cR gH mJ mH pN pM kW rY pL kO lV kJ lU lR tZ kI mG a3I c7Q tY pK pJ dZ vC rH wU a3H c5Y c8C vA tX c7M jT tW rG lQ aY qF bI bA bL cG qD jJ aZ lO c8D c8B rE wQ uZ uY rD rB tV bF kE uX rA wO uW tU uV qZ pI qY tR c5X c7L c7P c7O c6A c3T c7K c7J c5W a9I uO xJ mF xH qC tQ tO vO uN a0M xG tM uM uL uK xF a6O b7F a6N a9H uJ a3G b7E wZ a3F a0L a0K rR rQ mD uG rP lZ pH lY pG pD a6M wY a0J a0H wM wL a2S yQ a5F a2R a0G a0F yP a0E yO a5E a2Q a2P yN yM a0D a2O yL a5D a2N a0C a2M yK wK yJ a0B yI a2L rO a2K uF wJ wI a0A yH a5C a2J wH yG yF yE a2I b0N c1M b0M b3E yD a7Q c1L a2H a7P a5B a5A a4Z a4Y zZ a7O a4X zY a2G zX a2F a2E b0L a2D a4W tK cB aM dY bV aO aF pC qX qW qU tH pB gG nG cI nF gF lB pA qT oZ qR qQ qP tG oY eV eQ fZ bT iK iJ fY jR jE fX fW iI jD fV dN dG iH fU aP fQ iG qO tD sZ oX sY sX fP fO iD iC iB jC gZ gY jB gW gU jA iZ iY jQ fM fK gR cF aL cL dM dU jP fJ iW cX jO jH iV cQ eE cJ jN cA dJ fH cW cY dC gQ qN nD oW oU oR qM nC mZ oO oN oM qL mY oK oJ qK qJ qI sW oH eN pY a6F dW vM b0F b0E oF oE b4I oA uT iU iT nZ sU sS wF bJ zU cH aV cN lM uE bK wD wC c3N gK b0D cC nY b0C b4H b6O b6N sO b1S a8D b4G b4F vL sJ a8C b0B uR dR cO nW b4E b4D fG jG a3U a0S a0R a6C a1X a8B a6B a3T a3S a1W a3R a1V a8A a6A a5Z a1U a1T a3Q a5Y a1S a7Z a5X a3P a5W a1R a0Q a1Q a3O a1P a5V vG a5U wX a0P a0O a3N a1O a7Y a5T a0N a1N a1M a1L a5S b1O c0F b1N b3Z a1K a9W c0E a5R a9V a7X a7W a7V a7U a3M a9U a7T a3L a5Q a3K a5P a5O b1M a5N a7S zM vZ vY a1H xZ a4T a1G zL zK xY zJ xX a4S a1F a1E xW xV zH a1D xU a4R a1C zG a1B xT vX xR zF xQ a1A rN uQ uD vW vV zE xP uC a0Z vU xO xN xM a0Y a9R b9Q a9Q b2P xK a7F b9P a0X a7E a4Q a4P a4O a4N zB a7D a4M zA a0W yZ a0V a0U a9P a0T a4L t_ANSWER_AT t_BYTE_BITS t_CHECK_BITS t_DATA_AT t_DUEL_BITS t_FIGURES t_FLAG_BITS t_GREAT_FAULT t_HIGHEST_BYTE t_HIGHEST_NAME t_KEY t_MOST_ALIKE t_MOST_BITS t_MOST_BYTES_frames t_MOST_BYTES_things t_MOST_FIGURES t_MOST_POSTS t_MOST_TURNS t_NAME_BITS t_OFF_FROM t_PIECE_BYTES t_QUIET_FROM t_QUIET_TURNS t_REST_TURNS t_SIGNS t_SIZE_AT t_SIZE_BITS t_SMALL_FAULT t_STRIP_BITS t_VOTES_AT
namespace My
open PySem L2
def top (i:Nat):Stmt:=PySem.Challenge.pw_bitrail_k82_words_of_rows.main.body.getD i (.Pass ⟨0,0,0,0⟩)
def clsBody (s:Stmt):List Stmt:=match s with | .ClassDef _ _ _ b _ _ _ _ _ _ _=>b | _=>[]
abbrev zJ:Stmt:=(clsBody (top 12)).getD 0 (.Pass ⟨0,0,0,0⟩)
abbrev a0Z:Stmt:=top 18
abbrev a7F:Stmt:=top 41
abbrev xO:Stmt:=top 53
abbrev zM:Stmt:=(clsBody (top 64)).getD 0 (.Pass ⟨0,0,0,0⟩)
abbrev vZ:Stmt:=(clsBody (top 64)).getD 7 (.Pass ⟨0,0,0,0⟩)
abbrev vY:Stmt:=(clsBody (top 64)).getD 5 (.Pass ⟨0,0,0,0⟩)
abbrev a1G:Stmt:=(clsBody (top 83)).getD 0 (.Pass ⟨0,0,0,0⟩)
abbrev zL:Stmt:=(clsBody (top 83)).getD 1 (.Pass ⟨0,0,0,0⟩)
abbrev xW:Stmt:=(clsBody (top 96)).getD 9 (.Pass ⟨0,0,0,0⟩)
abbrev xX:Stmt:=(clsBody (top 96)).getD 7 (.Pass ⟨0,0,0,0⟩)
abbrev a1F:Stmt:=(clsBody (top 96)).getD 1 (.Pass ⟨0,0,0,0⟩)
abbrev a9R:Stmt:=top 95
abbrev zH:Stmt:=(clsBody (top 96)).getD 5 (.Pass ⟨0,0,0,0⟩)
abbrev a4S:Stmt:=(clsBody (top 96)).getD 6 (.Pass ⟨0,0,0,0⟩)
abbrev xM:Stmt:=top 93
abbrev vU:Stmt:=top 94
abbrev a1E:Stmt:=(clsBody (top 96)).getD 0 (.Pass ⟨0,0,0,0⟩)
abbrev xV:Stmt:=(clsBody (top 96)).getD 4 (.Pass ⟨0,0,0,0⟩)
abbrev a1B:Stmt:=(clsBody (top 99)).getD 0 (.Pass ⟨0,0,0,0⟩)
abbrev vX:Stmt:=(clsBody (top 99)).getD 5 (.Pass ⟨0,0,0,0⟩)
abbrev a1C:Stmt:=(clsBody (top 99)).getD 1 (.Pass ⟨0,0,0,0⟩)
abbrev xR:Stmt:=(clsBody (top 99)).getD 11 (.Pass ⟨0,0,0,0⟩)
abbrev zF:Stmt:=(clsBody (top 99)).getD 12 (.Pass ⟨0,0,0,0⟩)
abbrev a4R:Stmt:=(clsBody (top 99)).getD 13 (.Pass ⟨0,0,0,0⟩)
abbrev xU:Stmt:=(clsBody (top 99)).getD 14 (.Pass ⟨0,0,0,0⟩)
abbrev xT:Stmt:=(clsBody (top 99)).getD 16 (.Pass ⟨0,0,0,0⟩)
abbrev zG:Stmt:=(clsBody (top 99)).getD 9 (.Pass ⟨0,0,0,0⟩)
abbrev a1D:Stmt:=(clsBody (top 99)).getD 7 (.Pass ⟨0,0,0,0⟩)
abbrev a4Q:Stmt:=top 26
abbrev xN:Stmt:=top 25
abbrev b9Q:Stmt:=top 24
abbrev a0X:Stmt:=top 114
abbrev a0Y:Stmt:=top 115
abbrev a4L:Stmt:=top 113
abbrev a9P:Stmt:=top 105
abbrev a4P:Stmt:=top 112
abbrev a9Q:Stmt:=top 116
abbrev xK:Stmt:=top 117
abbrev a7E:Stmt:=top 121
abbrev xY:Stmt:=(clsBody (top 30)).getD 0 (.Pass ⟨0,0,0,0⟩)
abbrev zK:Stmt:=(clsBody (top 30)).getD 6 (.Pass ⟨0,0,0,0⟩)
abbrev a0T:Stmt:=top 120
abbrev a4M:Stmt:=top 122
abbrev a7D:Stmt:=top 128
abbrev a0V:Stmt:=top 129
abbrev zB:Stmt:=top 132
abbrev zA:Stmt:=top 131
abbrev a0U:Stmt:=top 124
abbrev yZ:Stmt:=top 130
abbrev a4N:Stmt:=top 127
abbrev a0W:Stmt:=top 123
abbrev b2P:Stmt:=top 17
abbrev a4O:Stmt:=top 126
abbrev a1H:Stmt:=(clsBody (top 134)).getD 0 (.Pass ⟨0,0,0,0⟩)
abbrev xZ:Stmt:=(clsBody (top 134)).getD 2 (.Pass ⟨0,0,0,0⟩)
abbrev a4T:Stmt:=(clsBody (top 134)).getD 1 (.Pass ⟨0,0,0,0⟩)
abbrev a1A:Stmt:=top 136
abbrev xP:Stmt:=top 137
abbrev uD:Stmt:=top 141
abbrev zE:Stmt:=top 138
abbrev uC:Stmt:=top 140
abbrev uQ:Stmt:=top 139
abbrev vV:Stmt:=top 142
abbrev rN:Stmt:=top 143
abbrev vW:Stmt:=top 144
abbrev xQ:Stmt:=top 145
abbrev b9P:Stmt:=top 146

theorem aX {H:Hp}{p:Addr}(h:H p=none)(o:HO):Same H (upd H p o):=fun b u q=>by rw[aQ (bO q h)];exact q
theorem nS {H H':Hp}{a:Addr}{v:HO}(h:H a=none)(e:upd H a v=H'):Same H H':=e▸aX h v
theorem nE {H H':Hp}{a:Addr}{v:HO}(e:upd H a v=H'):H' a=some v:=e▸aK
theorem small {n:Nat}(h:n<=1000):n<=sizeLine:=Xl (a7C h)
theorem aN {n:Nat}(h:decide (n<=1000)=true):n<=sizeLine:=small (Xd h)
theorem nQ {n:Nat}(h:n<=1000):n<sizeLine:=a7C h
theorem _root_.L2.Same.put {H H':Hp}{p:Addr}{o:HO}(g:Same H H')(h:H p=none):Same H (upd H' p o):=fun b u q=>by rw[aQ (bO q h)];exact g b u q
theorem _root_.L2.Same.none {H H':Hp}{x:Addr}(g:Same H H')(h:H' x=none):H x=none:=by
 cases e:H x with
 |none=>rfl
 |some o=>rw[g x o e]at h;cases h
theorem b1K {H:Hp}{C x dx:Addr}{fs:List (Str×V)}(hx:H x=none)(hd:H dx=none):Same H (upd (upd (upd H dx (.own x)) x (.ins C dx [])) x (.ins C dx fs)):=fun b u q=>by
 rw[aQ (bO q hx),aQ (bO q hx),aQ (bO q hd)];exact q
theorem mX {c A B:Prop}[Decidable c](hc:c)(h:A):if decide c=true then A else B:=by rw[Yk hc];exact c6Z h
theorem jM {c A B:Prop}[Decidable c](hc:¬ c)(h:B):if decide c=true then A else B:=by rw[Yi hc];exact c7B h
open Bm Rm
theorem b6U {bs:List Int}{i:Nat}{x:V}(hx:(bs.map V.int)[i]? =some x):∃h:i<bs.length,x= .int bs[i]:=by
 have hi:i<bs.length:=by
  have:=(Yc.mp hx).1
  rwa [Ya]at this
 refine⟨hi,?_⟩
 rw[Yq,Yh hi]at hx
 exact(YE hx).symm
def szB (bs:List Int):Nat:=nm ((bs.drop 9).take 3)
def nmB (bs:List Int):Nat:=nm ((bs.drop 1).take 8)
def dtB (bs:List Int)(k:Nat):Int:=((nm ((bs.drop (12+8*k)).take 8):Nat):Int)
def daB (bs:List Int):List Int:=(List.range (szB bs)).map (dtB bs)
def CmpB (bs:List Int):Prop:=12<=bs.length/\bs.length=27+8*szB bs
open Bm Rn Wm
def lastV:Option Int->V
 |none=> .non
 |some b=> .int b
abbrev skF (s:S):List (Str×V):=[("last",lastV s.1),("alike",.int ((s.2:Nat):Int))]
def SkAt (C:Addr)(H:Hp)(a:Addr)(s:S):Prop:=∃dx,H a=some (.ins C dx (skF s))
theorem SkAt.same {C:Addr}{H H':Hp}{a:Addr}{n:S}(h:SkAt C H a n)(g:Same H H'):SkAt C H' a n:=by
 obtain⟨dx,e⟩:=h
 exact⟨dx,g _ _ e⟩
instance decCmp (bs:List Int):Decidable (CmpB bs):=by unfold CmpB;infer_instance
def ans (w:List Int):Str:=if 5<run w then "six" else if run w=5\/¬ CmpB (kp w) then "more" else if rst (kp w)=0 then "whole" else "bad"
abbrev rdF (st ks:Addr)(t:Str):List (Str×V):=[("streak",.ref st),("kept",.ref ks),("answer",.str t)]
structure RdAt (C CK:Addr)(H:Hp)(r st ks:Addr)(w:List Int)(t:Str):Prop where
 rd:∃dx,H r=some (.ins C dx (rdF st ks t))
 sk:SkAt CK H st (sk w)
 kp:H ks=some (.lst ((kp w).map V.int))
theorem RdAt.same {C CK:Addr}{H H':Hp}{r st ks:Addr}{w:List Int}{t:Str}(h:RdAt C CK H r st ks w t)(g:Same H H'):RdAt C CK H' r st ks w t:=⟨let ⟨dx,e⟩:=h.rd;⟨dx,g _ _ e⟩,h.sk.same g,g _ _ h.kp⟩
def byt (n:Int):Bool:=decide (0<=n) && decide (n<=255)
theorem uI {n:Int}:byt n=true↔0<=n/\n<=255:=by unfold byt;simp
theorem b7C {n:Int}(h:byt n=true):∃m:Nat,n=m/\m<256:=by
 obtain⟨h0,h1⟩:=uI.mp h
 exact⟨n.toNat,by omega,by omega⟩
def spByt:Sp:=fun vs H Q _=>∃n,vs= [.int n]/\Q (.bl (byt n)) H
def spBytes (K:W.Frag):Sp:=fun vs H Q _=>∃(a:Addr)(ns:List Int),vs= [.ref a]/\SqA K H a (ns.map V.int)/\ns.length<=500/\∀H',Same H H'->Q (.bl (ns.all byt)) H'
def FrOk (n:Int)(ds:List Int):Prop:=byt n=true/\ds.length<=7/\ds.all byt=true
def spChkF (K:W.Frag)(C:Addr):Sp:=fun vs H Q E=>∃(n:Int)(a:Addr)(ds:List Int),vs= [.int n,.ref a]/\SqL K H a (ds.map V.int)/\ds.length<=500/\(FrOk n ds->∀H',Same H H'->Q .non H')/\(¬ FrOk n ds->∀H',Same H H'->E (.ref C) none H')
/-- the bits of a frame ahead of the check -/
def b8 (d:Int):List Int:=bitsI d.toNat 8
def hdD (n:Int)(k:Nat)(ds:List Int):List Int:=[0]++b8 n++bitsI k 3++(ds.map b8).flatten
def hd (n:Int)(ds:List Int):List Int:=hdD n ds.length ds
def fb (n:Int)(ds:List Int):List Int:=hd n ds++ck (hd n ds)
theorem c0H {n:Int}{ds:List Int}(h:¬ byt n=true\/7<ds.length\/∃d∈ds,¬ byt d=true):¬ FrOk n ds:=fun ⟨h1,h2,h3⟩=>by
 rcases h with h | h | ⟨d,hd,h⟩
 ·exact h h1
 ·omega
 ·exact h (YH.mp h3 d hd)
/-! a frame's bits are read as it -/
/-! what is kept of a front is a front of what is kept -/
theorem a9E {n k:Nat}(h:k<n):ixN n ((k:Nat):Int)=some k:=by
 unfold ixN
 rw[if_pos (by omega),if_pos (by omega),Xi]
/-- what holds ahead of a bit that is heard -/
structure On (w:List Int):Prop where
 good:Good w
 le:12<=(kp w).length->(kp w).length<=27+8*szB (kp w)
 five:CmpB (kp w)->run w=5
def spVotes (C:Addr):Sp:=fun vs H Q E=>∃v:Int,vs= [.int v]/\((v=1\/v=3\/v=5)->Q .non H)/\(¬ (v=1\/v=3\/v=5)->E (.ref C) none H)
theorem b1R (v:Int):decide (v∈ [(1:Int),3,5])=true↔(v=1\/v=3\/v=5):=by
 rw[Y2]
 simp
abbrev tlF (v:Nat)(s:Bool)(o n:Nat):List (Str×V):=[("votes",.int v),("spoke",.bl s),("over",.int o),("noughts",.int n)]
def TlAt (C1 C2:Addr)(H:Hp)(t:Addr)(v:Nat)(s:Bool)(o n:Nat):Prop:=∃C dx,(C=C1\/C=C2)/\H t=some (.ins C dx (tlF v s o n))
def tlSays (s:Bool)(o:Nat):Int:=if o=1/\s=false then 0 else 1
def tlFault (s:Bool)(o:Nat)(b:Int):Bool:=if o=1 then s && decide (b=1) else decide (b=0)
def tlN (o:Nat)(b:Int)(n:Nat):Nat:=if 9<=o/\b=0 then n+1 else n
def tlVote (v o n:Nat):Str:=if o<9+v then ("more":Str) else if v / 2<n then ("refused":Str) else ("taken":Str)
def tlWord (v:Nat)(s:Bool)(o n:Nat)(b:Int):Str:=if 9<=o then tlVote v (o+1) (tlN o b n) else if tlFault s o b=true then ("fault":Str) else ("more":Str)
abbrev ctF (n:Int):List (Str×V):=[("total",.int n)]
def CtAt (C:Addr)(H:Hp)(a:Addr)(n:Int):Prop:=∃dx,H a=some (.ins C dx (ctF n))
/-- the same but for the object at a -/
def spCtInit (C:Addr):Sp:=fun vs H Q _=>∃a dx,vs= [.ref a]/\H a=some (.ins C dx [])/\Q .non (upd H a (.ins C dx (ctF 0)))
def spCtB (C:Addr)(lim:Int):Sp:=fun vs H Q _=>∃a n,vs= [.ref a]/\CtAt C H a n/\Q (.bl (decide (lim<=n))) H
def spCtN (C:Addr):Sp:=fun vs H Q _=>∃a n,vs= [.ref a]/\CtAt C H a n/\Q (.int n) H
def mvd (n st:Int):Int:=if 18<=n then n else max 0 (n+st)
abbrev Own:=Addr->Prop
def isT (o:HO):Prop:=∃vs,o= .tup vs
/-- all that is not own stays,and tuples stay -/
def Keep (o:Own)(H H':Hp):Prop:=∀x v,H x=some v->(¬ o x\/isT v)->H' x=some v
def Mv (o:Own)(H:Hp)(o':Own)(H':Hp):Prop:=Keep o H H'/\∀x,o' x->o x\/H x=none
abbrev Or2 (a b:Own):Own:=fun x=>a x\/b x
theorem Keep.of {o:Own}{H H':Hp}(g:Same H H'):Keep o H H':=fun x v e _=>g x v e
theorem Keep.refl {o:Own}{H:Hp}:Keep o H H:=fun _ _ e _=>e
theorem Keep.tup {o:Own}{H H':Hp}{x:Addr}{vs:List V}(k:Keep o H H')(e:H x=some (.tup vs)):H' x=some (.tup vs):=k x _ e (.inr ⟨vs,rfl⟩)
theorem Keep.le {o o':Own}{H H':Hp}(k:Keep o H H')(h:∀x,o x->o' x):Keep o' H H':=fun x v e z=>k x v e (z.elim (fun y=> .inl fun w=>y (h x w)) .inr)
theorem Mv.refl {o:Own}{H:Hp}:Mv o H o H:=⟨Keep.refl,fun _=> .inl⟩
theorem Mv.of {o:Own}{H H':Hp}(g:Same H H'):Mv o H o H':=⟨Keep.of g,fun _=> .inl⟩
theorem Mv.trans {o o1 o2:Own}{H H1 H2:Hp}(a:Mv o H o1 H1)(b:Mv o1 H1 o2 H2):Mv o H o2 H2:=by
 refine⟨fun x v e z=>b.1 x v (a.1 x v e z) ?_,fun x hx=>?_⟩
 ·rcases z with z | z
  ·exact .inl fun w=>(a.2 x w).elim z fun n=>by rw[n]at e;cases e
  ·exact .inr z
 ·rcases b.2 x hx with h | h
  ·exact a.2 x h
  ·rcases Classical.em (o x) with c | c
   ·exact .inl c
   ·right
    cases e:H x with
    |none=>rfl
    |some v=>rw[a.1 x v e (.inl c)]at h;cases h
/-- what is not own stays not own -/
theorem Mv.out {o o1:Own}{H H1:Hp}(a:Mv o H o1 H1){x:Addr}{v:HO}(e:H x=some v)(h:¬ o x):¬ o1 x:=fun w=>(a.2 x w).elim h fun n=>by rw[n]at e;cases e
structure Cs where
 (post count free speaks reads intail flag settles rests off reader streak rtail stail:Addr)
inductive Stc where
 |free (k:Nat) | speaks (n:Nat) (ds:List Int) (k:Nat) | reads (h:List Int) | tlS (v c:Nat) | tlR (n:Nat) (ds:List Int) (v c:Nat) | flag (l:Nat) (m:Bool) | settles (m:Bool) | rests (l:Nat) | off
abbrev Fr:=Nat×List Int
structure PS where
 (m1 m2 vt:Nat) (wt up:List Fr) (tot:Int) (now:Stc)
abbrev wr (n:Nat)(ds:List Int):List Int:=put (fb (n:Int) ds)
def Stc.shown:Stc->Str×Nat
 |.free k=>("free",k)
 |.speaks _ _ k=>("speaks",k)
 |.reads h=>("reads",h.length)
 |.tlS v _=>("tail speaks",v)
 |.tlR _ _ v _=>("tail reads",v)
 |.flag l _=>("flag",l)
 |.settles _=>("settles",0)
 |.rests l=>("rests",l)
 |.off=>("off",0)
def saysP (S:PS):Int:=match S.now with
 |.free k=>if S.wt= [] then 1 else if 12<=S.tot/\k<8 then 1 else 0
 |.speaks n ds k=>(wr n ds).getD k 0
 |.tlS v _=>tlSays true v
 |.tlR _ _ v _=>tlSays false v
 |.flag _ _=>0
 |_=>1
/-- a count that goes on:off,or the word and the stance -/
def goneP (S:PS)(st:Int)(w:Str)(nx:Stc):Str×PS:=if 18<=mvd S.tot st then ("off",{ S with tot:=mvd S.tot st,now:= .off }) else (w,{ S with tot:=mvd S.tot st,now:=nx })
def faultP (S:PS)(sp:Bool):Str×PS:=goneP S (if sp=true then 8 else 1) "fault" (.flag 6 (!sp))
def refuseP (S:PS)(sp:Bool):Str×PS:=goneP S (if sp=true then 8 else 1) "refuses" (.settles false)
def blameP (S:PS):Str×PS:=goneP S 8 "" (.settles false)
def wantP (S:PS)(n:Nat):Bool:=decide (Builtin.bitAnd ((n:Nat):Int) ((S.m1:Nat):Int)=((S.m2:Nat):Int))
def hearP (S:PS)(b:Int):Str×PS:=match S.now with
 |.free k=>if saysP S=0 then (if b=0 then ("begins",{ S with now:= .speaks (S.wt.headD (0, [])).1 (S.wt.headD (0, [])).2 1 }) else faultP S true) else if b=0 then ("",{ S with now:= .reads [0] }) else ("",{ S with now:= .free (k+1) })
 |.speaks n ds k=>if ans ((wr n ds).take k++[b])="six" then faultP S true else if (wr n ds).getD k 0=1/\b=0/\(kp ((wr n ds).take k)).length<9 then ("loses",{ S with now:= .reads ((wr n ds).take k++[b]) }) else if b=(wr n ds).getD k 0 then (if k+1=(wr n ds).length then ("",{ S with now:= .tlS 0 0 }) else ("",{ S with now:= .speaks n ds (k+1) })) else faultP S true
 |.reads h=>if ans (h++[b])="more" then ("",{ S with now:= .reads (h++[b]) }) else if ans (h++[b])="whole" then ("",{ S with now:= .tlR (nmB (kp (h++[b]))) (daB (kp (h++[b]))) 0 0 }) else faultP S false
 |.tlS v c=>if tlWord S.vt true v c b="more" then ("",{ S with now:= .tlS (v+1) (tlN v b c) }) else if tlWord S.vt true v c b="fault" then faultP S true else if tlWord S.vt true v c b="refused" then refuseP S true else ("done",{ S with tot:=mvd S.tot (-1),wt:=S.wt.tail,now:= .rests 3 })
 |.tlR n ds v c=>if tlWord S.vt false v c b="more" then ("",{ S with now:= .tlR n ds (v+1) (tlN v b c) }) else if tlWord S.vt false v c b="fault" then faultP S false else if tlWord S.vt false v c b="refused" then refuseP S false else ("takes",{ S with tot:=mvd S.tot (-1),up:=if wantP S n=true then S.up++[(n,ds)] else S.up,now:= .rests 3 })
 |.flag l m=>if l=1 then ("",{ S with now:= .settles m }) else ("",{ S with now:= .flag (l-1) m })
 |.settles m=>if b=1 then ("",{ S with now:= .rests 3 }) else if m=true then blameP S else ("",S)
 |.rests l=>if b=0 then faultP S false else ("",{ S with now:=if l=1 then .free 0 else .rests (l-1) })
 |.off=>("",S)
def FrN (f:Fr):Prop:=f.1<256/\f.2.length<=7/\f.2.all byt=true
def Stc.Wf (wt:List Fr):Stc->Prop
 |.speaks n ds k=>FrN (n,ds)/\1<=k/\k<(wr n ds).length/\wt≠ []
 |.reads h=>Bits h/\On h/\h.head? =some 0
 |.tlS _ _=>wt≠ []
 |.flag l _=>1<=l
 |.rests l=>1<=l
 |_=>True
structure Wf (S:PS):Prop where
 vt:S.vt<=5
 wt:∀f∈S.wt,FrN f
 now:S.now.Wf S.wt
/-! ### on the heap -/
def FrAt (H:Hp)(o:Own)(t:Addr)(f:Fr):Prop:=∃d,H t=some (.tup [.int ((f.1:Nat):Int),.ref d])/\H d=some (.lst (f.2.map V.int))/\o d
inductive FrsAt (H:Hp)(o:Own):List V->List Fr->Prop
 |nil:FrsAt H o [] []
 |cons {t:Addr} {f:Fr} {ts:List V} {fs:List Fr}:FrAt H o t f->FrsAt H o ts fs->FrsAt H o (.ref t::ts) (f::fs)
theorem FrsAt.len {H:Hp}{o:Own}:∀{ts:List V}{fs:List Fr},FrsAt H o ts fs->ts.length=fs.length
 |_,_,.nil=>rfl
 |_,_,.cons _ r=>Yy (·+1) r.len
theorem FrsAt.snoc {H:Hp}{o:Own}{t:Addr}{f:Fr}:∀{ts:List V}{fs:List Fr},FrsAt H o ts fs->FrAt H o t f->FrsAt H o (ts++[.ref t]) (fs++[f])
 |_,_,.nil,h=> .cons h .nil
 |_,_,.cons a r,h=> .cons a (r.snoc h)
theorem FrAt.imp {H H':Hp}{o o':Own}{t:Addr}{f:Fr}(h:FrAt H o t f)(g:∀x v,H x=some v->(o x\/isT v)->H' x=some v)(w:∀x,o x->o' x):FrAt H' o' t f:=by
 obtain⟨d,e1,e2,e3⟩:=h
 exact⟨d,g _ _ e1 (.inr ⟨_,rfl⟩),g _ _ e2 (.inl e3),w d e3⟩
theorem FrsAt.imp {H H':Hp}{o o':Own}(g:∀x v,H x=some v->(o x\/isT v)->H' x=some v)(w:∀x,o x->o' x):∀{ts:List V}{fs:List Fr},FrsAt H o ts fs->FrsAt H' o' ts fs
 |_,_,.nil=> .nil
 |_,_,.cons a r=> .cons (a.imp g w) (r.imp g w)
theorem FrsAt.get {H:Hp}{o:Own}:∀{ts:List V}{fs:List Fr},FrsAt H o ts fs->∀{i:Nat}{v:V},ts[i]? =some v->∃t f,v= .ref t/\fs[i]? =some f/\FrAt H o t f
 |_,_,.cons a _,0,_,rfl=>⟨_,_,rfl,rfl,a⟩
 |_,_,.cons _ r,i+1,_,h=>r.get (i:=i) h
abbrev pF (ch:Addr)(vt:Nat)(wl ul ct nw:Addr):List (Str×V):=[("choice",.ref ch),("votes",.int vt),("waiting",.ref wl),("handed_up",.ref ul),("tally",.ref ct),("now",.ref nw)]
/-- the data lists:own,and neither of the two lists -/
abbrev Dl (o:Own)(wl ul:Addr):Own:=fun x=>o x/\x≠wl/\x≠ul
structure BAt (A:Cs)(H:Hp)(p nwf:Addr)(S:PS)(o:Own)(dx ch wl ul ct:Addr)(ws us:List V):Prop where
 e:H p=some (.ins A.post dx (pF ch S.vt wl ul ct nwf))
 ec:H ch=some (.tup [.int S.m1,.int S.m2])
 ew:H wl=some (.lst ws)
 fw:FrsAt H (Dl o wl ul) ws S.wt
 eu:H ul=some (.lst us)
 fu:FrsAt H (Dl o wl ul) us S.up
 et:CtAt A.count H ct S.tot
 op:o p
 ow:o wl
 ou:o ul
 ot:o ct
 ne:wl≠ul
 al:∀x,o x->H x≠none
def Bd (A:Cs)(H:Hp)(p nwf:Addr)(S:PS)(o:Own):Prop:=∃dx ch wl ul ct ws us,BAt A H p nwf S o dx ch wl ul ct ws us
theorem BAt.move {A:Cs}{H H':Hp}{p nwf:Addr}{S:PS}{o:Own}{dx ch wl ul ct:Addr}{ws us:List V}(h:BAt A H p nwf S o dx ch wl ul ct ws us)(g:∀x v,H x=some v->(o x\/isT v)->H' x=some v):BAt A H' p nwf S o dx ch wl ul ct ws us:=
 ⟨g _ _ h.e (.inl h.op),g _ _ h.ec (.inr ⟨_,rfl⟩),g _ _ h.ew (.inl h.ow),h.fw.imp (fun x v e z=>g x v e (z.imp_left And.left)) fun _ z=>z,g _ _ h.eu (.inl h.ou),h.fu.imp (fun x v e z=>g x v e (z.imp_left And.left)) fun _ z=>z,
  let ⟨d,e⟩:=h.et;⟨d,g _ _ e (.inl h.ot)⟩,h.op,h.ow,h.ou,h.ot,h.ne,fun x hx=>by
   have:=h.al x hx
   cases e:H x with
   |none=>exact absurd e this
   |some v=>rw[g x v e (.inl hx)];simp⟩
theorem Bd.move {A:Cs}{H H':Hp}{p nwf:Addr}{S:PS}{o:Own}(h:Bd A H p nwf S o)(g:∀x v,H x=some v->(o x\/isT v)->H' x=some v):Bd A H' p nwf S o:=
 let ⟨dx,ch,wl,ul,ct,ws,us,b⟩:=h;⟨dx,ch,wl,ul,ct,ws,us,b.move g⟩
theorem Bd.al {A:Cs}{H:Hp}{p nwf:Addr}{S:PS}{o:Own}(h:Bd A H p nwf S o):∀x,o x->H x≠none:=let ⟨_,_,_,_,_,_,_,b⟩:=h;b.al
def StAt (A:Cs)(H:Hp)(nw:Addr)(vt:Nat)(o:Own):Stc->Prop
 |.free k=>∃dx,H nw=some (.ins A.free dx [("since",.int ((k:Nat):Int))])
 |.speaks n ds k=>∃dx wa r st ks t,H nw=some (.ins A.speaks dx [("wire",.ref wa),("reader",.ref r),("many",.int ((k:Nat):Int))])/\H wa=some (.lst ((wr n ds).map V.int))/\RdAt A.reader A.streak H r st ks ((wr n ds).take k) t/\wa≠ks/\o wa/\o r/\o st/\o ks
 |.reads h=>∃dx r st ks t,H nw=some (.ins A.reads dx [("reader",.ref r),("many",.int ((h.length:Nat):Int))])/\RdAt A.reader A.streak H r st ks h t/\o r/\o st/\o ks
 |.tlS v c=>∃dx tl,H nw=some (.ins A.intail dx [("tail",.ref tl),("found",.non)])/\TlAt A.rtail A.stail H tl vt true v c/\o tl
 |.tlR n ds v c=>∃dx tl t d,H nw=some (.ins A.intail dx [("tail",.ref tl),("found",.ref t)])/\TlAt A.rtail A.stail H tl vt false v c/\H t=some (.tup [.int ((n:Nat):Int),.ref d])/\H d=some (.lst (ds.map V.int))/\o tl/\o d
 |.flag l m=>∃dx,H nw=some (.ins A.flag dx [("left",.int ((l:Nat):Int)),("may_blame",.bl m)])
 |.settles m=>∃dx,H nw=some (.ins A.settles dx [("may_blame",.bl m)])
 |.rests l=>∃dx,H nw=some (.ins A.rests dx [("left",.int ((l:Nat):Int))])
 |.off=>∃dx,H nw=some (.ins A.off dx [])
structure StW (A:Cs)(H:Hp)(nw:Addr)(S:PS)(o:Own):Prop where
 at_:StAt A H nw S.vt o S.now
 on:o nw
 al:∀x,o x->H x≠none
theorem b6I {C CK:Addr}{H H':Hp}{r st ks:Addr}{w:List Int}{t:Str}(h:RdAt C CK H r st ks w t)(g1:∀v,H r=some v->H' r=some v)(g2:∀v,H st=some v->H' st=some v)(g3:∀v,H ks=some v->H' ks=some v):RdAt C CK H' r st ks w t:=
 ⟨let ⟨d,e⟩:=h.rd;⟨d,g1 _ e⟩,let ⟨d,e⟩:=h.sk;⟨d,g2 _ e⟩,g3 _ h.kp⟩
theorem StW.move {A:Cs}{H H':Hp}{nw:Addr}{S:PS}{o:Own}(h:StW A H nw S o)(g:∀x v,H x=some v->(o x\/isT v)->H' x=some v):StW A H' nw S o:=by
 obtain⟨a,on,al⟩:=h
 have gn:∀v,H nw=some v->H' nw=some v:=fun v e=>g _ _ e (.inl on)
 refine⟨?_,on,fun x hx=>?_⟩
 ·revert a
  generalize S.now=s
  cases s with
  |free k=>intro hh;obtain⟨dx,e⟩:=hh;exact⟨dx,gn _ e⟩
  |speaks n ds k=>intro hh;obtain⟨dx,wa,r,st,ks,t,e,e1,e2,e3,o1,o2,o3,o4⟩:=hh;exact⟨dx,wa,r,st,ks,t,gn _ e,g _ _ e1 (.inl o1),b6I e2 (fun v z=>g _ _ z (.inl o2)) (fun v z=>g _ _ z (.inl o3)) (fun v z=>g _ _ z (.inl o4)),e3,o1,o2,o3,o4⟩
  |reads w=>intro hh;obtain⟨dx,r,st,ks,t,e,e2,o2,o3,o4⟩:=hh;exact⟨dx,r,st,ks,t,gn _ e,b6I e2 (fun v z=>g _ _ z (.inl o2)) (fun v z=>g _ _ z (.inl o3)) (fun v z=>g _ _ z (.inl o4)),o2,o3,o4⟩
  |tlS v c=>intro hh;obtain⟨dx,tl,e,⟨C,d,hC,e1⟩,o1⟩:=hh;exact⟨dx,tl,gn _ e,⟨C,d,hC,g _ _ e1 (.inl o1)⟩,o1⟩
  |tlR n ds v c=>intro hh;obtain⟨dx,tl,t,d,e,⟨C,d',hC,e1⟩,e2,e3,o1,o2⟩:=hh;exact⟨dx,tl,t,d,gn _ e,⟨C,d',hC,g _ _ e1 (.inl o1)⟩,g _ _ e2 (.inr ⟨_,rfl⟩),g _ _ e3 (.inl o2),o1,o2⟩
  |flag l m=>intro hh;obtain⟨dx,e⟩:=hh;exact⟨dx,gn _ e⟩
  |settles m=>intro hh;obtain⟨dx,e⟩:=hh;exact⟨dx,gn _ e⟩
  |rests l=>intro hh;obtain⟨dx,e⟩:=hh;exact⟨dx,gn _ e⟩
  |off=>intro hh;obtain⟨dx,e⟩:=hh;exact⟨dx,gn _ e⟩
 ·have:=al x hx
  cases e:H x with
  |none=>exact absurd e this
  |some v=>rw[g x v e (.inl hx)];simp
/-- a post -/
def PostAt (A:Cs)(H:Hp)(p:Addr)(S:PS)(o:Own):Prop:=∃nw ob os,Bd A H p nw S ob/\StW A H nw S os/\(∀x,ob x->os x->False)/\Wf S/\(∀x,ob x\/os x->o x)/\∀x,o x->H x≠none
theorem PostAt.move {A:Cs}{H H':Hp}{p:Addr}{S:PS}{o:Own}(h:PostAt A H p S o)(g:∀x v,H x=some v->(o x\/isT v)->H' x=some v):PostAt A H' p S o:=by
 obtain⟨nw,ob,os,b,s,d,w,i,al⟩:=h
 refine⟨nw,ob,os,b.move fun x v e z=>g x v e (z.imp_left fun y=>i x (.inl y)),s.move fun x v e z=>g x v e (z.imp_left fun y=>i x (.inr y)),d,w,i,fun x hx=>?_⟩
 have:=al x hx
 cases e:H x with
 |none=>exact absurd e this
 |some v=>rw[g x v e (.inl hx)];simp
theorem PostAt.same {A:Cs}{H H':Hp}{p:Addr}{S:PS}{o:Own}(h:PostAt A H p S o)(g:Same H H'):PostAt A H' p S o:=h.move fun x v e _=>g x v e
theorem PostAt.wf {A:Cs}{H:Hp}{p:Addr}{S:PS}{o:Own}(h:PostAt A H p S o):Wf S:=let ⟨_,_,_,_,_,_,w,_,_⟩:=h;w
theorem PostAt.al {A:Cs}{H:Hp}{p:Addr}{S:PS}{o:Own}(h:PostAt A H p S o):∀x,o x->H x≠none:=let ⟨_,_,_,_,_,_,_,_,a⟩:=h;a
theorem c1U (H:Hp)(a:Addr)(x y:HO):upd (upd H a x) a y=upd H a y:=by
 funext z
 by_cases h:z=a
 ·rw[h,aK,aK]
 ·rw[aQ h,aQ h,aQ h]
def spIni1 (C:Addr)(f:Str):Sp:=fun vs H Q _=>∃a dx v,vs= [.ref a,v]/\H a=some (.ins C dx [])/\∀H',H'=upd H a (.ins C dx [(f,v)])->Q .non H'
def spBdB (A:Cs)(lim:Int):Sp:=fun vs H Q _=>∃p nwf S o,vs= [.ref p]/\Bd A H p nwf S o/\Q (.bl (decide (lim<=S.tot))) H
def spBdN (A:Cs):Sp:=fun vs H Q _=>∃p nwf S o,vs= [.ref p]/\Bd A H p nwf S o/\Q (.int S.tot) H
def spHand (K:W.Frag)(A:Cs)(C:Addr):Sp:=fun vs H Q E=>∃p nwf S o n a ds,vs= [.ref p,.int n,.ref a]/\Bd A H p nwf S o/\SqL K H a (ds.map V.int)/\ds.length<=500/\S.wt.length<900/\
 (FrOk n ds->∀H' d,H d=none->Bd A H' p nwf { S with wt:=S.wt++[(n.toNat,ds)] } (Or2 o fun x=>x=d)->Keep o H H'->Q .non H')/\(¬ FrOk n ds->∀H',Same H H'->E (.ref C) none H')
/-- fresh copies -/
inductive FrsNew (H H':Hp):List V->List Fr->Prop
 |nil:FrsNew H H' [] []
 |cons {t d:Addr} {f:Fr} {ts:List V} {fs:List Fr}:H t=none->H d=none->H' t=some (.tup [.int ((f.1:Nat):Int),.ref d])->H' d=some (.lst (f.2.map V.int))->FrsNew H H' ts fs->FrsNew H H' (.ref t::ts) (f::fs)
theorem FrsNew.snoc {H H':Hp}{t d:Addr}{f:Fr}(h1:H t=none)(h2:H d=none)(e1:H' t=some (.tup [.int ((f.1:Nat):Int),.ref d]))(e2:H' d=some (.lst (f.2.map V.int))):∀{ts:List V}{fs:List Fr},FrsNew H H' ts fs->FrsNew H H' (ts++[.ref t]) (fs++[f])
 |_,_,.nil=> .cons h1 h2 e1 e2 .nil
 |_,_,.cons a1 a2 a3 a4 r=> .cons a1 a2 a3 a4 (r.snoc h1 h2 e1 e2)
theorem FrsNew.same {H H' H2:Hp}(g:Same H' H2):∀{ts:List V}{fs:List Fr},FrsNew H H' ts fs->FrsNew H H2 ts fs
 |_,_,.nil=> .nil
 |_,_,.cons a1 a2 a3 a4 r=> .cons a1 a2 (g _ _ a3) (g _ _ a4) (r.same g)
theorem FrsNew.len {H H':Hp}:∀{ts:List V}{fs:List Fr},FrsNew H H' ts fs->ts.length=fs.length
 |_,_,.nil=>rfl
 |_,_,.cons _ _ _ _ r=>Yy (·+1) r.len
def spCopies (K:W.Frag):Sp:=fun vs H Q _=>∃(a:Addr)(ts:List V)(fs:List Fr)(o:Own),vs= [.ref a]/\H a=some (.lst ts)/\FrsAt H o ts fs/\fs.length<=900/\∀l xs H',H l=none->Same H H'->H' l=some (.lst xs)->FrsNew H H' xs fs->Q (.ref l) H'
def spWaits (A:Cs):Sp:=fun vs H Q _=>∃p nwf S o,vs= [.ref p]/\Bd A H p nwf S o/\S.wt.length<=900/\∀l xs H',H l=none->Same H H'->H' l=some (.lst xs)->FrsNew H H' xs S.wt->Q (.ref l) H'
def spGot (A:Cs):Sp:=fun vs H Q _=>∃p nwf S o,vs= [.ref p]/\Bd A H p nwf S o/\S.up.length<=900/\∀l xs H',H l=none->Same H H'->H' l=some (.lst xs)->FrsNew H H' xs S.up->Q (.ref l) H'
def spChoice (K:W.Frag)(C:Addr):Sp:=fun vs H Q E=>∃(a:Addr)(ns:List Int),vs= [.ref a]/\SqT K H a (ns.map V.int)/\ns.length<=500/\(ns.all byt=true->∀H',Same H H'->Q .non H')/\(¬ ns.all byt=true->∀H',Same H H'->E (.ref C) none H')
def S0 (m1 m2 v:Nat):PS:=⟨m1,m2,v, [], [],0,.free 0⟩
def PoOk (m1 m2 v:Int):Prop:=byt m1=true/\byt m2=true/\(v=1\/v=3\/v=5)
def spPostInit (K:W.Frag)(A:Cs)(C:Addr):Sp:=fun vs H Q E=>∃(a dx ch:Addr)(m1 m2 v:Int),vs= [.ref a,.ref ch,.int v]/\H a=some (.ins A.post dx [])/\H ch=some (.tup [.int m1,.int m2])/\
 (PoOk m1 m2 v->∀H' o,PostAt A H' a (S0 m1.toNat m2.toNat v.toNat) o->(∀x,o x->x=a\/H x=none)->(∀x u,x≠a->H x=some u->H' x=some u)->Q .non H')/\(¬ PoOk m1 m2 v->∀H',(∀x u,x≠a->H x=some u->H' x=some u)->E (.ref C) none H')
theorem c0R {A:Cs}{H:Hp}{p nwf:Addr}{S:PS}{o:Own}{dx ch wl ul ct a:Addr}{ws us ys:List V}(b:BAt A H p nwf S o dx ch wl ul ct ws us)(ha:a=wl\/a=ul) :
  Keep o H (upd H a (.lst ys))/\upd H a (.lst ys) p=H p/\upd H a (.lst ys) ch=H ch/\upd H a (.lst ys) ct=H ct/\(∀{ts:List V}{fs:List Fr},FrsAt H (Dl o wl ul) ts fs->FrsAt (upd H a (.lst ys)) (Dl o wl ul) ts fs)/\∀x,o x->upd H a (.lst ys) x≠none:=by
 have ea:∃l,H a=some (.lst l):=ha.elim (fun z=>⟨_,z▸b.ew⟩) fun z=>⟨_,z▸b.eu⟩
 obtain⟨l,ea⟩:=ea
 have oa:o a:=ha.elim (fun z=>z▸b.ow) fun z=>z▸b.ou
 have kk:Keep o H (upd H a (.lst ys)):=fun x v e z=>by
  rw[aQ]
  ·exact e
  ·rintro rfl
   rcases z with z | ⟨vs,rfl⟩
   ·exact z oa
   ·rw[ea]at e;cases e
 have nl:∀{x:Addr}{v:HO},H x=some v->(∀l,v≠ .lst l)->upd H a (.lst ys) x=H x:=fun {x v} e h=>by
  rw[aQ]
  rintro rfl
  rw[ea]at e
  exact h _ (YE e).symm
 refine⟨kk,nl b.e (fun l z=>nomatch z),nl b.ec (fun l z=>nomatch z),(let ⟨d,e⟩:=b.et;nl e fun l z=>nomatch z),fun {ts fs} h=>?_,fun x hx=>?_⟩
 ·induction h with
  |nil=>exact .nil
  | cons a' _ ih=>
   obtain⟨d,e1,e2,e3⟩:=a'
   refine .cons ⟨d,kk.tup e1,?_,e3⟩ ih
   rw[aQ (ha.elim (fun z=>z▸e3.2.1) fun z=>z▸e3.2.2)]
   exact e2
 ·by_cases h:x=a
  ·rw[h,aK];simp
  ·rw[aQ h];exact b.al x hx
def Stc.tag:Stc->Nat
 |.free _=>0
 |.speaks _ _ _=>1
 |.reads _=>2
 |.tlS _ _=>3
 |.tlR _ _ _ _=>3
 |.flag _ _=>4
 |.settles _=>5
 |.rests _=>6
 |.off=>7
def spShown (A:Cs)(i:Nat):Sp:=fun vs H Q _=>∃nw S o,vs= [.ref nw]/\S.now.tag=i/\StW A H nw S o/\∀t H',H t=none->Same H H'->H' t=some (.tup [.str S.now.shown.1,.int ((S.now.shown.2:Nat):Int)])->Q (.ref t) H'
/-- a new stance that has nothing but itself -/
theorem c1W {A:Cs}{H:Hp}{nw:Addr}{S:PS}{v:HO}(e:H nw=some v)(h:StAt A H nw S.vt (fun x=>x=nw) S.now):StW A H nw S (fun x=>x=nw):=⟨h,rfl,fun x hx=>by
 have hx':x=nw:=hx
 rw[hx',e];simp⟩
/-- a new object and what is made for it -/
structure Mid (H:Hp)(a:Addr)(v:HO)(cs:List (Addr×HO))(Hx:Hp):Prop where
 ea:Hx a=some v
 kp:∀x u,x≠a->H x=some u->Hx x=some u
 nw:∀c∈cs,H c.1=none/\c.1≠a/\Hx c.1=some c.2
 nd:(cs.map Prod.fst).Nodup
theorem Mid.set {H:Hp}{a:Addr}{v:HO}{cs:List (Addr×HO)}{Hx:Hp}(m:Mid H a v cs Hx)(v':HO):Mid H a v' cs (upd Hx a v'):=
 ⟨aK,fun x u hx h=>by rw[aQ hx];exact m.kp x u hx h,fun c hc=>⟨(m.nw c hc).1,(m.nw c hc).2.1,by rw[aQ (m.nw c hc).2.1];exact(m.nw c hc).2.2⟩,m.nd⟩
theorem Mid.add {H:Hp}{a y:Addr}{v o:HO}{cs:List (Addr×HO)}{Hx Hy:Hp}(m:Mid H a v cs Hx)(hn:Hx y=none)(g:Same Hx Hy)(e:Hy y=some o):Mid H a v ((y,o)::cs) Hy:=by
 have ya:y≠a:=fun z=>by rw[z,m.ea]at hn;cases hn
 refine⟨g _ _ m.ea,fun x u hx h=>g _ _ (m.kp x u hx h),fun c hc=>?_,Y5.mpr ⟨fun h=>?_,m.nd⟩⟩
 ·rcases Yv.mp hc with rfl | hc
  ·refine⟨?_,ya,e⟩
   cases eh:H y with
   |none=>rfl
   |some u=>rw[m.kp y u ya eh]at hn;cases hn
  ·exact⟨(m.nw c hc).1,(m.nw c hc).2.1,g _ _ (m.nw c hc).2.2⟩
 ·obtain⟨c,hc,ec⟩:=Xw.mp h
  have:=(m.nw c hc).2.2
  rw[ec,hn]at this
  cases this
/-- a post since H0 -/
structure Lw (A:Cs)(H0 H:Hp)(p:Addr)(S:PS)(o:Own):Prop where
 same:Same H0 H
 fr:∀x,o x->H0 x=none
 po:PostAt A H p S o
theorem Wf.hand {S:PS}{f:Fr}(h:Wf S)(hf:FrN f):Wf { S with wt:=S.wt++[f] }:=by
 refine⟨h.vt,fun g hg=>?_,?_⟩
 ·rcases YX.mp hg with z | z
  ·exact h.wt g z
  ·rw[Yx.mp z];exact hf
 ·have hn:=h.now
  have hne:S.wt++[f]≠ []:=by intro z;have:=(List.append_eq_nil_iff.mp z).2;cases this
  show Stc.Wf (S.wt++[f]) S.now
  revert hn
  cases S.now with
  |speaks n ds k=>exact fun ⟨a,b,c,d⟩=>⟨a,b,c,hne⟩
  |tlS v c=>exact fun _=>hne
  |free k=>exact fun z=>z
  |reads h=>exact fun z=>z
  |tlR n ds v c=>exact fun z=>z
  |flag l m=>exact fun z=>z
  |settles m=>exact fun z=>z
  |rests l=>exact fun z=>z
  |off=>exact fun z=>z
/-- a frame is handed -/
theorem PostAt.hand {A:Cs}{H:Hp}{p:Addr}{S:PS}{o:Own}(h:PostAt A H p S o):∃nw ob,Bd A H p nw S ob/\∀{n:Int}{ds:List Int},FrOk n ds->∀H' d,H d=none->Bd A H' p nw { S with wt:=S.wt++[(n.toNat,ds)] } (Or2 ob fun x=>x=d)->Keep ob H H'->∃o',PostAt A H' p { S with wt:=S.wt++[(n.toNat,ds)] } o'/\Mv o H o' H':=by
 obtain⟨nw,ob,os,bd,st,dj,wf,inc,al⟩:=h
 refine⟨nw,ob,bd,fun {n ds} ok H' d hd b' k=>?_⟩
 have hb:=uI.mp ok.1
 have hf:FrN (n.toNat,ds):=⟨by show n.toNat<256;omega,ok.2.1,ok.2.2⟩
 have s':StW A H' nw S os:=st.move fun x v e z=>k x v e (z.imp_left fun y w=>dj x w y)
 refine⟨Or2 o fun x=>x=d,⟨nw,Or2 ob fun x=>x=d,os,b',⟨s'.at_,s'.on,s'.al⟩,?_,wf.hand hf,?_,?_⟩,k.le fun x hx=>inc x (.inl hx),fun x hx=>?_⟩
 ·rintro x (hx | hx) hy
  ·exact dj x hx hy
  ·have hx':x=d:=hx
   rw[hx']at hy
   exact al d (inc d (.inr hy)) hd
 ·rintro x ((hx | hx) | hx)
  ·exact .inl (inc x (.inl hx))
  ·exact .inr hx
  ·exact .inl (inc x (.inr hx))
 ·rintro x (hx | hx)
  ·rcases Classical.em (ob x) with c | c
   ·exact b'.al x (.inl c)
   ·cases e:H x with
    |none=>exact absurd e (al x hx)
    |some v=>rw[k x v e (.inl c)];simp
  ·exact b'.al x (.inr hx)
 ·rcases hx with hx | hx
  ·exact .inl hx
  ·have hx':x=d:=hx
   rw[hx'];exact .inr hd
theorem c2J {A:Cs}{H H1 H':Hp}{p dp:Addr}{v:HO}{S:PS}{o:Own}(g:Same H H1)(hp:H1 p=none)(hdp:H1 dp=none)(hP:PostAt A H' p S o)(hin:∀x,o x->x=p\/upd (upd H1 dp (.own p)) p v x=none)(hk:∀x u,x≠p->upd (upd H1 dp (.own p)) p v x=some u->H' x=some u):Lw A H H' p S o/\Same H1 H':=by
 have s1:Same H1 H':=fun x u e=>hk x u (bO e hp) (by rw[aQ (bO e hp),aQ (bO e hdp)];exact e)
 refine⟨⟨g.trans s1,fun x hx=>?_,hP⟩,s1⟩
 rcases hin x hx with h | h
 ·rw[h];exact g.none hp
 ·refine g.none ?_
  by_cases c:x=p
  ·rw[c,aK]at h;cases h
  ·rw[aQ c]at h
   by_cases d:x=dp
   ·rw[d,aK]at h;cases h
   ·rw[aQ d]at h;exact h
theorem PostAt.bd {A:Cs}{H:Hp}{p:Addr}{S:PS}{o:Own}(h:PostAt A H p S o):∃nw ob,Bd A H p nw S ob:=let ⟨nw,ob,_,bd,_⟩:=h;⟨nw,ob,bd⟩
theorem PostAt.cell {A:Cs}{H:Hp}{p:Addr}{S:PS}{o:Own}(h:PostAt A H p S o):∃dx ch vt wl ul ct nw,H p=some (.ins A.post dx (pF ch vt wl ul ct nw)):=let ⟨nw,_,_,⟨dx,ch,wl,ul,ct,_,_,b⟩,_⟩:=h;⟨dx,ch,_,wl,ul,ct,nw,b.e⟩

theorem FrsNew.at_ {H H':Hp}:∀{ts:List V}{fs:List Fr},FrsNew H H' ts fs->FrsAt H' (fun _=>True) ts fs
 |_,_,.nil=> .nil
 |_,_,.cons _ _ a3 a4 r=> .cons ⟨_,a3,a4,trivial⟩ r.at_
theorem c0J {lo:Own}{H:Hp}{a:Addr}{o u:HO}(e:H a=some o)(h:lo a)(n:¬ isT o):Mv lo H lo (upd H a u):=⟨fun x v ex z=>by
 rw[aQ]
 ·exact ex
 ·rintro rfl
  rcases z with z | z
  ·exact z h
  ·rw[e]at ex;cases ex;exact n z,fun _=> .inl⟩
/-- posts beside each other,each with its own -/
def PsAt (A:Cs)(H:Hp):List Addr->List PS->Own->Prop
 |[], [],o=>∀x,o x->H x≠none
 |p::ps,S::Ss,o=>∃o1 o2,PostAt A H p S o1/\PsAt A H ps Ss o2/\(∀x,o1 x->o2 x->False)/\(∀x,o1 x\/o2 x->o x)/\∀x,o x->H x≠none
 |_,_,_=>False
theorem PsAt.al {A:Cs}{H:Hp}:∀{ps:List Addr}{Ss:List PS}{o:Own},PsAt A H ps Ss o->∀x,o x->H x≠none
 |[], [],_,h=>h
 |_::_,_::_,_,⟨_,_,_,_,_,_,h⟩=>h
theorem PsAt.len {A:Cs}{H:Hp}:∀{ps:List Addr}{Ss:List PS}{o:Own},PsAt A H ps Ss o->ps.length=Ss.length
 |[], [],_,_=>rfl
 |_::_,_::_,_,⟨_,_,_,h,_⟩=>Yy (·+1) h.len
theorem PsAt.move {A:Cs}{H H':Hp}:∀{ps:List Addr}{Ss:List PS}{o:Own},PsAt A H ps Ss o->(∀x v,H x=some v->(o x\/isT v)->H' x=some v)->PsAt A H' ps Ss o
 | [], [],o,h,g=>fun x hx=>by
  cases e:H x with
  |none=>exact absurd e (h x hx)
  |some v=>rw[g x v e (.inl hx)];simp
 | _::_,_::_,o,⟨o1,o2,h1,h2,dj,inc,al⟩,g=>⟨o1,o2,h1.move fun x v e z=>g x v e (z.imp_left fun y=>inc x (.inl y)),h2.move fun x v e z=>g x v e (z.imp_left fun y=>inc x (.inr y)),dj,inc,fun x hx=>by
  cases e:H x with
  |none=>exact absurd e (al x hx)
  |some v=>rw[g x v e (.inl hx)];simp⟩
theorem PsAt.same {A:Cs}{H H':Hp}{ps:List Addr}{Ss:List PS}{o:Own}(h:PsAt A H ps Ss o)(g:Same H H'):PsAt A H' ps Ss o:=h.move fun x v e _=>g x v e
/-- one of them,and the way back -/
theorem PsAt.get {A:Cs}{H:Hp}:∀{ps:List Addr}{Ss:List PS}{o:Own},PsAt A H ps Ss o->∀{i:Nat}{p:Addr},ps[i]? =some p->∃S oi,Ss[i]? =some S/\PostAt A H p S oi/\(∀x,oi x->o x)/\∀H' oi' S',Mv oi H oi' H'->PostAt A H' p S' oi'->∃o',PsAt A H' ps (Ss.set i S') o'/\Mv o H o' H'
 | q ::ps,S::Ss,o,⟨o1,o2,h1,h2,dj,inc,al⟩,0,p,hp=>by
  cases hp
  refine⟨S,o1,rfl,h1,fun x hx=>inc x (.inl hx),fun H' oi' S' m hP=>?_⟩
  have h2':PsAt A H' ps Ss o2:=h2.move fun x v e z=>m.1 x v e (z.imp_left fun y w=>dj x w y)
  refine⟨Or2 oi' o2,⟨oi',o2,hP,h2',fun x hx hy=>?_,fun x hx=>hx,fun x hx=>?_⟩,⟨fun x v e z=>m.1 x v e (z.imp_left fun y w=>y (inc x (.inl w))),fun x hx=>?_⟩⟩
  ·exact(m.2 x hx).elim (fun z=>dj x z hy) fun z=>h2.al x hy z
  ·rcases hx with hx | hx
   ·exact hP.al x hx
   ·exact h2'.al x hx
  ·rcases hx with hx | hx
   ·exact(m.2 x hx).imp (fun z=>inc x (.inl z)) id
   ·exact .inl (inc x (.inr hx))
 | q ::ps,S::Ss,o,⟨o1,o2,h1,h2,dj,inc,al⟩,i+1,p,hp=>by
  obtain⟨S1,oi,e1,hP1,le,back⟩:=PsAt.get h2 (i:=i) hp
  refine⟨S1,oi,e1,hP1,fun x hx=>inc x (.inr (le x hx)),fun H' oi' S' m hP=>?_⟩
  obtain⟨o2',h2',m'⟩:=back H' oi' S' m hP
  have h1':PostAt A H' q S o1:=h1.move fun x v e z=>m'.1 x v e (z.imp_left fun y w=>dj x y w)
  refine⟨Or2 o1 o2',⟨o1,o2',h1',h2',fun x hx hy=>?_,fun x hx=>hx,fun x hx=>?_⟩,⟨fun x v e z=>m'.1 x v e (z.imp_left fun y w=>y (inc x (.inr w))),fun x hx=>?_⟩⟩
  ·exact(m'.2 x hy).elim (fun z=>dj x hx z) fun z=>h1.al x hx z
  ·rcases hx with hx | hx
   ·exact h1'.al x hx
   ·exact h2'.al x hx
  ·rcases hx with hx | hx
   ·exact .inl (inc x (.inl hx))
   ·exact(m'.2 x hx).imp (fun z=>inc x (.inr z)) id
/-- one more -/
theorem PsAt.snoc {A:Cs}{H H':Hp}{p:Addr}{S:PS}{o1:Own}(hP:PostAt A H' p S o1)(g:Same H H')(n:∀x,o1 x->H x=none):∀{ps:List Addr}{Ss:List PS}{o:Own},PsAt A H ps Ss o->PsAt A H' (ps++[p]) (Ss++[S]) (Or2 o o1)
  | [], [],o,h=>⟨o1,o,hP,fun x hx=>by
      cases e:H x with
      |none=>exact absurd e (h x hx)
      |some v=>rw[g x v e];simp,fun x hx hy=>h x hy (n x hx),fun x hx=>hx.symm,fun x hx=>by
      rcases hx with hx | hx
      · cases e:H x with
        |none=>exact absurd e (h x hx)
        |some v=>rw[g x v e];simp
      · exact hP.al x hx⟩
  | q :: ps,T::Ss,o,⟨oa,ob,h1,h2,dj,inc,al⟩=>⟨oa,Or2 ob o1,h1.same g,PsAt.snoc hP g n h2,fun x hx hy=>by
      rcases hy with hy | hy
      · exact dj x hx hy
      · exact h1.al x hx (n x hy),fun x hx=>by
      rcases hx with hx | hx | hx
      · exact .inl (inc x (.inl hx))
      · exact .inl (inc x (.inr hx))
      · exact .inr hx,fun x hx=>by
      rcases hx with hx | hx
      · cases e:H x with
        |none=>exact absurd e (al x hx)
        |some v=>rw[g x v e];simp
      · exact hP.al x hx⟩
/-- cells that are apart -/
structure CellsAt (H:Hp)(L:List (Addr×HO)):Prop where
 at_:∀(j:Nat)(c:Addr×HO),L[j]? =some c->H c.1=some c.2
 ap:∀(i j:Nat)(c d:Addr×HO),L[i]? =some c->L[j]? =some d->c.1=d.1->i=j
theorem CellsAt.put {H:Hp}{L:List (Addr×HO)}{i:Nat}{a:Addr}{h:HO}(hc:CellsAt H L)(e:L[i]? =some (a,h))(h':HO):CellsAt (upd H a h') (L.set i (a,h')):=by
 have hi:i<L.length:=(Yc.mp e).1
 have old:∀(j:Nat)(c:Addr×HO),(L.set i (a,h'))[j]? =some c->(j=i/\c=(a,h'))\/(j≠i/\L[j]? =some c):=fun j c z=>by
  rw[List.getElem?_set]at z
  by_cases k:i=j
  ·rw[if_pos k,if_pos hi]at z
   exact .inl ⟨k.symm,(YE z).symm⟩
  ·rw[if_neg k]at z
   exact .inr ⟨fun y=>k y.symm,z⟩
 refine⟨fun j c z=>?_,fun j k c d z y q=>?_⟩
 ·rcases old j c z with ⟨_,rfl⟩ | ⟨n,z⟩
  ·exact aK
  ·rw[aQ fun q=>n (hc.ap j i c (a,h) z e q)]
   exact hc.at_ j c z
 ·rcases old j c z with ⟨n1,rfl⟩ | ⟨n1,z⟩ <;> rcases old k d y with ⟨n2,rfl⟩ | ⟨n2,y⟩
  ·rw[n1,n2]
  ·exact absurd (hc.ap k i d (a,h) y e q.symm) n2
  ·exact absurd (hc.ap j i c (a,h) z e q) n1
  ·exact hc.ap j k c d z y q
theorem CellsAt.keep {H H':Hp}{L:List (Addr×HO)}(hc:CellsAt H L)(g:∀(j:Nat)(c:Addr×HO),L[j]? =some c->H' c.1=some c.2):CellsAt H' L:=⟨g,hc.ap⟩
theorem CellsAt.same {H H':Hp}{L:List (Addr×HO)}(hc:CellsAt H L)(g:Same H H'):CellsAt H' L:=hc.keep fun j c z=>g _ _ (hc.at_ j c z)
/-- a new cell behind them -/
theorem CellsAt.snoc {H:Hp}{L:List (Addr×HO)}{a:Addr}{h:HO}(hc:CellsAt H L)(n:H a=none):CellsAt (upd H a h) (L++[(a,h)]):=by
 have old:∀(j:Nat)(c:Addr×HO),(L++[(a,h)])[j]? =some c->(j=L.length/\c=(a,h))\/L[j]? =some c:=fun j c z=>by
  by_cases k:j<L.length
  ·rw[YN k]at z
   exact .inr z
  ·rw [YM (by omega)]at z
   have hj:j-L.length=0:=by
    cases e:j-L.length with
    |zero=>rfl
    |succ m=>rw[e]at z;cases z
   rw[hj]at z
   exact .inl ⟨by omega,(YE z).symm⟩
 have ne:∀(j:Nat)(c:Addr×HO),L[j]? =some c->c.1≠a:=fun j c z q=>by have:=hc.at_ j c z;rw[q,n]at this;cases this
 refine⟨fun j c z=>?_,fun j k c d z y q=>?_⟩
 ·rcases old j c z with ⟨_,rfl⟩ | z
  ·exact aK
  ·rw[aQ (ne j c z)];exact hc.at_ j c z
 ·rcases old j c z with ⟨n1,rfl⟩ | z <;> rcases old k d y with ⟨n2,rfl⟩ | y
  ·rw[n1,n2]
  ·exact absurd q.symm (ne k d y)
  ·exact absurd q (ne j c z)
  ·exact hc.ap j k c d z y q
open PyProof.Rows in
structure RS where
 (ps:List PS) (ow:List (Key×V)) (bo:List Int) (sa he:List (List Int)) (ev:List (Nat×Nat×Str))
/-- what happened:tuples of a turn,a post,a word -/
inductive EvsAt (H:Hp):List V->List (Nat×Nat×Str)->Prop
 |nil:EvsAt H [] []
 |cons {t:Addr} {e:Nat×Nat×Str} {vs:List V} {es:List (Nat×Nat×Str)}:H t=some (.tup [.int ((e.1:Nat):Int),.int ((e.2.1:Nat):Int),.str e.2.2])->EvsAt H vs es->EvsAt H (.ref t::vs) (e::es)
theorem EvsAt.imp {H H':Hp}(g:∀x xs,H x=some (.tup xs)->H' x=some (.tup xs)):∀{vs:List V}{es:List (Nat×Nat×Str)},EvsAt H vs es->EvsAt H' vs es
 |_,_,.nil=> .nil
 |_,_,.cons a r=> .cons (g _ _ a) (r.imp g)
abbrev rF (PL OW BO SA HE EV:Addr):List (Str×V):=[("posts",.ref PL),("owners",.ref OW),("borne",.ref BO),("sayings",.ref SA),("hearings",.ref HE),("happened",.ref EV)]
def lsC (as:List Addr)(xs:List (List Int)):List (Addr×HO):=List.zipWith (fun a x=>(a,HO.lst (x.map V.int))) as xs
/-- where a rail's things stand -/
structure Rw where
 (dx PL OW BO SA HE EV:Addr) (ps sas hes:List Addr) (evs:List V) (op:Own)
abbrev railL (C r:Addr)(w:Rw)(R:RS):List (Addr×HO):=(r,.ins C w.dx (rF w.PL w.OW w.BO w.SA w.HE w.EV))::(w.PL,.lst (w.ps.map V.ref))::(w.OW,.dK R.ow)::(w.BO,.lst (R.bo.map V.int))::(w.SA,.lst (w.sas.map V.ref))::(w.HE,.lst (w.hes.map V.ref))::(w.EV,.lst w.evs)::(lsC w.sas R.sa++lsC w.hes R.he)
structure RlAt (C:Addr)(A:Cs)(H:Hp)(r:Addr)(R:RS)(o:Own)(w:Rw):Prop where
 cs:CellsAt H (railL C r w R)
 po:PsAt A H w.ps R.ps w.op
 ev:EvsAt H w.evs R.ev
 l1:w.sas.length=R.ps.length
 l2:R.sa.length=R.ps.length
 l3:w.hes.length=R.ps.length
 l4:R.he.length=R.ps.length
 lp:R.ps.length<=5
 dj:∀x,w.op x->∀(j:Nat)(c:Addr×HO),(railL C r w R)[j]? =some c->c.1≠x
 inc:∀x,(w.op x\/∃(j:Nat)(c:Addr×HO),(railL C r w R)[j]? =some c/\c.1=x)->o x
 al:∀x,o x->H x≠none
def RailAt (C:Addr)(A:Cs)(H:Hp)(r:Addr)(R:RS)(o:Own):Prop:=∃w,RlAt C A H r R o w
section
variable {C:Addr}{A:Cs}{H H':Hp}{r:Addr}{R:RS}{o:Own}{w:Rw}
theorem RlAt.move (h:RlAt C A H r R o w)(g:∀x v,H x=some v->(o x\/isT v)->H' x=some v):RlAt C A H' r R o w:=
 ⟨h.cs.keep fun j c z=>g _ _ (h.cs.at_ j c z) (.inl (h.inc _ (.inr ⟨j,c,z,rfl⟩))),h.po.move fun x v e z=>g x v e (z.imp_left fun y=>h.inc x (.inl y)),h.ev.imp fun x xs e=>g x _ e (.inr ⟨_,rfl⟩),h.l1,h.l2,h.l3,h.l4,h.lp,h.dj,h.inc,fun x hx=>by
  cases e:H x with
  |none=>exact absurd e (h.al x hx)
  |some v=>rw[g x v e (.inl hx)];simp⟩
theorem RlAt.same (h:RlAt C A H r R o w)(g:Same H H'):RlAt C A H' r R o w:=h.move fun x v e _=>g x v e
theorem RlAt.er (h:RlAt C A H r R o w):H r=some (.ins C w.dx (rF w.PL w.OW w.BO w.SA w.HE w.EV)):=h.cs.at_ 0 _ rfl
theorem RlAt.ePL (h:RlAt C A H r R o w):H w.PL=some (.lst (w.ps.map V.ref)):=h.cs.at_ 1 _ rfl
theorem RlAt.eOW (h:RlAt C A H r R o w):H w.OW=some (.dK R.ow):=h.cs.at_ 2 _ rfl
theorem RlAt.eBO (h:RlAt C A H r R o w):H w.BO=some (.lst (R.bo.map V.int)):=h.cs.at_ 3 _ rfl
theorem RlAt.eHE (h:RlAt C A H r R o w):H w.HE=some (.lst (w.hes.map V.ref)):=h.cs.at_ 5 _ rfl
theorem RlAt.pl (h:RlAt C A H r R o w):w.ps.length=R.ps.length:=h.po.len
theorem RlAt.at (h:RlAt C A H r R o w){i:Nat}{S:PS}(hi:R.ps[i]? =some S):∃p oi,w.ps[i]? =some p/\PostAt A H p S oi:=by
 have hl:i<w.ps.length:=by rw[h.pl];exact(Yc.mp hi).1
 have hp:w.ps[i]? =some w.ps[i]:=Yh hl
 obtain⟨S',oi,e,hP,_⟩:=h.po.get hp
 rw[hi]at e
 cases e
 exact⟨_,oi,hp,hP⟩
end
theorem b6H {L:List (Addr×HO)}{k j:Nat}{a:Addr}{v v':HO}{c:Addr×HO}(e:L[k]? =some (a,v))(h:(L.set k (a,v'))[j]? =some c):∃c',L[j]? =some c'/\c'.1=c.1:=by
 have hk:k<L.length:=(Yc.mp e).1
 rw[List.getElem?_set]at h
 by_cases q:k=j
 ·rw[if_pos q,if_pos hk]at h
  cases h
  exact⟨(a,v),q▸e,rfl⟩
 ·rw[if_neg q]at h
  exact⟨c,h,rfl⟩
/-- one of a rail's cells is written -/
theorem RlAt.put {C:Addr}{A:Cs}{H:Hp}{r:Addr}{R R':RS}{o:Own}{w w':Rw}{k:Nat}{a:Addr}{v v':HO}(h:RlAt C A H r R o w)(e:(railL C r w R)[k]? =some (a,v))(nT:¬ isT v)(eL:railL C r w' R'=(railL C r w R).set k (a,v'))(ep:R'.ps=R.ps)(e1:w'.ps=w.ps)(e2:w'.op=w.op)(e3:w'.sas.length=w.sas.length)(e4:R'.sa.length=R.sa.length)(e5:w'.hes.length=w.hes.length)(e6:R'.he.length=R.he.length)(ev:EvsAt H w'.evs R'.ev):RlAt C A (upd H a v') r R' o w'/\Mv o H o (upd H a v'):=by
 have ea:=h.cs.at_ k _ e
 have oa:o a:=h.inc a (.inr ⟨k,_,e,rfl⟩)
 have kT:∀x u,H x=some u->isT u->upd H a v' x=some u:=fun x u eu t=>by
  rw[aQ]
  ·exact eu
  ·rintro rfl
   rw[ea]at eu
   cases eu
   exact nT t
 refine⟨⟨eL▸h.cs.put e v',?_,ev.imp fun x xs ex=>kT x _ ex ⟨_,rfl⟩,by rw[e3,ep];exact h.l1,by rw[e4,ep];exact h.l2,by rw[e5,ep];exact h.l3,by rw[e6,ep];exact h.l4,by rw[ep];exact h.lp,?_,?_,?_⟩,c0J ea oa nT⟩
 ·rw[e1,e2,ep]
  refine h.po.move fun x u eu z=>?_
  rcases z with z | z
  ·rw[aQ fun q=>h.dj x z k _ e q.symm];exact eu
  ·exact kT x u eu z
 ·rw[e2,eL]
  intro x hx j c hc q
  obtain⟨c',h1,h2⟩:=b6H e hc
  exact h.dj x hx j c' h1 (h2.trans q)
 ·rw [e2,eL]
  rintro x (hx | ⟨j,c,hc,q⟩)
  ·exact h.inc x (.inl hx)
  ·obtain⟨c',h1,h2⟩:=b6H e hc
   exact h.inc x (.inr ⟨j,c',h1,h2.trans q⟩)
 ·intro x hx
  by_cases q:x=a
  ·rw[q,aK];simp
  ·rw[aQ q];exact h.al x hx
/-- one of a rail's posts moves -/
theorem RlAt.step {C:Addr}{A:Cs}{H:Hp}{r:Addr}{R:RS}{o:Own}{w:Rw}{i:Nat}{p:Addr}(h:RlAt C A H r R o w)(hp:w.ps[i]? =some p):∃S oi,R.ps[i]? =some S/\PostAt A H p S oi/\(∀x,oi x->o x)/\∀H' oi' S',Mv oi H oi' H'->PostAt A H' p S' oi'->∃o' op',RlAt C A H' r { R with ps:=R.ps.set i S' } o' { w with op:=op' }/\Mv o H o' H':=by
 obtain⟨S,oi,eS,hP,le,back⟩:=h.po.get hp
 refine⟨S,oi,eS,hP,fun x hx=>h.inc x (.inl (le x hx)),fun H' oi' S' m hP'=>?_⟩
 obtain⟨op',po',m'⟩:=back H' oi' S' m hP'
 have nop:∀(j:Nat)(c:Addr×HO),(railL C r w R)[j]? =some c->¬ w.op c.1:=fun j c hc z=>h.dj _ z j c hc rfl
 have len:(R.ps.set i S').length=R.ps.length:=Xa
 have ko:Keep o H H':=fun x v e z=>m'.1 x v e (z.imp_left fun y q=>y (h.inc x (.inl q)))
 refine⟨Or2 (fun x=>o x/\¬ w.op x) op',op',⟨h.cs.keep fun j c hc=>m'.1 _ _ (h.cs.at_ j c hc) (.inl (nop j c hc)),po',h.ev.imp fun x xs e=>m'.1 x _ e (.inr ⟨_,rfl⟩),h.l1.trans len.symm,h.l2.trans len.symm,h.l3.trans len.symm,h.l4.trans len.symm,by show (R.ps.set i S').length<=5;rw[len];exact h.lp,?_,?_,?_⟩,ko,?_⟩
 ·intro x hx j c hc q
  rcases m'.2 x hx with z | z
  ·exact h.dj x z j c hc q
  ·have:=h.cs.at_ j c hc
   rw[q,z]at this
   cases this
 ·rintro x (hx | ⟨j,c,hc,q⟩)
  ·exact .inr hx
  ·exact .inl ⟨h.inc x (.inr ⟨j,c,hc,q⟩),q▸nop j c hc⟩
 ·rintro x (hx | hx)
  ·cases e:H x with
   |none=>exact absurd e (h.al x hx.1)
   |some v=>rw[m'.1 x v e (.inl hx.2)];simp
  ·exact po'.al x hx
 ·rintro x (hx | hx)
  ·exact .inl hx.1
  ·exact(m'.2 x hx).imp (fun z=>h.inc x (.inl z)) id
theorem c1X {K:W.Frag}{H:Hp}{a b:Addr}{xs:List V}{m:List ((Int ⊕ Str)×V)}{v:HO}(h:SqL K H a xs)(e:H b=some (.dK m)):SqL K (upd H b v) a xs:=by
 rcases h with (h | ⟨o,h⟩) | h
 ·exact .inl (.inl ((aQ fun q=>by rw[q,e]at h;cases h).trans h))
 ·exact .inl (.inr ⟨o,(aQ fun q=>by rw[q,e]at h;cases h).trans h⟩)
 ·exact .inr h
theorem c6U {m:List ((Int ⊕ Str)×V)}:¬ isT (.dK m):=fun ⟨_,z⟩=>by cases z
theorem c0P {as:List Addr}{xs:List (List Int)}{i:Nat}{a:Addr}{x:List Int}(ha:as[i]? =some a)(hx:xs[i]? =some x):(lsC as xs)[i]? =some (a,HO.lst (x.map V.int)):=by
 unfold lsC
 rw[List.getElem?_zipWith,ha,hx]
theorem b6P {as:List Addr}{xs:List (List Int)}(h:as.length=xs.length):(lsC as xs).length=xs.length:=by
 unfold lsC
 rw[List.length_zipWith,h,Nat.min_self]
theorem RlAt.sa_at {C:Addr}{A:Cs}{H:Hp}{r:Addr}{R:RS}{o:Own}{w:Rw}{i:Nat}{xs:List Int}(h:RlAt C A H r R o w)(hi:R.sa[i]? =some xs):∃a,w.sas[i]? =some a/\(railL C r w R)[i+7]? =some (a,.lst (xs.map V.int)):=by
 have hl:i<R.sa.length:=(Yc.mp hi).1
 have e1:=h.l1
 have e2:=h.l2
 have ha:w.sas[i]? =some (w.sas[i]'(by omega)):=Yh (by omega)
 refine⟨_,ha,?_⟩
 show (lsC w.sas R.sa++lsC w.hes R.he)[i]? =_
 rw[YN (by rw[b6P (by omega)];exact hl)]
 exact c0P ha hi
theorem RlAt.he_at {C:Addr}{A:Cs}{H:Hp}{r:Addr}{R:RS}{o:Own}{w:Rw}{i:Nat}{xs:List Int}(h:RlAt C A H r R o w)(hi:R.he[i]? =some xs):∃a,w.hes[i]? =some a/\(railL C r w R)[R.ps.length+i+7]? =some (a,.lst (xs.map V.int)):=by
 have hl:i<R.he.length:=(Yc.mp hi).1
 have e1:=h.l1
 have e2:=h.l2
 have e3:=h.l3
 have e4:=h.l4
 have ha:w.hes[i]? =some (w.hes[i]'(by omega)):=Yh (by omega)
 refine⟨_,ha,?_⟩
 show (lsC w.sas R.sa++lsC w.hes R.he)[R.ps.length+i]? =_
 have ll:=b6P (as:=w.sas) (xs:=R.sa) (by omega)
 rw[YM (by omega),show R.ps.length+i-(lsC w.sas R.sa).length=i by omega]
 exact c0P ha hi
def spRlBits (C:Addr)(A:Cs):Sp:=fun vs H Q _=>∃r R o w,vs= [.ref r]/\RlAt C A H r R o w/\∀l,H l=none->Q (.ref l) (upd H l (.lst (R.bo.map V.int)))
def spRlPost (C:Addr)(A:Cs)(NP:Addr):Sp:=fun vs H Q E=>∃r R o w k,vs= [.ref r,.int k]/\RlAt C A H r R o w/\(∀(i:Nat) p,k=((i:Nat):Int)->w.ps[i]? =some p->Q (.ref p) H)/\(¬ (0<=k/\k<((R.ps.length:Nat):Int))->∀H',Same H H'->E (.ref NP) none H')
def spRlHand (K:W.Frag)(C:Addr)(A:Cs)(NP NF NN:Addr):Sp:=fun vs H Q E=>∃r R o w k n a ds,vs= [.ref r,.int k,.int n,.ref a]/\RlAt C A H r R o w/\SqL K H a (ds.map V.int)/\ds.length<=500/\R.ow.length<=900/\(∀S∈R.ps,S.wt.length<900)/\
 (¬ (0<=k/\k<((R.ps.length:Nat):Int))->∀H',Same H H'->E (.ref NP) none H')/\((0<=k/\k<((R.ps.length:Nat):Int))->¬ FrOk n ds->∀H',Same H H'->E (.ref NF) none H')/\
 (∀ (i:Nat) S,k=((i:Nat):Int)->R.ps[i]? =some S->FrOk n ds->∃j:Int,(valV R.ow (.inl n)).getD (.int ((i:Nat):Int))= .int j/\(j≠((i:Nat):Int)->∀H',Same H H'->E (.ref NN) none H')/\
  (j=((i:Nat):Int)->∀H' o',RailAt C A H' r { R with ps:=R.ps.set i { S with wt:=S.wt++[(n.toNat,ds)] },ow:=putK R.ow (.inl n) (.int ((i:Nat):Int)) } o'->Mv o H o' H'->Q .non H'))
/-! ### a turn of a rail -/
def evt (t n:Nat)(w:Str):List (Nat×Nat×Str):=if w="" then [] else [(t,n,w)]
/-- a post heard b -/
def oneP (R R':RS)(n:Nat)(S:PS)(b:Int)(x y:List Int):RS:=
 { R' with ps:=R'.ps.set n (hearP S b).2,sa:=R'.sa.set n (x++[saysP S]),he:=R'.he.set n (y++[b]),ev:=R'.ev++evt R.bo.length n (hearP S b).1 }
/-- a turn's first n posts have heard -/
def halfP (R:RS)(hs:List Int):Nat->RS
 |0=>R
 | n+1=>match R.ps[n]?,hs[n]?,R.sa[n]?,R.he[n]? with
  |some S,some b,some x,some y=>oneP R (halfP R hs n) n S b x y
  |_,_,_,_=>halfP R hs n
theorem b5X {R:RS}{hs:List Int}{n:Nat}{S:PS}{b:Int}{x y:List Int}(e1:R.ps[n]? =some S)(e2:hs[n]? =some b)(e3:R.sa[n]? =some x)(e4:R.he[n]? =some y):halfP R hs (n+1)=oneP R (halfP R hs n) n S b x y:=by
 show (match R.ps[n]?,hs[n]?,R.sa[n]?,R.he[n]? with
  |some S,some b,some x,some y=>oneP R (halfP R hs n) n S b x y
  |_,_,_,_=>halfP R hs n)=_
 rw[e1,e2,e3,e4]
theorem c0V (R:RS)(hs:List Int):∀n:Nat,(halfP R hs n).bo=R.bo/\(halfP R hs n).ow=R.ow/\(halfP R hs n).ps.length=R.ps.length/\(halfP R hs n).sa.length=R.sa.length/\(halfP R hs n).he.length=R.he.length/\(∀j,n<=j->(halfP R hs n).ps[j]? =R.ps[j]?/\(halfP R hs n).sa[j]? =R.sa[j]?/\(halfP R hs n).he[j]? =R.he[j]?)/\(halfP R hs n).ev.length<=R.ev.length+n
 |0=>⟨rfl,rfl,rfl,rfl,rfl,fun _ _=>⟨rfl,rfl,rfl⟩,Ye _⟩
 | n + 1 => by
  obtain⟨h1,h2,h3,h4,h5,h6,h7⟩:=c0V R hs n
  have go :(halfP R hs (n+1)=halfP R hs n)\/∃S b x y,halfP R hs (n+1)=oneP R (halfP R hs n) n S b x y:=by
   cases e1:R.ps[n]? with
   |none=>left;show (match R.ps[n]?,hs[n]?,R.sa[n]?,R.he[n]? with | some S,some b,some x,some y=>oneP R (halfP R hs n) n S b x y | _,_,_,_=>halfP R hs n)=_;rw[e1]
   | some S=>
    cases e2:hs[n]? with
    |none=>left;show (match R.ps[n]?,hs[n]?,R.sa[n]?,R.he[n]? with | some S,some b,some x,some y=>oneP R (halfP R hs n) n S b x y | _,_,_,_=>halfP R hs n)=_;rw[e1,e2]
    | some b=>
     cases e3:R.sa[n]? with
     |none=>left;show (match R.ps[n]?,hs[n]?,R.sa[n]?,R.he[n]? with | some S,some b,some x,some y=>oneP R (halfP R hs n) n S b x y | _,_,_,_=>halfP R hs n)=_;rw[e1,e2,e3]
     | some x=>
      cases e4:R.he[n]? with
      |none=>left;show (match R.ps[n]?,hs[n]?,R.sa[n]?,R.he[n]? with | some S,some b,some x,some y=>oneP R (halfP R hs n) n S b x y | _,_,_,_=>halfP R hs n)=_;rw[e1,e2,e3,e4]
      |some y=>exact .inr ⟨S,b,x,y,b5X e1 e2 e3 e4⟩
  rcases go with e | ⟨S,b,x,y,e⟩
  ·rw[e];exact⟨h1,h2,h3,h4,h5,fun j hj=>h6 j (by omega),by omega⟩
  ·rw [e]
   refine⟨h1,h2,?_,?_,?_,fun j hj=>⟨?_,?_,?_⟩,?_⟩
   ·show ((halfP R hs n).ps.set n _).length=_;rw[Xa];exact h3
   ·show ((halfP R hs n).sa.set n _).length=_;rw[Xa];exact h4
   ·show ((halfP R hs n).he.set n _).length=_;rw[Xa];exact h5
   ·show ((halfP R hs n).ps.set n _)[j]? =_;rw[Xb (by omega)];exact(h6 j (by omega)).1
   ·show ((halfP R hs n).sa.set n _)[j]? =_;rw[Xb (by omega)];exact(h6 j (by omega)).2.1
   ·show ((halfP R hs n).he.set n _)[j]? =_;rw[Xb (by omega)];exact(h6 j (by omega)).2.2
   ·show ((halfP R hs n).ev++evt _ _ _).length<=_
    rw[Yj]
    have:(evt R.bo.length n (hearP S b).1).length<=1:=by unfold evt;split <;> simp
    omega
/-! ### a rail is made -/
theorem a6G {L1 L2:List (Addr×HO)}{c0 c:Addr×HO}{j:Nat}(z:(L1++c0::L2)[j]? =some c):(j=L1.length/\c=c0)\/(j<L1.length/\(L1++L2)[j]? =some c)\/(L1.length<j/\(L1++L2)[j-1]? =some c):=by
 by_cases k:j<L1.length
 ·rw[YN k]at z
  exact .inr (.inl ⟨k,by rw[YN k];exact z⟩)
 ·rw[YM (by omega)]at z
  cases e:j-L1.length with
  |zero=>rw[e]at z;exact .inl ⟨by omega,(YE z).symm⟩
  |succ m=>rw[e]at z;exact .inr (.inr ⟨by omega,by rw[YM (by omega),show j-1-L1.length=m by omega];exact z⟩)
theorem CellsAt.ins {H:Hp}{L1 L2:List (Addr×HO)}{a:Addr}{h:HO}(hc:CellsAt H (L1++L2))(n:H a=none):CellsAt (upd H a h) (L1++(a,h)::L2):=by
 have ne:∀(j:Nat)(c:Addr×HO),(L1++L2)[j]? =some c->c.1≠a:=fun j c z q=>by have:=hc.at_ j c z;rw[q,n]at this;cases this
 refine⟨fun j c z=>?_,fun j k c d z y q=>?_⟩
 ·rcases a6G z with ⟨_,rfl⟩ | ⟨_,z⟩ | ⟨_,z⟩
  ·exact aK
  ·rw[aQ (ne _ c z)];exact hc.at_ _ c z
  ·rw[aQ (ne _ c z)];exact hc.at_ _ c z
 ·rcases a6G z with ⟨n1,rfl⟩ | ⟨n1,z⟩ | ⟨n1,z⟩ <;> rcases a6G y with ⟨n2,rfl⟩ | ⟨n2,y⟩ | ⟨n2,y⟩
  ·omega
  ·exact absurd q.symm (ne _ d y)
  ·exact absurd q.symm (ne _ d y)
  ·exact absurd q (ne _ c z)
  ·exact hc.ap _ _ c d z y q
  ·have:=hc.ap _ _ c d z y q;omega
  ·exact absurd q (ne _ c z)
  ·have:=hc.ap _ _ c d z y q;omega
  ·have:=hc.ap _ _ c d z y q;omega
/-- a rail that is being made at a since H0:its cells L,its posts -/
structure Mk0 (A:Cs)(H0:Hp)(a:Addr)(H:Hp)(L:List (Addr×HO))(ps:List Addr)(Ss:List PS)(op:Own):Prop where
 cs:CellsAt H L
 po:PsAt A H ps Ss op
 dj:∀x,op x->∀(j:Nat)(c:Addr×HO),L[j]? =some c->c.1≠x
 nw:∀(j:Nat)(c:Addr×HO),L[j]? =some c->c.1=a\/H0 c.1=none
 npo:∀x,op x->H0 x=none
 kp:∀x u,x≠a->H0 x=some u->H x=some u
 ha:H a≠none
theorem b2W {c0 c:Addr×HO}{j:Nat}(z:[c0][j]? =some c):j=0/\c=c0:=by
 cases j with
 |zero=>exact⟨rfl,(YE z).symm⟩
 |succ j=>cases z
theorem Mk0.base {A:Cs}{H:Hp}{a:Addr}{v:HO}(e:H a=some v):Mk0 A H a H [(a,v)] [] [] (fun _=>False):=by
 refine⟨⟨fun j c z=>?_,fun i j c d z y q=>?_⟩,fun x hx=>hx.elim,fun x hx=>hx.elim,fun j c z=>?_,fun x hx=>hx.elim,fun x u _ q=>q,by rw[e];simp⟩
 ·obtain⟨_,rfl⟩:=b2W z
  exact e
 ·rw[(b2W z).1,(b2W y).1]
 ·obtain⟨_,rfl⟩:=b2W z
  exact .inl rfl
section
variable {A:Cs}{H0 H H':Hp}{a q:Addr}{L L1 L2:List (Addr×HO)}{ps:List Addr}{Ss:List PS}{op:Own}{v v':HO}
theorem Mk0.non0 (h:Mk0 A H0 a H L ps Ss op)(n:H q=none):H0 q=none:=by
 cases e:H0 q with
 |none=>rfl
 | some u=>
  by_cases z:q=a
  ·exact absurd (z▸n) h.ha
  ·rw[h.kp q u z e]at n;cases n
theorem Mk0.ins (h:Mk0 A H0 a H (L1++L2) ps Ss op)(n:H q=none):Mk0 A H0 a (upd H q v) (L1++(q,v)::L2) ps Ss op:=by
 have nq:=h.non0 n
 refine⟨h.cs.ins n,h.po.same (aX n v),fun x hx j c z y=>?_,fun j c z=>?_,h.npo,fun x u hx e=>?_,?_⟩
 ·rcases a6G z with ⟨_,rfl⟩ | ⟨_,z⟩ | ⟨_,z⟩
  ·exact h.po.al x hx (y▸n)
  ·exact h.dj x hx _ c z y
  ·exact h.dj x hx _ c z y
 ·rcases a6G z with ⟨_,rfl⟩ | ⟨_,z⟩ | ⟨_,z⟩
  ·exact .inr nq
  ·exact h.nw _ c z
  ·exact h.nw _ c z
 ·exact aX n v _ _ (h.kp x u hx e)
 ·have:=h.ha
  cases e:H a with
  |none=>exact absurd e this
  |some u=>rw[aX n v _ _ e];simp
theorem Mk0.put (h:Mk0 A H0 a H ((a,v)::L) ps Ss op)(nT:¬ isT v):Mk0 A H0 a (upd H a v') ((a,v')::L) ps Ss op:=by
 have e:H a=some v:=h.cs.at_ 0 _ rfl
 have old:∀(j:Nat)(c:Addr×HO),((a,v')::L)[j]? =some c->∃c',((a,v)::L)[j]? =some c'/\c'.1=c.1:=fun j c z=>by
  cases j with
  |zero=>cases z;exact⟨_,rfl,rfl⟩
  |succ j=>exact⟨c,z,rfl⟩
 refine⟨h.cs.put (i:=0) rfl v',h.po.move fun x u eu z=>?_,fun x hx j c z y=>?_,fun j c z=>?_,h.npo,fun x u hx eu=>?_,by rw[aK];simp⟩
 ·rw [aQ fun y=>?_]
  ·exact eu
  ·rcases z with z | z
   ·exact h.dj x z 0 _ rfl y.symm
   ·rw[y,e]at eu;cases eu;exact nT z
 ·obtain⟨c',z1,z2⟩:=old j c z
  exact h.dj x hx j c' z1 (z2.trans y)
 ·obtain⟨c',z1,z2⟩:=old j c z
  rw[<-z2]
  exact h.nw j c' z1
 ·rw[aQ hx];exact h.kp x u hx eu
/-- one more post -/
theorem Mk0.post {p dp:Addr}{w:HO}{S:PS}{o:Own}(h:Mk0 A H0 a H L ps Ss op)(hp:H p=none)(hdp:H dp=none)(hP:PostAt A H' p S o)(hin:∀x,o x->x=p\/upd (upd H dp (.own p)) p w x=none)(hk:∀x u,x≠p->upd (upd H dp (.own p)) p w x=some u->H' x=some u):Mk0 A H0 a H' L (ps++[p]) (Ss++[S]) (Or2 op o):=by
 obtain⟨lw,g⟩:=c2J (Same.refl H) hp hdp hP hin hk
 have no:∀x,o x->H x=none:=fun x hx=>lw.fr x hx
 refine⟨h.cs.same g,h.po.snoc hP g no,fun x hx j c z y=>?_,h.nw,fun x hx=>?_,fun x u hx e=>g _ _ (h.kp x u hx e),?_⟩
 ·rcases hx with hx | hx
  ·exact h.dj x hx j c z y
  ·have:=h.cs.at_ j c z
   rw[y,no x hx]at this;cases this
 ·rcases hx with hx | hx
  ·exact h.npo x hx
  ·exact h.non0 (no x hx)
 ·have:=h.ha
  cases e:H a with
  |none=>exact absurd e this
  |some u=>rw[g _ _ e];simp
end
theorem b4J {as:List Addr}{q:Addr}(n:Nat)(h:as.length=n):lsC (as++[q]) (List.replicate (n+1) [])=lsC as (List.replicate n [])++[(q,.lst [])]:=by
 unfold lsC
 rw[List.replicate_succ',List.zipWith_append (by rw[Xz];exact h)]
 rfl
def R0 (ms:List (Int×Int))(v:Int):RS:={ ps:=ms.map fun m=>S0 m.1.toNat m.2.toNat v.toNat,ow:=[],bo:=[],sa:=List.replicate ms.length [],he:=List.replicate ms.length [],ev:=[] }
theorem Mk0.fin {C:Addr}{A:Cs}{H0 H:Hp}{a dx PL OW BO SA HE EV:Addr}{ps sas hes:List Addr}{op:Own}{ms:List (Int×Int)}{v:Int}(h:Mk0 A H0 a H (railL C a ⟨dx,PL,OW,BO,SA,HE,EV,ps,sas,hes, [],op⟩ (R0 ms v)) ps (R0 ms v).ps op)(l1:sas.length=ms.length)(l2:hes.length=ms.length)(l5:ms.length<=5):∃o,RailAt C A H a (R0 ms v) o/\∀x,o x->x=a\/H0 x=none:=by
 have lp:(R0 ms v).ps.length=ms.length:=Ya ..
 refine⟨fun x=>op x\/∃(j:Nat)(c:Addr×HO),(railL C a ⟨dx,PL,OW,BO,SA,HE,EV,ps,sas,hes, [],op⟩ (R0 ms v))[j]? =some c/\c.1=x,⟨_,h.cs,h.po,.nil,by rw[lp];exact l1,by rw[lp];exact Xz ..,by rw[lp];exact l2,by rw[lp];exact Xz ..,by rw[lp];exact l5,h.dj,fun x hx=>hx,fun x hx=>?_⟩,fun x hx=>?_⟩
 ·rcases hx with hx | ⟨j,c,z,rfl⟩
  ·exact h.po.al x hx
  ·rw[h.cs.at_ j c z];simp
 ·rcases hx with hx | ⟨j,c,z,rfl⟩
  ·exact .inr (h.npo x hx)
  ·exact h.nw j c z
/-- choices:tuples of two numbers -/
def ChsAt (H:Hp)(cl:Addr)(ms:List (Int×Int)):Prop:=∃ts:List Addr,H cl=some (.lst (ts.map V.ref))/\ts.length=ms.length/\∀(i:Nat)(t:Addr)(m:Int×Int),ts[i]? =some t->ms[i]? =some m->H t=some (.tup [.int m.1,.int m.2])
def spRlInit (C:Addr)(A:Cs)(NP:Addr):Sp:=fun vs H Q E=>∃a dx cl v ms,vs= [.ref a,.ref cl,.int v]/\H a=some (.ins C dx [])/\ChsAt H cl ms/\ms.length<=500/\
 (((1<=ms.length/\ms.length<=5)/\∀m∈ms,PoOk m.1 m.2 v)->∀H' o,RailAt C A H' a (R0 ms v) o->(∀x,o x->x=a\/H x=none)->(∀x u,x≠a->H x=some u->H' x=some u)->Q .non H')/\
 (¬ ((1<=ms.length/\ms.length<=5)/\∀m∈ms,PoOk m.1 m.2 v)->∀H',(∀x u,x≠a->H x=some u->H' x=some u)->E (.ref NP) none H')
/-! queries of a rail,of any number -/
def spAskE (C:Addr)(A:Cs)(NP:Addr)(g:PS->Hp->VK->Prop):Sp:=fun vs H Q E=>∃r R o w k,vs= [.ref r,.int k]/\RlAt C A H r R o w/\(∀(i:Nat) S,k=((i:Nat):Int)->R.ps[i]? =some S->g S H Q)/\(¬ (0<=k/\k<((R.ps.length:Nat):Int))->∀H',Same H H'->E (.ref NP) none H')
def spAskL (C:Addr)(A:Cs)(NP:Addr)(g:RS->List (List Int)):Sp:=fun vs H Q E=>∃r R o w k,vs= [.ref r,.int k]/\RlAt C A H r R o w/\(∀(i:Nat) xs,k=((i:Nat):Int)->(g R)[i]? =some xs->∀l,H l=none->Q (.ref l) (upd H l (.lst (xs.map V.int))))/\(¬ (0<=k/\k<((R.ps.length:Nat):Int))->∀H',Same H H'->E (.ref NP) none H')
def gStance:PS->Hp->VK->Prop:=fun S H Q=>∃k,S.now= .free k/\∀t H',H t=none->Same H H'->H' t=some (.tup [.str "free",.int ((k:Nat):Int)])->Q (.ref t) H'
def gN:PS->Hp->VK->Prop:=fun S H Q=>Q (.int S.tot) H
def gB (lim:Int):PS->Hp->VK->Prop:=fun S H Q=>Q (.bl (decide (lim<=S.tot))) H
def gWaits:PS->Hp->VK->Prop:=fun S H Q=>S.wt.length<=900/\∀l xs H',H l=none->Same H H'->H' l=some (.lst xs)->FrsNew H H' xs S.wt->Q (.ref l) H'
def gGot:PS->Hp->VK->Prop:=fun S H Q=>S.up.length<=900/\∀l xs H',H l=none->Same H H'->H' l=some (.lst xs)->FrsNew H H' xs S.up->Q (.ref l) H'
open Bm
def TgOk (g:Int)(th:List Int):Prop:=byt g=true/\th.length<=75/\th.all byt=true
def nP (th:List Int):Nat:=max 1 ((th.length+4) / 5)
def pc (g:Int)(n k:Nat)(th:List Int):List Int:=[g,16*((n:Nat):Int)+((k:Nat):Int)]++(th.drop (5*k)).take 5
theorem c4Q (g:Int)(n k:Nat)(th:List Int):(pc g n k th).length<=7:=by
 unfold pc
 rw[Yj,YT]
 show 2+_<=7
 omega
def spChkT (K:W.Frag)(C:Addr):Sp:=fun vs H Q E=>∃(g:Int)(a:Addr)(th:List Int),vs= [.int g,.ref a]/\SqL K H a (th.map V.int)/\th.length<=500/\(TgOk g th->∀H',Same H H'->Q .non H')/\(¬ TgOk g th->∀H',Same H H'->E (.ref C) none H')
def spPiece (K:W.Frag):Sp:=fun vs H Q _=>∃(g:Int)(n k:Nat)(a:Addr)(th:List Int),vs= [.int g,.int n,.int k,.ref a]/\SqL K H a (th.map V.int)/\th.length<=500/\n<=500/\k<=500/\∀p H',H p=none->Same H H'->H' p=some (.lst ((pc g n k th).map V.int))->Q (.ref p) H'
/-- the pieces stand at qs -/
def Pcs (H:Hp)(g:Int)(n:Nat)(th:List Int)(qs:List Addr):Prop:=∀(k:Nat)(q:Addr),qs[k]? =some q->H q=some (.lst ((pc g n k th).map V.int))
theorem Pcs.same {H H':Hp}{g:Int}{n:Nat}{th:List Int}{qs:List Addr}(h:Pcs H g n th qs)(s:Same H H'):Pcs H' g n th qs:=fun k q e=>s _ _ (h k q e)
def spCut (K:W.Frag)(C:Addr):Sp:=fun vs H Q E=>∃(g:Int)(a:Addr)(th:List Int),vs= [.int g,.ref a]/\SqL K H a (th.map V.int)/\th.length<=500/\
 (TgOk g th->∀p qs H',H p=none->(∀q∈qs,H q=none)->qs.Nodup->p∉qs->Same H H'->H' p=some (.lst (qs.map V.ref))->qs.length=nP th->Pcs H' g (nP th) th qs->Q (.ref p) H')/\(¬ TgOk g th->∀H',Same H H'->E (.ref C) none H')
theorem c0G {g:Int}{th:List Int}(h:¬ byt g=true\/75<th.length\/∃d∈th,¬ byt d=true):¬ TgOk g th:=fun ⟨h1,h2,h3⟩=>by
 rcases h with h | h | ⟨d,hd,h⟩
 ·exact h h1
 ·omega
 ·exact h (YH.mp h3 d hd)
theorem c3I (n:Nat):Builtin.Range.rangeSize 0 ((n:Nat):Int) 5=(((n+4) / 5:Nat):Int):=by
 unfold Builtin.Range.rangeSize
 rw[if_pos (by decide)]
 split
 ·omega
 ·omega
theorem c6V {th:List Int}(h:th.length<=500):nP th<=101:=by unfold nP;omega

open Bm
/-- the last k figures of n -/
def fg:Nat->Nat->List Nat
 |0,_=>[]
 |k+1,n=>fg k (n / 10)++[48+n % 10]
theorem c1A:∀k n,∀c∈fg k n,48<=c/\c<=57
 |0,_,_,h=>by cases h
 | k+1,n,c,h=>by
  rcases YX.mp h with z | z
  ·exact c1A k _ c z
  ·rw[Yx.mp z];omega
theorem b6W:∀k,fg k 0=List.replicate k 48
 |0=>rfl
 |k+1=>by show fg k (0 / 10)++[48+0 % 10]=_;rw[Nat.zero_div,b6W k,List.replicate_succ']
abbrev dgs (m:Nat):List Nat:=(Nat.toDigits 10 m).map Char.toNat
theorem b4W:∀d:Nat,d<10->(Nat.digitChar d).toNat=48+d:=by decide
theorem yC {m:Nat}(h:m<10):dgs m= [48+m]:=by
 unfold dgs
 rw[Nat.toDigits_of_lt_base h]
 show [(Nat.digitChar m).toNat]=_
 rw[b4W m h]
theorem b6B {m:Nat}(h:¬ m<10):dgs m=dgs (m / 10)++[48+m % 10]:=by
 have hm:m % 10<10:=Nat.mod_lt m (by decide)
 have t:Nat.toDigits 10 (m / 10)++Nat.toDigits 10 (m % 10)=Nat.toDigits 10 (10*(m / 10)+m % 10):=Nat.toDigits_append_toDigits (by decide) (by omega) hm
 rw[Nat.div_add_mod]at t
 unfold dgs
 rw[<-t,Yu,Nat.toDigits_of_lt_base hm]
 show _++[(Nat.digitChar (m % 10)).toNat]=_
 rw[b4W _ hm]
theorem b3D:∀k m,1<=k->m<10 ^ k->(dgs m).length<=k/\1<=(dgs m).length/\List.replicate (k-(dgs m).length) 48++dgs m=fg k m:=by
 intro k
 induction k with
 |zero=>intro m h _;cases h
 | succ k ih=>
  intro m _ hm
  by_cases c:m<10
  ·rw[yC c]
   refine⟨by show 1<=k+1;omega,Ye _,?_⟩
   show List.replicate (k+1-1) 48++[48+m]=fg k (m / 10)++[48+m % 10]
   rw[Nat.add_sub_cancel,Nat.div_eq_of_lt c,Nat.mod_eq_of_lt c,b6W]
  ·have hk:1<=k:=by
    cases k with
    |zero=>omega
    |succ k=>omega
   have h1:m / 10<10 ^ k:=by
    rw[Nat.pow_succ]at hm
    exact Nat.div_lt_of_lt_mul (by rw[Nat.mul_comm];exact hm)
   obtain⟨i1,i2,i3⟩:=ih (m / 10) hk h1
   rw[b6B c,Yj]
   refine⟨by show _+1<=k+1;omega,by show 1<=_+1;omega,?_⟩
   show List.replicate (k+1-(_+1)) 48++(dgs (m / 10)++[48+m % 10])=fg k (m / 10)++[48+m % 10]
   rw[Nat.add_sub_add_right,<-Xx,i3]
theorem a9D (m:Nat):(PySem.Str.ofString (toString ((m:Nat):Int)))=txt (dgs m):=by
 rw[<-c4F (PySem.Str.ofString (toString ((m:Nat):Int))),W.KIN.signs_num]
theorem b9N (n:Nat):Builtin.Range.rangeSize 0 ((n:Nat):Int) 40=(((n+39) / 40:Nat):Int):=by
 unfold Builtin.Range.rangeSize
 rw[if_pos (by decide)]
 split
 ·omega
 ·omega
theorem fits {z:Int}(h0:0<=z)(h:z<=100000):Builtin.Range.rangeFitsLong z=true:=by
 unfold Builtin.Range.rangeFitsLong
 rw[YC]
 exact⟨Yk (by omega),Yk (by omega)⟩
theorem c1Z {n:Nat}(h:n<=3000):Builtin.Range.small 0 ((n:Nat):Int) 40=true:=by
 unfold Builtin.Range.small
 rw[b9N,if_pos (by decide),fits (by decide) (by decide),fits (by omega) (by omega),fits (by decide) (by decide),fits (by omega) (by omega),fits (by omega) (by omega),Bool.or_true]
 rfl
theorem szl {n:Nat}(h:n<=9000):n<=sizeLine:=Yn h (by decide)
theorem c7R {n:Nat}(h:n<=9000):n<sizeLine:=Xf h (by decide)
theorem c7X {c:Nat}(h:48<=c/\c<=57):(!(Builtin.Str.occurrences ("0123456789":Str) (⟨#[c]⟩:Str) 0 ("0123456789":Str).length 1).isEmpty)=true:=by
 have:c=48\/c=49\/c=50\/c=51\/c=52\/c=53\/c=54\/c=55\/c=56\/c=57:=by omega
 rcases this with rfl | rfl | rfl | rfl | rfl | rfl | rfl | rfl | rfl | rfl <;> decide +kernel
def isDg (c:Nat):Bool:=decide (48<=c/\c<=57)
theorem c3S (c:Nat):(!(Builtin.Str.occurrences ("0123456789":Str) (⟨#[c]⟩:Str) 0 ("0123456789":Str).length 1).isEmpty)=isDg c:=by
 rw[StrLaws.found_one]
 unfold isDg
 have e:("0123456789":Str).cps.toList= [48,49,50,51,52,53,54,55,56,57]:=by decide +kernel
 rw[e]
 by_cases h:48<=c/\c<=57
 ·rw[Yk h,Y2]
  have:c=48\/c=49\/c=50\/c=51\/c=52\/c=53\/c=54\/c=55\/c=56\/c=57:=by omega
  simpa using this
 ·rw[Yi h,decide_eq_false_iff_not]
  intro z
  simp at z
  omega
/-- the number that a word is -/
def numIn (l:List Nat):Option Nat:=if (1<=l.length/\l.length<=6)/\l.all isDg=true/\¬ (l.headD 0=48/\1<l.length) then some (PySem.NumText.digitsVal l) else none
def numV (l:List Nat):V:=(numIn l).elim .non fun n=> .int ((n:Nat):Int)
def spNumIn:Sp:=fun vs H Q _=>∃l:List Nat,vs= [.str (txt l)]/\l.length<=900/\∀H',Same H H'->Q (numV l) H'
theorem sE (x:Str):x=txt x.cps.toList:=by
 obtain⟨⟨a⟩⟩:=x
 rfl
theorem b1V (c:Nat):∀ws:List Str,ws.length<=(Str.join (sepC c) ws).length+1
 |[]=>YO _
 |[x]=>Nat.succ_le_succ (YO _)
 | x::y::r=>by
  have h:=b1V c (y::r)
  show r.length+1+1<=(x++sepC c++Str.join (sepC c) (y::r)).length+1
  rw[YV,YV]
  have e:(sepC c).length=1:=rfl
  have h':r.length+1<=(Str.join (sepC c) (y::r)).length+1:=h
  omega
theorem split_len (x:Str)(c:Nat):(Txt.split x (sepC c)).length<=x.length+1:=by
 have:=b1V c (Txt.split x (sepC c))
 rw[join_split]at this
 exact this
theorem b4P (c:Nat):∀(ws:List Str),∀w∈ws,w.length<=(Str.join (sepC c) ws).length
 |[x],w,h=>by rw[Yx.mp h];exact Ye _
 | x ::y::r,w,h=>by
  show _<=(x++sepC c++Str.join (sepC c) (y::r)).length
  rw[YV,YV]
  rcases Yv.mp h with rfl | h
  ·omega
  ·have:=b4P c (y::r) w h
   omega
theorem a7B {x:Str}{c:Nat}{w:Str}(h:w∈Txt.split x (sepC c)):w.length<=x.length:=by
 have:=b4P c _ w h
 rw[join_split]at this
 exact this
/-- the choice that a word is -/
def choIn (l:List Nat):Option (Nat×Nat):=match Txt.split (txt l) (sepC 47) with
 |[x,y]=>(numIn x.cps.toList).bind fun a=>(numIn y.cps.toList).map fun b=>(a,b)
 |_=>none
def spCho83:Sp:=fun vs H Q _=>∃l:List Nat,vs= [.str (txt l)]/\l.length<=900/\(choIn l=none->∀H',Same H H'->Q .non H')/\∀a b,choIn l=some (a,b)->∀t H',H t=none->Same H H'->H' t=some (.tup [.int ((a:Nat):Int),.int ((b:Nat):Int)])->Q (.ref t) H'
def capV (l:List Nat)(m:Int):V:=(numIn l).elim .non fun n=>if ((n:Nat):Int)<=m then .int ((n:Nat):Int) else .non
def spVal83 (K:W.Frag):Sp:=fun vs H Q _=>∃(l:List Nat)(k:Str)(al:Addr)(xs:List V),vs= [.str (txt l),.str k,.ref al]/\l.length<=900/\SqL K H al xs/\
  ((k=""/\∀H',Same H H'->Q .non H')\/(k="choice"/\(choIn l=none->∀H',Same H H'->Q .non H')/\∀a b,choIn l=some (a,b)->∀t H',H t=none->Same H H'->H' t=some (.tup [.int ((a:Nat):Int),.int ((b:Nat):Int)])->Q (.ref t) H')\/
   (k="number"/\∀H',Same H H'->Q (numV l) H')\/(k="turns"/\∀H',Same H H'->Q (capV l 2000) H')\/(k="end"/\∃m:Int,atI xs (-1)=some (.int m)/\∀H',Same H H'->Q (capV l (m+400)) H'))
/-! rows of the desk:what their words are -/
inductive Vl
 |num (n:Nat)
 |cho (a b:Nat)
def formsL:List (Str×List Str×Str):=[("rail", ["number","choice"],"choice"),("hand", ["number","number"],"number"),("thing", ["number","number","number"],"number"),("wrong", ["number","number"],""),("run", ["turns"],""),("bits", ["number","end"],""),("draw", ["number","number","end"],""),("got", ["number"],""),("waits", ["number"],""),("things", ["number","number"],""),("stance", ["number"],""),("faults", ["number"],"")]
def lastN (xs:List Vl):Nat:=match xs.getLast? with
 |some (.num n)=>n
 |_=>0
def capN (l:List Nat)(m:Nat):Option Nat:=(numIn l).bind fun n=>if n<=m then some n else none
def valIn (l:List Nat)(k:Str)(vs:List Vl):Option Vl:=
 if k="" then none else if k="choice" then (choIn l).map fun p=> .cho p.1 p.2 else if k="number" then (numIn l).map .num else if k="turns" then (capN l 2000).map .num else (capN l (lastN vs+400)).map .num
def rowGo (nd:List Str)(m:Str):List Str->List Vl->Except Nat (List Vl)
 |[],vs=>if vs.length<nd.length then .error (vs.length+1) else .ok vs
 | x::ws,vs=>match valIn x.cps.toList (nd.getD vs.length m) vs with
  |none=> .error (vs.length+1)
  |some v=>rowGo nd m ws (vs++[v])
def rowIn:List Str->Except Nat (List Vl)
 |[]=> .error 0
 | x::r=>match formsL.lookup x with
  |none=> .error 0
  |some f=>rowGo f.1 f.2 r []
inductive VlsAt (H:Hp):List V->List Vl->Prop
 |nil:VlsAt H [] []
 |num {n:Nat} {vs:List V} {ls:List Vl}:VlsAt H vs ls->VlsAt H (.int ((n:Nat):Int)::vs) (.num n::ls)
 |cho {t:Addr} {a b:Nat} {vs:List V} {ls:List Vl}:H t=some (.tup [.int ((a:Nat):Int),.int ((b:Nat):Int)])->VlsAt H vs ls->VlsAt H (.ref t::vs) (.cho a b::ls)
theorem VlsAt.imp {H H':Hp}(g:∀x xs,H x=some (.tup xs)->H' x=some (.tup xs)):∀{vs:List V}{ls:List Vl},VlsAt H vs ls->VlsAt H' vs ls
 |_,_,.nil=> .nil
 |_,_,.num r=> .num (r.imp g)
 |_,_,.cho a r=> .cho (g _ _ a) (r.imp g)
theorem VlsAt.append {H:Hp}{us:List V}{ks:List Vl}(h:VlsAt H us ks):∀{vs:List V}{ls:List Vl},VlsAt H vs ls->VlsAt H (vs++us) (ls++ks)
 |_,_,.nil=>h
 |_,_,.num r=> .num (VlsAt.append h r)
 |_,_,.cho a r=> .cho a (VlsAt.append h r)
theorem VlsAt.len {H:Hp}:∀{vs:List V}{ls:List Vl},VlsAt H vs ls->vs.length=ls.length
 |_,_,.nil=>rfl
 |_,_,.num r=>Yy (·+1) r.len
 |_,_,.cho _ r=>Yy (·+1) r.len
theorem VlsAt.last {H:Hp}:∀{vs:List V}{ls:List Vl},VlsAt H vs ls->∀{n:Nat},ls.getLast? =some (.num n)->vs.getLast? =some (.int ((n:Nat):Int))
 |_,_,.nil,n,h=>by cases h
 | _, _,.num (ls:=ls) r,n,h=>by
  cases ls with
  |nil=>cases r;cases h;rfl
  | cons y ls=>
   rw[Xv]at h
   have:=r.last h
   cases r <;> (rw[Xv];exact this)
 | _, _,.cho (ls:=ls) a r,n,h=>by
  cases ls with
  |nil=>cases r;cases h
  | cons y ls=>
   rw[Xv]at h
   have:=r.last h
   cases r <;> (rw[Xv];exact this)
/-- a tuple that the module holds -/
def TupV (K:W.Frag)(a:Addr)(xs:List V):Prop:=∃(o:Obj)(its:Array Value)(n:Nat),K.lookup a=some o/\o.cls= .type "tuple"/\o.data= .seq its n/\its.size<=sizeLine/\Vals xs its.toList
theorem tpR {K:W.Frag}{a u:Addr}{m:Str}{od:Option Addr}{sl:Array (Option Value)}{n:Nat}{t:Tok}(h:K.lookup a=some ⟨.type "tuple",od,.seq #[.ref u,.str m t] n,sl⟩):TupV K a [.ref u,.str m]:=⟨_,_,_,h,rfl,rfl,aN rfl,.cons rfl (.cons ⟨_,rfl⟩ .nil)⟩
theorem tpS1 {K:W.Frag}{a:Addr}{m0:Str}{od:Option Addr}{sl:Array (Option Value)}{n:Nat}{t0:Tok}(h:K.lookup a=some ⟨.type "tuple",od,.seq #[.str m0 t0] n,sl⟩):TupV K a ([m0].map V.str):=⟨_,_,_,h,rfl,rfl,aN rfl,.cons ⟨_,rfl⟩ .nil⟩
theorem tpS2 {K:W.Frag}{a:Addr}{m0 m1:Str}{od:Option Addr}{sl:Array (Option Value)}{n:Nat}{t0 t1:Tok}(h:K.lookup a=some ⟨.type "tuple",od,.seq #[.str m0 t0,.str m1 t1] n,sl⟩):TupV K a ([m0,m1].map V.str):=⟨_,_,_,h,rfl,rfl,aN rfl,.cons ⟨_,rfl⟩ (.cons ⟨_,rfl⟩ .nil)⟩
theorem tpS3 {K:W.Frag}{a:Addr}{m0 m1 m2:Str}{od:Option Addr}{sl:Array (Option Value)}{n:Nat}{t0 t1 t2:Tok}(h:K.lookup a=some ⟨.type "tuple",od,.seq #[.str m0 t0,.str m1 t1,.str m2 t2] n,sl⟩):TupV K a ([m0,m1,m2].map V.str):=⟨_,_,_,h,rfl,rfl,aN rfl,.cons ⟨_,rfl⟩ (.cons ⟨_,rfl⟩ (.cons ⟨_,rfl⟩ .nil))⟩
theorem TupV.sq {K:W.Frag}{a:Addr}{xs:List V}(h:TupV K a xs)(H:Hp):SqT K H a xs:= .inr h
open PyProof.Rows in
inductive FormEnts (K:W.Frag):List (Key×V)->List (Str×List Str×Str)->Prop
 |nil:FormEnts K [] []
 |cons {k m:Str} {ns:List Str} {t u:Addr} {kvs:List (Key×V)} {fs:List (Str×List Str×Str)}:TupV K t [.ref u,.str m]->TupV K u (ns.map V.str)->FormEnts K kvs fs->FormEnts K ((.inr k,.ref t)::kvs) ((k,ns,m)::fs)
open PyProof.Rows in
theorem FormEnts.get {K:W.Frag}{x:Str}:∀{kvs:List (Key×V)}{fs:List (Str×List Str×Str)},FormEnts K kvs fs->(fs.lookup x=none/\valV kvs (.inr x)=none)\/∃ns m t u,fs.lookup x=some (ns,m)/\valV kvs (.inr x)=some (.ref t)/\TupV K t [.ref u,.str m]/\TupV K u (ns.map V.str)
 |_,_,.nil=> .inl ⟨rfl,rfl⟩
 | _, _,.cons (k:=k) (m:=m) (ns:=ns) (t:=t) (u:=u) (kvs:=kvs) (fs:=fs) a b r=>by
  by_cases c:x=k
  ·subst c
   exact .inr ⟨ns,m,t,u,by rw[List.lookup_cons_self],by simp[valV],a,b⟩
  ·have e1:((k,ns,m)::fs).lookup x=fs.lookup x:=by rw[Y1,show (x == k)=false from Y6.mpr c]
   have e2:valV ((Sum.inr k,V.ref t)::kvs) (.inr x)=valV kvs (.inr x):=by
    have:(Sum.inr k:Key)≠ .inr x:=fun z=>c (by cases z;rfl)
    simp[valV,this]
   rw[e1,e2]
   exact r.get
def kindOk (k:Str):Bool:=decide (k=""\/k="choice"\/k="number"\/k="turns")
/-- each kind is one of these,or the end of a part,behind a number -/
def formOk (nd:List Str)(m:Str):Bool:=kindOk m && (List.range nd.length).all fun i=>kindOk (nd.getD i "") || (decide (nd.getD i ""="end") && decide (0<i) && decide (nd.getD (i-1) ""="number"))
theorem c0Y:(formsL.all fun f=>formOk f.2.1 f.2.2)=true:=by decide +kernel
theorem lookup_mem {x:Str}{v:List Str×Str}:∀{fs:List (Str×List Str×Str)},fs.lookup x=some v->(x,v)∈fs
 | (k,u)::fs,h=>by
  rw[Y1]at h
  by_cases c:x=k
  ·rw[show (x == k)=true from Y8.mpr c]at h
   cases h
   rw[c]
   exact Yw ..
  ·rw[show (x == k)=false from Y6.mpr c]at h
   exact Yf _ (lookup_mem h)
theorem b1Y {x:Str}{nd:List Str}{m:Str}(h:formsL.lookup x=some (nd,m))(i:Nat):kindOk (nd.getD i m)=true\/(nd.getD i m="end"/\0<i/\nd.getD (i-1) m="number"):=by
 have h1:=YH.mp c0Y _ (lookup_mem h)
 unfold formOk at h1
 rw[YC]at h1
 by_cases c:i<nd.length
 ·have h2:=YH.mp h1.2 i (List.mem_range.mpr c)
  have e:∀j,j<nd.length->nd.getD j ""=nd.getD j m:=fun j hj=>by rw[YG,YG,Yh hj];rfl
  rw[e i c,e (i-1) (by omega),XG,YC,YC,Y2,Y2,Y2]at h2
  rcases h2 with h2 | ⟨⟨h2,h3⟩,h4⟩
  ·exact .inl h2
  ·exact .inr ⟨h2,h3,h4⟩
 ·rw[YG,Xh (by omega)]
  exact .inl h1.1
/-- where a number is asked for,a number stands -/
def NumsOk (nd:List Str)(m:Str)(vs:List Vl):Prop:=∀i,i<vs.length->nd.getD i m="number"->∃n,vs[i]? =some (.num n)
theorem NumsOk.snoc {nd:List Str}{m:Str}{vs:List Vl}{l:List Nat}{v:Vl}(h:NumsOk nd m vs)(e:valIn l (nd.getD vs.length m) vs=some v):NumsOk nd m (vs++[v]):=fun i hi hk=>by
 by_cases c:i<vs.length
 ·rw[YN c];exact h i c hk
 ·have ei:i=vs.length:=by rw[Yj]at hi;simp at hi;omega
  rw[ei]at hk ⊢
  rw[hk]at e
  unfold valIn at e
  rw[if_neg (by decide),if_neg (by decide),if_pos rfl]at e
  obtain⟨n,_,rfl⟩:=Yt.mp e
  exact⟨n,List.getElem?_concat_length⟩
theorem NumsOk.last {nd:List Str}{m:Str}{vs:List Vl}(h:NumsOk nd m vs)(p:0<vs.length)(e:nd.getD (vs.length-1) m="number"):∃n,vs.getLast? =some (.num n)/\lastN vs=n:=by
 obtain⟨n,hn⟩:=h (vs.length-1) (by omega) e
 have hl:vs.getLast? =some (.num n):=by rw[List.getLast?_eq_getElem?];exact hn
 exact⟨n,hl,by unfold lastN;rw[hl]⟩
theorem zN {x:Str}{r:List Str}(h:formsL.lookup x=none):rowIn (x::r)= .error 0:=by
 show (match formsL.lookup x with | none=>Except.error 0 | some f=>rowGo f.1 f.2 r [])=_
 rw[h]
theorem lA {x:Str}{r nf:List Str}{m:Str}(h:formsL.lookup x=some (nf,m)):rowIn (x::r)=rowGo nf m r []:=by
 show (match formsL.lookup x with | none=>Except.error 0 | some f=>rowGo f.1 f.2 r [])=_
 rw[h]
theorem zO {nf:List Str}{m x:Str}{ws:List Str}{vs:List Vl}(h:valIn x.cps.toList (nf.getD vs.length m) vs=none):rowGo nf m (x::ws) vs= .error (vs.length+1):=by
 show (match valIn x.cps.toList (nf.getD vs.length m) vs with | none=>Except.error (vs.length+1) | some v=>rowGo nf m ws (vs++[v]))=_
 rw[h]
theorem eO {nf:List Str}{m x:Str}{ws:List Str}{vs:List Vl}{v:Vl}(h:valIn x.cps.toList (nf.getD vs.length m) vs=some v):rowGo nf m (x::ws) vs=rowGo nf m ws (vs++[v]):=by
 show (match valIn x.cps.toList (nf.getD vs.length m) vs with | none=>Except.error (vs.length+1) | some v=>rowGo nf m ws (vs++[v]))=_
 rw[h]
theorem b8X {ys:List V}{y:V}(h:ys.getLast? =some y):atI ys (-1)=some y:=by
 rw[List.getLast?_eq_getElem?]at h
 have hn:=(Yc.mp h).1
 unfold atI ixN
 rw[if_neg (by decide),if_pos (by omega)]
 show ys[(((ys.length:Nat):Int)+ -1).toNat]? =_
 rw[show (((ys.length:Nat):Int)+ -1).toNat=ys.length-1 from by omega]
 exact h
theorem b2B {l:List Nat}{c n:Nat}(h:capN l c=some n):capV l ((c:Nat):Int)= .int ((n:Nat):Int):=by
 unfold capN at h
 unfold capV
 cases e:numIn l with
 |none=>rw[e]at h;cases h
 | some k=>
  rw[e]at h
  show (if ((k:Nat):Int)<=((c:Nat):Int) then V.int ((k:Nat):Int) else .non)=_
  by_cases z:k<=c
  ·rw[if_pos (by omega)]
   have h':(if k<=c then some k else none)=some n:=h
   rw[if_pos z]at h'
   cases h'
   rfl
  ·have h':(if k<=c then some k else none)=some n:=h
   rw[if_neg z]at h'
   cases h'
theorem b2C {l:List Nat}{c:Nat}(h:capN l c=none):capV l ((c:Nat):Int)= .non:=by
 unfold capN at h
 unfold capV
 cases e:numIn l with
 |none=>rfl
 | some k=>
  rw[e]at h
  show (if ((k:Nat):Int)<=((c:Nat):Int) then V.int ((k:Nat):Int) else .non)=_
  have h':(if k<=c then some k else none)=none:=h
  by_cases z:k<=c
  ·rw[if_pos z]at h';cases h'
  ·rw[if_neg (by omega)]
theorem c4C {K:W.Frag}{H:Hp}{al:Addr}{xs:List V}{vs:List Vl}{l:List Nat}{k:Str}{Q:VK}{E:XK}(hv:VlsAt H xs vs)(hS:SqL K H al xs)(hl:l.length<=900)(hk:kindOk k=true\/(k="end"/\∃n,vs.getLast? =some (.num n)/\lastN vs=n))
  (q1:∀v,valIn l k vs=some v->∀y H',Same H H'->VlsAt H' [y] [v]->((∃i,y= .int i)\/∃t,y= .ref t)->Q y H') (q2:valIn l k vs=none->∀H',Same H H'->Q .non H'):spVal83 K [.str (txt l),.str k,.ref al] H Q E:=by
 have num:∀(o:Option Nat)(u:V),o.map Vl.num=valIn l k vs->(∀n,o=some n->u= .int ((n:Nat):Int))->(o=none->u= .non)->∀H',Same H H'->Q u H':=fun o u e e1 e2 H' g=>by
  cases o with
  |none=>rw[e2 rfl];exact q2 e.symm H' g
  |some n=>rw[e1 n rfl];exact q1 _ e.symm _ H' g (.num .nil) (.inl ⟨_,rfl⟩)
 refine⟨l,k,al,xs,rfl,hl,hS,?_⟩
 rcases hk with hk | ⟨rfl,n,h1,h2⟩
 ·rcases Xd hk with rfl | rfl | rfl | rfl
  ·exact .inl ⟨rfl,q2 rfl⟩
  ·refine .inr (.inl ⟨rfl,fun e=>q2 ?_,fun a b e t H' ht g et=>q1 (.cho a b) ?_ _ H' g (.cho et .nil) (.inr ⟨t,rfl⟩)⟩)
   ·unfold valIn;rw[if_neg (by decide),if_pos rfl,e];rfl
   ·unfold valIn;rw[if_neg (by decide),if_pos rfl,e];rfl
  ·refine .inr (.inr (.inl ⟨rfl,num (numIn l) (numV l) ?_ (fun n e=>?_) fun e=>?_⟩))
   ·unfold valIn;rw[if_neg (by decide),if_neg (by decide),if_pos rfl]
   ·unfold numV;rw[e];rfl
   ·unfold numV;rw[e];rfl
  ·refine .inr (.inr (.inr (.inl ⟨rfl,num (capN l 2000) _ ?_ (fun n e=>b2B e) fun e=>b2C e⟩)))
   unfold valIn;rw[if_neg (by decide),if_neg (by decide),if_neg (by decide),if_pos rfl]
 ·refine .inr (.inr (.inr (.inr ⟨rfl,((n:Nat):Int),b8X (hv.last h1),num (capN l (n+400)) _ ?_ (fun j e=>b2B e) fun e=>b2C e⟩)))
  unfold valIn;rw[if_neg (by decide),if_neg (by decide),if_neg (by decide),if_neg (by decide),h2]

open PyProof.Rows in
def kvF:List (Key×V):=[(.inr "rail",.ref 1280),(.inr "hand",.ref 1282),(.inr "thing",.ref 1284),(.inr "wrong",.ref 1286),(.inr "run",.ref 1288),(.inr "bits",.ref 1290),(.inr "draw",.ref 1292),(.inr "got",.ref 1294),(.inr "waits",.ref 1296),(.inr "things",.ref 1298),(.inr "stance",.ref 1300),(.inr "faults",.ref 1302)]
def NoRowOk (n:Nat)(od:Option Addr)(H:Hp):Prop:=∃dx,od=some dx/\H dx=some (.xd [("word",.int ((n:Nat):Int))])
/-! the desk:its rows,what it answers -/
inductive Rf
 |post | frame | name | thing | rail
 deriving DecidableEq
structure Ex5 where
 (post frame name thing rail:Addr)
def Ex5.at (X:Ex5):Rf->Addr
 |.post=>X.post
 |.frame=>X.frame
 |.name=>X.name
 |.thing=>X.thing
 |.rail=>X.rail
abbrev itg (ns:List Nat):List Int:=ns.map fun n=>((n:Nat):Int)
abbrev num (n:Nat):Str:=PySem.Str.ofString (toString ((n:Nat):Int))
inductive Row8
 |rail (v:Nat) (cs:List (Nat×Nat))
 |hand (k n:Nat) (ds:List Nat)
 |thing (k n g:Nat) (ds:List Nat)
 |wrong (k t:Nat)
 |got (k:Nat)
 |waits (k:Nat)
 |things (k n:Nat)
 |stance (k:Nat)
 |faults (k:Nat)
 |draw (k s e:Nat)
 |bits (s e:Nat)
 |run (n:Nat)
def Row8.key:Row8->Str
 |.rail .. =>"rail"
 |.hand .. =>"hand"
 |.thing .. =>"thing"
 |.wrong .. =>"wrong"
 |.got .. =>"got"
 |.waits .. =>"waits"
 |.things .. =>"things"
 |.stance .. =>"stance"
 |.faults .. =>"faults"
 |.draw .. =>"draw"
 |.bits .. =>"bits"
 |.run .. =>"run"
def Row8.vals:Row8->List Vl
 |.rail v cs=> .num v::cs.map fun c=> .cho c.1 c.2
 |.hand k n ds=>(k::n::ds).map .num
 |.thing k n g ds=>(k::n::g::ds).map .num
 |.wrong k t=>[.num k,.num t]
 |.got k=>[.num k]
 |.waits k=>[.num k]
 |.things k n=>[.num k,.num n]
 |.stance k=>[.num k]
 |.faults k=>[.num k]
 |.draw k s e=>[.num k,.num s,.num e]
 |.bits s e=>[.num s,.num e]
 |.run n=>[.num n]
def vlT:Vl->Str
 |.num n=>num n
 |.cho a b=>num a++"/"++num b
def frT (f:Fr):Str:=num f.1++":"++Txt.join "." (f.2.map fun d=>PySem.Str.ofString (toString d))
def frsT (fs:List Fr):Str:=Txt.join " " (fs.map frT)
open Classical in
noncomputable def handR (R:RS)(k n:Nat)(ds:List Int):Except Rf RS:=
 match R.ps[k]? with
 |none=> .error .post
 |some S=>if FrOk ((n:Nat):Int) ds then (if (valV R.ow (.inl ((n:Nat):Int))).getD (.int ((k:Nat):Int))= .int ((k:Nat):Int) then .ok { R with ps:=R.ps.set k { S with wt:=S.wt++[(n,ds)] },ow:=putK R.ow (.inl ((n:Nat):Int)) (.int ((k:Nat):Int)) } else .error .name) else .error .frame
noncomputable def handL (k n:Nat):List (List Int)->RS->Except Rf RS
 |[],R=> .ok R
 | p::ps,R=>match handR R k n p with
  |.error e=> .error e
  |.ok R'=>handL k n ps R'
def pieces (g:Int)(th:List Int):List (List Int):=(List.range (nP th)).map fun j=>pc g (nP th) j th
abbrev Wp:=List (Nat×Nat)
def RlOk (v:Nat)(cs:List (Nat×Nat)):Prop:=(1<=cs.length/\cs.length<=5)/\∀c∈cs,PoOk ((c.1:Nat):Int) ((c.2:Nat):Int) ((v:Nat):Int)
abbrev chI (cs:List (Nat×Nat)):List (Int×Int):=cs.map fun c=>(((c.1:Nat):Int),((c.2:Nat):Int))
def askP (R:RS)(wp:Wp)(k:Nat)(f:PS->Str):Except Rf (Str×Option RS×Wp):=match R.ps[k]? with
 |none=> .error .post
 |some S=> .ok (f S,some R,wp)
open Classical in
noncomputable def ansP (R:RS)(wp:Wp):Row8->Except Rf (Str×Option RS×Wp)
 |.rail v cs=>if RlOk v cs then .ok ("ok",some (R0 (chI cs) ((v:Nat):Int)), []) else .error .post
 | .hand k n ds=>match handR R k n (itg ds) with
  |.error e=> .error e
  |.ok R'=> .ok ("ok",some R',wp)
 | .thing k n g ds=>if TgOk ((g:Nat):Int) (itg ds) then (match handL k n (pieces ((g:Nat):Int) (itg ds)) R with
  |.error e=> .error e
  |.ok R'=> .ok ("ok "++num (nP (itg ds)),some R',wp)) else .error .thing
 |.wrong k t=>if k<R.ps.length then .ok ("ok",some R,wp++[(k,t)]) else .error .post
 |.got k=>askP R wp k fun S=>frsT S.up
 |.waits k=>askP R wp k fun S=>frsT S.wt
 |.things k _=>askP R wp k fun _=>""
 |.stance k=>askP R wp k fun S=>S.now.shown.1++" "++num S.now.shown.2
 |.faults k=>askP R wp k fun S=>PySem.Str.ofString (toString S.tot)
 |.draw k _ _=>askP R wp k fun _=>""
 |.bits .. => .ok ("",some R,wp)
 |.run _=> .error .rail
open Classical in
noncomputable def deskP:Option RS->Wp->Row8->Except Rf (Str×Option RS×Wp)
 |st,wp,.rail v cs=>if RlOk v cs then .ok ("ok",some (R0 (chI cs) ((v:Nat):Int)), []) else .error .post
 |none,_,_=> .error .rail
 |some R,wp,r=>ansP R wp r
/-- no turn was made on this rail -/
structure Z83 (R:RS)(n:Nat):Prop where
 ps:∀S∈R.ps,S.now= .free 0/\S.tot=0/\S.up= []/\S.wt.length<=n
 ow:R.ow.length<=n
 owI:∀(m:Int) v,valV R.ow (.inl m)=some v->∃j:Int,v= .int j
 he:∀x∈R.he,x= []
 bo:R.bo= []
def Row8.small:Row8->Prop
 |.hand _ _ ds=>ds.length<=90
 |.thing _ _ _ ds=>ds.length<=90
 |.rail _ cs=>cs.length<=90
 |.wrong .. =>True
 |.got _=>True
 |.waits _=>True
 |.things .. =>True
 |.stance _=>True
 |.faults _=>True
 |.draw .. =>True
 |.bits .. =>True
 |.run _=>False
/-- a desk on the heap -/
structure DeskW where
 (dx wl:Addr) (rv:V) (ws:List V) (orl:Own)
abbrev dF (rv:V)(wl:Addr):List (Str×V):=[("rail",rv),("wrong",.ref wl)]
def RvAt (CR:Addr)(A:Cs)(H:Hp)(rv:V)(ol:Own):Option RS->Prop
 |none=>rv= .non
 |some R=>∃r,rv= .ref r/\RailAt CR A H r R ol
structure DeskAt (C CR:Addr)(A:Cs)(H:Hp)(d:Addr)(st:Option RS)(wp:Wp)(o:Own)(w:DeskW):Prop where
 ed:H d=some (.ins C w.dx (dF w.rv w.wl))
 ew:H w.wl=some (.lst w.ws)
 ww:VlsAt H w.ws (wp.map fun p=> .cho p.1 p.2)
 rl:RvAt CR A H w.rv w.orl st
 dj:∀x,w.orl x->x≠d/\x≠w.wl
 od:o d
 ow:o w.wl
 inc:∀x,w.orl x->o x
 al:∀x,o x->H x≠none
section
variable {C CR:Addr}{A:Cs}{H H':Hp}{d:Addr}{st:Option RS}{wp:Wp}{o:Own}{w:DeskW}
theorem RvAt.move {rv:V}{ol:Own}(h:RvAt CR A H rv ol st)(g:∀x v,H x=some v->(ol x\/isT v)->H' x=some v):RvAt CR A H' rv ol st:=by
 cases st with
 |none=>exact h
 | some R=>
  obtain⟨r,e,w,hR⟩:=h
  exact⟨r,e,w,hR.move g⟩
theorem DeskAt.move (h:DeskAt C CR A H d st wp o w)(g:∀x v,H x=some v->(o x\/isT v)->H' x=some v):DeskAt C CR A H' d st wp o w:=
 ⟨g _ _ h.ed (.inl h.od),g _ _ h.ew (.inl h.ow),h.ww.imp fun x xs e=>g _ _ e (.inr ⟨_,rfl⟩),h.rl.move fun x v e z=>g x v e (z.imp_left (h.inc x)),h.dj,h.od,h.ow,h.inc,fun x hx=>by
  cases e:H x with
  |none=>exact absurd e (h.al x hx)
  |some v=>rw[g x v e (.inl hx)];simp⟩
theorem DeskAt.same (h:DeskAt C CR A H d st wp o w)(g:Same H H'):DeskAt C CR A H' d st wp o w:=h.move fun x v e _=>g x v e
theorem DeskAt.ne (h:DeskAt C CR A H d st wp o w):d≠w.wl:=fun z=>by have:=h.ed;rw[z,h.ew]at this;cases this
/-- the rail of a desk moves -/
theorem DeskAt.rail {R:RS}(h:DeskAt C CR A H d (some R) wp o w):∃r,w.rv= .ref r/\RailAt CR A H r R w.orl/\∀H' R' ol,RailAt CR A H' r R' ol->Mv w.orl H ol H'->∃o',DeskAt C CR A H' d (some R') wp o' { w with orl:=ol }/\Mv o H o' H':=by
 obtain⟨r,er,hR⟩:=h.rl
 refine⟨r,er,hR,fun H' R' ol hR' m=>⟨fun x=>ol x\/x=d\/x=w.wl,⟨?_,?_,?_,⟨r,er,hR'⟩,?_,.inr (.inl rfl),.inr (.inr rfl),fun x hx=> .inl hx,?_⟩,fun x v e z=>?_,fun x hx=>?_⟩⟩
 ·exact m.1 _ _ h.ed (.inl fun z=>(h.dj _ z).1 rfl)
 ·exact m.1 _ _ h.ew (.inl fun z=>(h.dj _ z).2 rfl)
 ·exact h.ww.imp fun x xs e=>m.1 _ _ e (.inr ⟨_,rfl⟩)
 ·intro x hx
  rcases m.2 x hx with z | z
  ·exact h.dj x z
  ·exact⟨fun y=>(by rw[y,h.ed]at z;cases z),fun y=>(by rw[y,h.ew]at z;cases z)⟩
 ·rintro x (hx | rfl | rfl)
  ·obtain⟨w',hR''⟩:=hR'
   exact hR''.al x hx
  ·rw[m.1 _ _ h.ed (.inl fun z=>(h.dj _ z).1 rfl)];simp
  ·rw[m.1 _ _ h.ew (.inl fun z=>(h.dj _ z).2 rfl)];simp
 ·exact m.1 x v e (z.imp_left fun y q=>y (h.inc x q))
 ·rcases hx with hx | rfl | rfl
  ·exact(m.2 x hx).imp (h.inc x) id
  ·exact .inl h.od
  ·exact .inl h.ow
/-- one more wrong pair is told -/
theorem DeskAt.mark {k t:Nat}{q:Addr}(h:DeskAt C CR A H d st wp o w)(eq:H q=some (.tup [.int ((k:Nat):Int),.int ((t:Nat):Int)])):DeskAt C CR A (upd H w.wl (.lst (w.ws++[.ref q]))) d st (wp++[(k,t)]) o { w with ws:=w.ws++[.ref q] }/\Mv o H o (upd H w.wl (.lst (w.ws++[.ref q]))):=by
 have kT:∀x xs,H x=some (.tup xs)->upd H w.wl (.lst (w.ws++[.ref q])) x=some (.tup xs):=fun x xs e=>by
  rw[aQ fun z=>by rw[z,h.ew]at e;cases e];exact e
 refine⟨⟨by rw[aQ h.ne];exact h.ed,aK,?_,h.rl.move fun x v e z=>?_,h.dj,h.od,h.ow,h.inc,fun x hx=>?_⟩,?_⟩
 ·rw[Yu]
  exact((VlsAt.cho eq .nil).append h.ww).imp kT
 ·rcases z with z | ⟨xs,rfl⟩
  ·rw[aQ (h.dj x z).2];exact e
  ·exact kT x xs e
 ·by_cases c:x=w.wl
  ·rw[c,aK];simp
  ·rw[aQ c];exact h.al x hx
 ·exact c0J h.ew h.ow fun ⟨_,z⟩=>by cases z
end
def spSay (K:W.Frag)(p:Row8->Prop)(C CR:Addr)(A:Cs)(X:Ex5):Sp:=fun vs H Q E=>∃d R wp o w l xs row n,vs= [.ref d,.ref l]/\DeskAt C CR A H d (some R) wp o w/\H l=some (.lst xs)/\¬ o l/\VlsAt H xs row.vals/\p row/\row.small/\Z83 R n/\n<=800/\wp.length<=800/\
 (∀e,ansP R wp row= .error e->∀H',Same H H'->E (.ref (X.at e)) none H')/\∀s st' wp',ansP R wp row= .ok (s,st',wp')->∀H' o' w',DeskAt C CR A H' d st' wp' o' w'->Mv o H o' H'->Q (.str s) H'
theorem nJ {H:Hp}:∀{ns:List Nat}{xs:List V},VlsAt H xs (ns.map .num)->xs=(itg ns).map V.int
 |[],_,.nil=>rfl
 |n::ns,_,.num r=>Yy (V.int ((n:Nat):Int)::·) (nJ (ns:=ns) r)
theorem rM {n:Nat}(h:n<10 ^ 6):(num n).length<=6:=by
 show (PySem.Str.ofString (toString ((n:Nat):Int))).length<=6
 rw[a9D,uH]
 exact(b3D 6 n (by decide) h).1
theorem b2Z {z:Str}{ts:List Str}{B:Nat}(hB:∀y∈ts,y.length<=B)(h:ts.length*B+ts.length*z.length<=16777216):JoinOk z ts=true:=by
 unfold JoinOk
 rw[StrLaws.joinFits hB h]
 rfl
theorem a7M (z:Str)(ts:List Str):Txt.join z ts=Str.join z ts:=by
 unfold Txt.join
 rw[StrLaws.glued_eq_join]
theorem b9I {ts:List Str}{B:Nat}(hB:∀y∈ts,y.length<=B):(ts.map (·.length)).sum<=ts.length*B:=by
 induction ts with
 |nil=>simp
 | cons x r ih=>
  have h1:=hB x (Yw ..)
  have h2:=ih fun y hy=>hB y (Yf _ hy)
  rw[Yo,List.sum_cons,Ys,Nat.succ_mul]
  omega
theorem b4V {ds:List Int}(h:ds.all byt=true):∀y∈ds.map (fun d=>PySem.Str.ofString (toString d)),y.length<=6:=fun y hy=>by
 obtain⟨d,hd,rfl⟩:=Xw.mp hy
 obtain⟨n,rfl,hn⟩:=b7C (YH.mp h d hd)
 exact rM (by omega)
theorem b6V {f:Fr}(h:FrN f):(frT f).length<=100:=by
 unfold frT
 rw[YV,YV]
 have h1:=rM (n:=f.1) (by have:=h.1;omega)
 have h2:=StrLaws.join_length_le "." (f.2.map fun d=>PySem.Str.ofString (toString d))
 have h3:=b9I (b4V h.2.2)
 have h4:=h.2.1
 rw[Ya]at h2 h3
 have e1:(":":Str).length=1:=by decide +kernel
 have e2:(".":Str).length=1:=by decide +kernel
 rw[e2]at h2
 have h5:(Txt.join "." (f.2.map fun d=>PySem.Str.ofString (toString d))).length<=(List.map (fun x=>x.length) (List.map (fun d=>PySem.Str.ofString (toString d)) f.2)).sum+f.2.length*1:=by rw[a7M];exact h2
 rw[e1]
 omega
theorem c3B {fs:List Fr}(h:∀f∈fs,FrN f)(hl:fs.length<=900):JoinOk " " (fs.map frT)=true:=by
 refine b2Z (B:=100) (fun y hy=>?_) ?_
 ·obtain⟨f,hf,rfl⟩:=Xw.mp hy
  exact b6V (h f hf)
 ·have e1:(" ":Str).length=1:=by decide +kernel
  rw[Ya,e1]
  omega
open Classical in
theorem a4U {R:RS}{k n:Nat}{ds:List Int}(h:R.ps[k]? =none):handR R k n ds= .error .post:=by
 unfold handR
 rw[h]
open Classical in
theorem a2C {R:RS}{k n:Nat}{ds:List Int}{S:PS}(h:R.ps[k]? =some S)(f:¬ FrOk ((n:Nat):Int) ds):handR R k n ds= .error .frame:=by
 unfold handR
 rw[h]
 exact if_neg f
open Classical in
theorem b0G {R:RS}{k n:Nat}{ds:List Int}{S:PS}{j:Int}(h:R.ps[k]? =some S)(f:FrOk ((n:Nat):Int) ds)(e:(valV R.ow (.inl ((n:Nat):Int))).getD (.int ((k:Nat):Int))= .int j)(c:j≠((k:Nat):Int)):handR R k n ds= .error .name:=by
 unfold handR
 rw[h]
 show (if FrOk ((n:Nat):Int) ds then _ else _)=_
 rw[if_pos f,if_neg]
 rw[e]
 intro z
 cases z
 exact c rfl
open Classical in
theorem a2B {R:RS}{k n:Nat}{ds:List Int}{S:PS}(h:R.ps[k]? =some S)(f:FrOk ((n:Nat):Int) ds)(e:(valV R.ow (.inl ((n:Nat):Int))).getD (.int ((k:Nat):Int))= .int ((k:Nat):Int)):handR R k n ds= .ok { R with ps:=R.ps.set k { S with wt:=S.wt++[(n,ds)] },ow:=putK R.ow (.inl ((n:Nat):Int)) (.int ((k:Nat):Int)) }:=by
 unfold handR
 rw[h]
 show (if FrOk ((n:Nat):Int) ds then _ else _)=_
 rw[if_pos f,if_pos e]
theorem Z83.owner {R:RS}{m:Nat}(h:Z83 R m)(k n:Nat):∃j:Int,(valV R.ow (.inl ((n:Nat):Int))).getD (.int ((k:Nat):Int))= .int j:=by
 cases e:valV R.ow (.inl ((n:Nat):Int)) with
 |none=>exact⟨_,rfl⟩
 | some v=>
  obtain⟨j,rfl⟩:=h.owI _ v e
  exact⟨j,rfl⟩
theorem b9U {κ:Type}[DecidableEq κ](kvs:List (κ×V))(k:κ)(v:V):(putK kvs k v).length<=kvs.length+1:=by
 unfold putK
 split
 ·rw[Ya];omega
 ·rw[Yj];exact Ye _
open Classical in
/-- behind a frame handed -/
theorem a8H {R R':RS}{k n:Nat}{ds:List Int}(h:handR R k n ds= .ok R'):∃S,R.ps[k]? =some S/\FrOk ((n:Nat):Int) ds/\(valV R.ow (.inl ((n:Nat):Int))).getD (.int ((k:Nat):Int))= .int ((k:Nat):Int)/\R'={ R with ps:=R.ps.set k { S with wt:=S.wt++[(n,ds)] },ow:=putK R.ow (.inl ((n:Nat):Int)) (.int ((k:Nat):Int)) }:=by
 cases e:R.ps[k]? with
 |none=>cases (a4U e).symm.trans h
 | some S=>
  by_cases f:FrOk ((n:Nat):Int) ds
  ·by_cases c:(valV R.ow (.inl ((n:Nat):Int))).getD (.int ((k:Nat):Int))= .int ((k:Nat):Int)
   ·exact⟨S,rfl,f,c,by cases (a2B e f c).symm.trans h;rfl⟩
   ·unfold handR at h
    rw[e]at h
    have h':(if FrOk ((n:Nat):Int) ds then (if (valV R.ow (.inl ((n:Nat):Int))).getD (.int ((k:Nat):Int))= .int ((k:Nat):Int) then Except.ok { R with ps:=R.ps.set k { S with wt:=S.wt++[(n,ds)] },ow:=putK R.ow (.inl ((n:Nat):Int)) (.int ((k:Nat):Int)) } else Except.error Rf.name) else Except.error Rf.frame)=Except.ok R':=h
    rw[if_pos f,if_neg c]at h'
    cases h'
  ·cases (a2C e f).symm.trans h
theorem Z83.hand {R R':RS}{m k n:Nat}{ds:List Int}(h:Z83 R m)(e:handR R k n ds= .ok R'):Z83 R' (m+1):=by
 obtain⟨S,eS,f,c,rfl⟩:=a8H e
 refine⟨fun T hT=>?_,?_,fun i v hv=>?_,h.he,h.bo⟩
 ·rcases Xo hT with z | rfl
  ·obtain⟨a,b,c,d⟩:=h.ps T z
   exact⟨a,b,c,by omega⟩
  ·obtain⟨a,b,c,d⟩:=h.ps S (YA eS)
   exact⟨a,b,c,by show (S.wt++[_]).length<=_;rw[Yj];show _+1<=_;omega⟩
 ·have:=b9U R.ow (.inl ((n:Nat):Int)) (.int ((k:Nat):Int))
  have:=h.ow
  show (putK R.ow _ _).length<=_
  omega
 ·have hv':valV (putK R.ow (.inl ((n:Nat):Int)) (.int ((k:Nat):Int))) (.inl i)=some v:=hv
  rw[b3S]at hv'
  split at hv'
  ·cases hv';exact⟨_,rfl⟩
  ·exact h.owI i v hv'
/-- the name is this post's own already -/
structure Owns (R:RS)(k n:Nat):Prop where
 at_:∃S,R.ps[k]? =some S
 by_:byt ((n:Nat):Int)=true
 ow:valV R.ow (.inl ((n:Nat):Int))=some (.int ((k:Nat):Int))
theorem Owns.of {R R':RS}{k n:Nat}{ds:List Int}(e:handR R k n ds= .ok R'):Owns R' k n:=by
 obtain⟨S,eS,f,c,rfl⟩:=a8H e
 refine⟨⟨_,by show (R.ps.set k _)[k]? =_;rw[List.getElem?_set,if_pos rfl,if_pos (Yc.mp eS).1]⟩,f.1,?_⟩
 show valV (putK R.ow _ _) _=_
 rw[b3S,if_pos rfl]
theorem Owns.hand {R:RS}{k n:Nat}{ds:List Int}(h:Owns R k n)(l:ds.length<=7)(b:ds.all byt=true):∃R',handR R k n ds= .ok R':=by
 obtain⟨S,eS⟩:=h.at_
 exact⟨_,a2B eS ⟨h.by_,l,b⟩ (by rw[h.ow];rfl)⟩
theorem b0H {k n:Nat}{p:List Int}:∀{ps:List (List Int)}{R R1:RS},handL k n ps R= .ok R1->handL k n (ps++[p]) R=handR R1 k n p
 | [],R,R1,h=>by
  cases h
  show (match handR R k n p with | .error e=>Except.error e | .ok R'=>handL k n [] R')=_
  cases handR R k n p <;> rfl
 | q ::ps,R,R1,h=>by
  have h':(match handR R k n q with | .error e=>Except.error e | .ok R'=>handL k n ps R')= .ok R1:=h
  show (match handR R k n q with | .error e=>Except.error e | .ok R'=>handL k n (ps++[p]) R')=_
  cases e:handR R k n q with
  |error x=>rw[e]at h';cases h'
  | ok R'=>
   rw[e]at h'
   exact b0H (ps:=ps) h'
theorem b8K {k n:Nat}{p:List Int}{ps:List (List Int)}{R:RS}{e:Rf}(h:handR R k n p= .error e):handL k n (p::ps) R= .error e:=by
 show (match handR R k n p with | .error e=>Except.error e | .ok R'=>handL k n ps R')=_
 rw[h]
open Classical in
theorem wN {R:RS}{wp:Wp}{k n:Nat}{ds:List Nat}:(∀e,handR R k n (itg ds)= .error e->ansP R wp (.hand k n ds)= .error e)/\∀R',handR R k n (itg ds)= .ok R'->ansP R wp (.hand k n ds)= .ok ("ok",some R',wp):=by
 refine⟨fun e h=>?_,fun R' h=>?_⟩
 ·show (match handR R k n (itg ds) with | .error e=>Except.error e | .ok R'=>(.ok (("ok":Str),some R',wp):Except Rf (Str×Option RS×Wp)))=_
  rw[h]
 ·show (match handR R k n (itg ds) with | .error e=>Except.error e | .ok R'=>(.ok (("ok":Str),some R',wp):Except Rf (Str×Option RS×Wp)))=_
  rw[h]
open Classical in
theorem c1S {R:RS}{wp:Wp}{k n g:Nat}{ds:List Nat}(h:¬ TgOk ((g:Nat):Int) (itg ds)):ansP R wp (.thing k n g ds)= .error .thing:=if_neg h
open Classical in
theorem a3E {R:RS}{wp:Wp}{k n g:Nat}{ds:List Nat}(t:TgOk ((g:Nat):Int) (itg ds)):(∀e,handL k n (pieces ((g:Nat):Int) (itg ds)) R= .error e->ansP R wp (.thing k n g ds)= .error e)/\∀R',handL k n (pieces ((g:Nat):Int) (itg ds)) R= .ok R'->ansP R wp (.thing k n g ds)= .ok ("ok "++num (nP (itg ds)),some R',wp):=by
 have e0:ansP R wp (.thing k n g ds)=(match handL k n (pieces ((g:Nat):Int) (itg ds)) R with | .error e=>Except.error e | .ok R'=>(.ok (("ok ":Str)++num (nP (itg ds)),some R',wp):Except Rf (Str×Option RS×Wp))):=if_pos t
 rw[e0]
 refine⟨fun e h=>?_,fun R' h=>?_⟩
 ·rw[h]
 ·rw[h]
theorem yV {R:RS}{wp:Wp}{k:Nat}{f:PS->Str}(h:R.ps[k]? =none):askP R wp k f= .error .post:=by unfold askP;rw[h]
theorem uU {R:RS}{wp:Wp}{k:Nat}{f:PS->Str}{S:PS}(h:R.ps[k]? =some S):askP R wp k f= .ok (f S,some R,wp):=by unfold askP;rw[h]
theorem none_of {R:RS}{k:Nat}(h:¬ (0<=((k:Nat):Int)/\((k:Nat):Int)<((R.ps.length:Nat):Int))):R.ps[k]? =none:=Xh (by omega)
theorem c4R {g:Int}{th:List Int}(t:TgOk g th){j:Nat}(hj:j<nP th):(pc g (nP th) j th).all byt=true:=by
 unfold pc
 rw[List.all_append,YC]
 have hn:nP th<=15:=by have:=t.2.1;unfold nP;omega
 refine⟨?_,YH.mpr fun x hx=>YH.mp t.2.2 x (List.mem_of_mem_drop (List.mem_of_mem_take hx))⟩
 show (byt g && (byt _ && true))=true
 rw[t.1,uI.mpr ⟨by omega,by omega⟩]
 rfl
theorem c1N (a b:Option Int):cutV ([]:List V) a b= []:=by
 unfold cutV
 simp
def spDot (K:W.Frag):Sp:=fun vs H Q _=>∃(a:Addr)(ds:List Int),vs= [.ref a]/\SqL K H a (ds.map V.int)/\ds.length<=900/\ds.all byt=true/\∀H',Same H H'->Q (.str (Txt.join "." (ds.map fun d=>PySem.Str.ofString (toString d)))) H'
def spFrsT (K:W.Frag):Sp:=fun vs H Q _=>∃(a:Addr)(xs:List V)(fs:List Fr),vs= [.ref a]/\H a=some (.lst xs)/\FrsAt H (fun _=>True) xs fs/\fs.length<=900/\(∀f∈fs,FrN f)/\∀H',Same H H'->Q (.str (frsT fs)) H'
def spPart0 (K:W.Frag):Sp:=fun vs H Q _=>∃(a:Addr)(s e:Int),vs= [.ref a,.int s,.int e]/\H a=some (.lst [])/\∀l,H l=none->Q (.ref l) (upd H l (.lst []))
def spJoI0 (C:Addr):Sp:=fun vs H Q _=>∃j dx,vs= [.ref j]/\H j=some (.ins C dx [])/\∀H' (fs:List (Str×V)),fs.lookup ("end":Str)=none->H' j=some (.ins C dx (("opened",.bl false)::fs))->(∀x o,x≠j->H x=some o->H' x=some o)->Q .non H'
def spJoE0 (C:Addr):Sp:=fun vs H Q _=>∃j dx fs,vs= [.ref j]/\H j=some (.ins C dx (("opened",.bl false)::fs))/\∀p,H p=none->Q (.ref p) (upd H p (.lst []))
def spThs0 (K:W.Frag):Sp:=fun vs H Q _=>∃(a:Addr)(n:Int),vs= [.ref a,.int n]/\H a=some (.lst [])/\∀p H',H p=none->Same H H'->H' p=some (.lst [])->Q (.ref p) H'

def spDkInit (C:Addr):Sp:=fun vs H Q _=>∃d dx,vs= [.ref d]/\H d=some (.ins C dx [])/\∀H' wl,H wl=none->H' d=some (.ins C dx (dF .non wl))->H' wl=some (.lst [])->(∀x u,x≠d->H x=some u->H' x=some u)->Q .non H'
def spPutUp (C CR:Addr)(A:Cs)(NP:Addr):Sp:=fun vs H Q E=>∃d st wp o w l xs v cs,vs= [.ref d,.ref l]/\DeskAt C CR A H d st wp o w/\H l=some (.lst xs)/\VlsAt H xs (Row8.rail v cs).vals/\cs.length<=90/\(¬ RlOk v cs->∀H',Same H H'->E (.ref NP) none H')/\(RlOk v cs->∀H' o' w',DeskAt C CR A H' d (some (R0 (chI cs) ((v:Nat):Int))) [] o' w'->Mv o H o' H'->Q (.str "ok") H')
theorem b6E {H:Hp}{cl:Addr}:∀{cs:List (Nat×Nat)}{xs:List V},VlsAt H xs (cs.map fun c=> .cho c.1 c.2)->∃ts:List Addr,xs=ts.map V.ref/\ts.length=(chI cs).length/\∀(i:Nat)(t:Addr)(m:Int×Int),ts[i]? =some t->(chI cs)[i]? =some m->H t=some (.tup [.int m.1,.int m.2])
 |[],_,.nil=>⟨[],rfl,rfl,fun i t m h=>by cases h⟩
 | c::cs,_,.cho (t:=t) e r=>by
  obtain⟨ts,rfl,h1,h2⟩:=b6E (cl:=cl) (cs:=cs) r
  refine⟨t::ts,rfl,Yy (·+1) h1,fun i u m hu hm=>?_⟩
  cases i with
  |zero=>cases hu;cases hm;exact e
  |succ i=>exact h2 i u m hu hm
theorem c3J {v:Nat}{cs:List (Nat×Nat)}:((1<=(chI cs).length/\(chI cs).length<=5)/\∀m∈chI cs,PoOk m.1 m.2 ((v:Nat):Int))↔RlOk v cs:=by
 unfold RlOk
 rw[Ya]
 refine and_congr Iff.rfl ⟨fun h c hc=>h _ (List.mem_map_of_mem hc),fun h m hm=>?_⟩
 obtain⟨c,hc,rfl⟩:=Xw.mp hm
 exact h c hc

def spDrawn0 (K:W.Frag):Sp:=fun vs H Q _=>∃(a:Addr),vs= [.ref a]/\H a=some (.lst [])/\∀H',Same H H'->Q (.str "") H'
theorem c4H {n:Nat}(h:n<=1000):Builtin.Range.small 0 ((n:Nat):Int) 5=true:=by
 unfold Builtin.Range.small
 rw[c3I,if_pos (by decide),fits (by decide) (by decide),fits (by omega) (by omega),fits (by decide) (by decide),fits (by omega) (by omega),fits (by omega) (by omega),Bool.or_true]
 rfl
def spPoShown0 (A:Cs):Sp:=fun vs H Q _=>∃p S o k,vs= [.ref p]/\S.now= .free k/\PostAt A H p S o/\∀t H',H t=none->Same H H'->H' t=some (.tup [.str "free",.int ((k:Nat):Int)])->Q (.ref t) H'
def spStrips0 (K:W.Frag):Sp:=fun vs H Q _=>∃(a:Addr)(f:Int),vs= [.ref a,.int f]/\SqL K H a []/\∀p H',H p=none->Same H H'->H' p=some (.lst [])->Q (.ref p) H'
def spInit (C:Addr)(f:Str):Sp:=fun vs H Q _=>∃(e t:Addr)(n:Int),vs= [.ref e,.int n]/\H e=some (rawO C t none e)/\∀dx,H dx=none->dx≠e->Q .non (upd (upd H e (rawO C t (some dx) e)) dx (.xd [(f,.int n)]))
theorem b0K {H:Hp}{e dx:Addr}{a b x:HO}(he:H e=none)(hd:dx≠e):del (upd (upd (upd H e a) e b) dx x) e=upd H dx x:=by
 funext c
 unfold del upd
 by_cases h1:c=e
 ·subst h1
  rw[if_pos rfl,if_neg (Ne.symm hd)]
  exact he.symm
 ·rw[if_neg h1]
  by_cases h2:c=dx
  ·rw[if_pos h2,if_pos h2]
  ·rw[if_neg h2,if_neg h2,if_neg h1,if_neg h1]
theorem b2O {H:Hp}{e dx:Addr}{o x:HO}(he:H e=none)(hd:upd H e o dx=none)(hn:dx≠e):Same H (upd H dx x):=aX (by rw[aQ hn]at hd;exact hd) x
def spRead82 (K:W.Frag)(NR:Addr):Sp:=fun vs H Q E=>∃(a:Addr)(ws:List Str),vs= [.ref a]/\SqL K H a (ws.map V.str)/\ws≠ []/\ws.length<=900/\(∀x∈ws,x.length<=900)/\(∀vl,rowIn ws= .ok vl->∀l xs H',H l=none->Same H H'->H' l=some (.lst xs)->VlsAt H' xs vl->Q (.ref l) H')/\∀p,rowIn ws= .error p->∀od H',Same H H'->NoRowOk p od H'->E (.ref NR) od H'
/-- the words are as the form asks -/
def Conf (nf:List Str)(m:Str)(vl:List Vl):Prop:=∀i v,vl[i]? =some v->(nf.getD i m="choice"/\∃a b,v= .cho a b)\/(nf.getD i m≠""/\nf.getD i m≠"choice"/\∃n,v= .num n)
theorem b5H {l:List Nat}{k:Str}{vs:List Vl}{v:Vl}(h:valIn l k vs=some v):(k="choice"/\∃a b,v= .cho a b)\/(k≠""/\k≠"choice"/\∃n,v= .num n):=by
 unfold valIn at h
 by_cases c0:k=""
 ·rw[if_pos c0]at h;cases h
 rw[if_neg c0]at h
 by_cases c1:k="choice"
 ·rw[if_pos c1]at h
  obtain⟨p,_,rfl⟩:=Yt.mp h
  exact .inl ⟨c1,_,_,rfl⟩
 rw[if_neg c1]at h
 refine .inr ⟨c0,c1,?_⟩
 by_cases c2:k="number"
 ·rw[if_pos c2]at h
  obtain⟨n,_,rfl⟩:=Yt.mp h
  exact⟨_,rfl⟩
 rw[if_neg c2]at h
 by_cases c3:k="turns"
 ·rw[if_pos c3]at h
  obtain⟨n,_,rfl⟩:=Yt.mp h
  exact⟨_,rfl⟩
 rw[if_neg c3]at h
 obtain⟨n,_,rfl⟩:=Yt.mp h
 exact⟨_,rfl⟩
theorem a9S {nf:List Str}{m:Str}:∀{ws:List Str}{vs vl:List Vl},Conf nf m vs->rowGo nf m ws vs= .ok vl->Conf nf m vl/\nf.length<=vl.length
 | [],vs,vl,hc,h=>by
  have h':(if vs.length<nf.length then Except.error (vs.length+1) else .ok vs)= .ok vl:=h
  by_cases c:vs.length<nf.length
  ·rw[if_pos c]at h';cases h'
  ·rw[if_neg c]at h';cases h';exact⟨hc,by omega⟩
 | x :: ws,vs,vl,hc,h=>by
  cases e:valIn x.cps.toList (nf.getD vs.length m) vs with
  |none=>cases (zO e).symm.trans h
  | some v=>
   rw[eO e]at h
   refine a9S (fun i u hu=>?_) h
   by_cases c:i<vs.length
   ·rw[YN c]at hu
    exact hc i u hu
   ·rw[YM (by omega)]at hu
    have hi0:i-vs.length=0:=by have:=(Yc.mp hu).1;simpa using this
    rw[hi0]at hu
    cases hu
    have ei:i=vs.length:=by omega
    subst ei
    exact b5H e
theorem c2U {vl:List Vl}(h:∀(i:Nat)(v:Vl),vl[i]? =some v->∃n,v= .num n):∃ns:List Nat,vl=ns.map Vl.num:=by
 induction vl with
 |nil=>exact⟨[],rfl⟩
 | cons v vl ih=>
  obtain⟨n,rfl⟩:=h 0 v rfl
  obtain⟨ns,rfl⟩:=ih fun i u hu=>h (i+1) u hu
  exact⟨n::ns,rfl⟩
theorem c3D {vl:List Vl}(h:∀(i:Nat)(v:Vl),vl[i]? =some v->∃a b,v= .cho a b):∃cs:List (Nat×Nat),vl=cs.map fun c=>Vl.cho c.1 c.2:=by
 induction vl with
 |nil=>exact⟨[],rfl⟩
 | cons v vl ih=>
  obtain⟨a,b,rfl⟩:=h 0 v rfl
  obtain⟨cs,rfl⟩:=ih fun i u hu=>h (i+1) u hu
  exact⟨(a,b)::cs,rfl⟩
theorem Conf.few {nf:List Str}{vl:List Vl}(h:Conf nf "" vl):vl.length<=nf.length:=by
 refine Nat.le_of_not_lt fun c=>?_
 have hv:vl[nf.length]? =some vl[nf.length]:=Yh c
 have e:nf.getD nf.length ""="":=by rw[YG,Xh (Ye _)];rfl
 rcases h _ _ hv with ⟨z,_⟩ | ⟨z,_⟩
 ·rw[e]at z;exact absurd z (by decide)
 ·exact z e
/-- a row that is read is one of the twelve -/
theorem b9R {x:Str}{r:List Str}{vl:List Vl}(h:rowIn (x::r)= .ok vl):∃row:Row8,row.key=x/\row.vals=vl:=by
 cases e:formsL.lookup x with
 |none=>cases (zN e).symm.trans h
 |some f=>
 obtain⟨nf,m⟩:=f
 rw[lA e]at h
 obtain⟨hc,hl⟩:=a9S (fun i v hv=>by cases hv) h
 have mem:=lookup_mem e
 have nums:(∀i,nf.getD i m≠"choice")->∃ns:List Nat,vl=ns.map Vl.num:=fun hn=>c2U fun i v hv=>(hc i v hv).elim (fun z=>absurd z.1 (hn i)) fun z=>z.2.2
 have fix:m=""->vl.length<=nf.length:=fun z=>by subst z;exact hc.few
 have few:∀k,nf.length=k->m=""->(∀i,nf.getD i m≠"choice")->∃ns:List Nat,ns.length=k/\vl=ns.map Vl.num:=fun k h1 h2 h3=>by
  obtain⟨ns,rfl⟩:=nums h3
  have:=fix h2
  rw[Ya]at this hl
  exact⟨ns,by omega,rfl⟩
 have one:∀ns:List Nat,ns.length=1->∃a,ns= [a]:=fun ns h=>by
  match ns,h with
  |[a],_=>exact⟨a,rfl⟩
 have two:∀ns:List Nat,ns.length=2->∃a b,ns= [a,b]:=fun ns h=>by
  match ns,h with
  |[a,b],_=>exact⟨a,b,rfl⟩
 have three:∀ns:List Nat,ns.length=3->∃a b c,ns= [a,b,c]:=fun ns h=>by
  match ns,h with
  |[a,b,c],_=>exact⟨a,b,c,rfl⟩
 have ne1:∀(a b:Str),a≠"choice"->b≠"choice"->∀i,([a]:List Str).getD i b≠"choice":=fun a b h1 h2 i=>by
  match i with
  |0=>exact h1
  |i+1=>exact h2
 have ne2:∀(a b c:Str),a≠"choice"->b≠"choice"->c≠"choice"->∀i,([a,b]:List Str).getD i c≠"choice":=fun a b c h1 h2 h3 i=>by
  match i with
  |0=>exact h1
  |1=>exact h2
  |i+2=>exact h3
 have ne3:∀(a b c d:Str),a≠"choice"->b≠"choice"->c≠"choice"->d≠"choice"->∀i,([a,b,c]:List Str).getD i d≠"choice":=fun a b c d h1 h2 h3 h4 i=>by
  match i with
  |0=>exact h1
  |1=>exact h2
  |2=>exact h3
  |i+3=>exact h4
 have more:∀k,k<=vl.length->∀ns:List Nat,vl=ns.map Vl.num->k<=ns.length:=fun k h1 ns h2=>by rw[h2,Ya]at h1;exact h1
 simp only[formsL,Yv,XB,or_false]at mem
 rcases mem with h | h | h | h | h | h | h | h | h | h | h | h
 ·cases h
  match vl,hl,hc with
  | v0::rest,_,hc=>
   obtain⟨n,rfl⟩:∃n,v0= .num n:=(hc 0 v0 rfl).elim (fun z=>absurd z.1 (by decide)) fun z=>z.2.2
   obtain⟨cs,rfl⟩:=c3D (vl:=rest) fun i v hv=>(hc (i+1) v hv).elim (fun z=>z.2) fun z=>absurd (show (["number","choice"]:List Str).getD (i+1) "choice"="choice" from by cases i <;> rfl) z.2.1
   exact⟨.rail n cs,rfl,rfl⟩
 ·cases h
  obtain⟨ns,rfl⟩:=nums (ne2 _ _ _ (by decide) (by decide) (by decide))
  match ns,more 2 hl ns rfl with
  |k::n::ds,_=>exact⟨.hand k n ds,rfl,rfl⟩
 ·cases h
  obtain⟨ns,rfl⟩:=nums (ne3 _ _ _ _ (by decide) (by decide) (by decide) (by decide))
  match ns,more 3 hl ns rfl with
  |k::n::g::ds,_=>exact⟨.thing k n g ds,rfl,rfl⟩
 ·cases h
  obtain⟨ns,h1,rfl⟩:=few 2 rfl rfl (ne2 _ _ _ (by decide) (by decide) (by decide))
  obtain⟨a,b,rfl⟩:=two ns h1
  exact⟨.wrong a b,rfl,rfl⟩
 ·cases h
  obtain⟨ns,h1,rfl⟩:=few 1 rfl rfl (ne1 _ _ (by decide) (by decide))
  obtain⟨a,rfl⟩:=one ns h1
  exact⟨.run a,rfl,rfl⟩
 ·cases h
  obtain⟨ns,h1,rfl⟩:=few 2 rfl rfl (ne2 _ _ _ (by decide) (by decide) (by decide))
  obtain⟨a,b,rfl⟩:=two ns h1
  exact⟨.bits a b,rfl,rfl⟩
 ·cases h
  obtain⟨ns,h1,rfl⟩:=few 3 rfl rfl (ne3 _ _ _ _ (by decide) (by decide) (by decide) (by decide))
  obtain⟨a,b,c,rfl⟩:=three ns h1
  exact⟨.draw a b c,rfl,rfl⟩
 ·cases h
  obtain⟨ns,h1,rfl⟩:=few 1 rfl rfl (ne1 _ _ (by decide) (by decide))
  obtain⟨a,rfl⟩:=one ns h1
  exact⟨.got a,rfl,rfl⟩
 ·cases h
  obtain⟨ns,h1,rfl⟩:=few 1 rfl rfl (ne1 _ _ (by decide) (by decide))
  obtain⟨a,rfl⟩:=one ns h1
  exact⟨.waits a,rfl,rfl⟩
 ·cases h
  obtain⟨ns,h1,rfl⟩:=few 2 rfl rfl (ne2 _ _ _ (by decide) (by decide) (by decide))
  obtain⟨a,b,rfl⟩:=two ns h1
  exact⟨.things a b,rfl,rfl⟩
 ·cases h
  obtain⟨ns,h1,rfl⟩:=few 1 rfl rfl (ne1 _ _ (by decide) (by decide))
  obtain⟨a,rfl⟩:=one ns h1
  exact⟨.stance a,rfl,rfl⟩
 ·cases h
  obtain⟨ns,h1,rfl⟩:=few 1 rfl rfl (ne1 _ _ (by decide) (by decide))
  obtain⟨a,rfl⟩:=one ns h1
  exact⟨.faults a,rfl,rfl⟩
def spAsk82 (K:W.Frag)(C CR:Addr)(A:Cs)(X:Ex5)(NR:Addr):Sp:=fun vs H Q E=>∃d st wp o w x r n,vs= [.ref d,.str (Txt.join " " (x::r))]/\DeskAt C CR A H d st wp o w/\(Txt.join " " (x::r)).length<=899/\(∀y∈x::r,32∉y.cps.toList)/\(∀R,st=some R->Z83 R n)/\n<=800/\wp.length<=800/\
 (∀p,rowIn (x::r)= .error p->∀od H',Same H H'->NoRowOk p od H'->E (.ref NR) od H')/\∀row:Row8,row.key=x->rowIn (x::r)= .ok row.vals->(row.small\/(st=none/\∃n,row= .run n))/\(∀e,deskP st wp row= .error e->∀H',Same H H'->E (.ref (X.at e)) none H')/\∀s st' wp',deskP st wp row= .ok (s,st',wp')->∀H' o' w',DeskAt C CR A H' d st' wp' o' w'->Mv o H o' H'->Q (.str s) H'
theorem b6L (n:Nat):(num n).cps.toList=dgs n:=by
 show (PySem.Str.ofString (toString ((n:Nat):Int))).cps.toList=_
 exact W.KIN.signs_num n
theorem b6X {n:Nat}(h:n<10 ^ 6):∀c∈dgs n,48<=c/\c<=57:=fun c hc=>c1A 6 n c (by rw[<-(b3D 6 n (by decide) h).2.2];exact YK _ hc)
theorem c1H (n:Nat):0<n->(dgs n).headD 0≠48:=by
 induction n using Nat.strongRecOn with
 | ind n ih=>
  intro h0
  by_cases c:n<10
  ·rw[yC c]
   show 48+n≠48
   omega
  ·rw[b6B c]
   have i:=ih (n / 10) (by omega) (by omega)
   cases e:dgs (n / 10) with
   |nil=>rw[e]at i;simp at i;have:=(b3D (n / 10+1) (n / 10) (by omega) (Nat.lt_trans (Nat.lt_succ_self _) (Nat.lt_pow_self (by decide)))).2.1;rw[e]at this;cases this
   |cons x r=>rw[e]at i;exact i
theorem b5N {n:Nat}(h:n<10 ^ 6):numIn (num n).cps.toList=some n:=by
 rw[b6L]
 obtain⟨h1,h2,h3⟩:=b3D 6 n (by decide) h
 have hz:¬ ((dgs n).headD 0=48/\1<(dgs n).length):=fun ⟨z1,z2⟩=>by
  rcases Nat.eq_zero_or_pos n with rfl | p
  ·rw[yC (by decide)]at z2
   exact absurd z2 (by decide)
  ·exact c1H n p z1
 unfold numIn
 rw[if_pos ⟨⟨h2,h1⟩,YH.mpr fun c hc=>Yk (b6X h c hc),hz⟩]
 exact Yy some (W.KIN.val_back n)
theorem yS {n c:Nat}(h:n<10 ^ 6)(hc:c<48):c∉(num n).cps.toList:=fun z=>by
 rw[b6L]at z
 have:=b6X h c z
 omega
theorem c8A {a b:Nat}(ha:a<10 ^ 6)(hb:b<10 ^ 6):choIn (vlT (.cho a b)).cps.toList=some (a,b):=by
 have e47:("/":Str)=sepC 47:=by decide +kernel
 have e:vlT (.cho a b)=Txt.join (sepC 47) [num a,num b]:=by
  rw[a7M,<-e47]
  rfl
 unfold choIn
 rw [<-sE,e,a9O (by simp) (by
  intro x hx
  rcases Yv.mp hx with rfl | hx
  ·exact yS ha (by decide)
  ·rw[Yx.mp hx]
   exact yS hb (by decide))]
 show ((numIn (num a).cps.toList).bind fun a=>(numIn (num b).cps.toList).map fun b=>(a,b))=_
 rw[b5N ha,b5N hb]
 rfl
def Vl.lt:Vl->Prop
 |.num n=>n<10 ^ 6
 |.cho a b=>a<10 ^ 6/\b<10 ^ 6
theorem b9E {v:Vl}(h:v.lt):32∉(vlT v).cps.toList:=by
 cases v with
 |num n=>exact yS h (by decide)
 | cho a b=>
  show 32∉(num a++"/"++num b).cps.toList
  rw[a6K,a6K]
  intro z
  rcases YX.mp z with z | z
  ·rcases YX.mp z with z | z
   ·exact yS h.1 (by decide) z
   ·exact absurd z (by decide +kernel)
  ·exact yS h.2 (by decide) z
/-- figures without a nought ahead are the figures of their number -/
theorem c5N {l:List Nat}(hd:l.all isDg=true)(h0:¬ (l.headD 0=48/\1<l.length))(hl:1<=l.length):l=dgs (PySem.NumText.digitsVal l):=by
 obtain⟨n,hn⟩:∃n,n=l.length:=⟨_,rfl⟩
 induction n generalizing l with
 |zero=>omega
 | succ n ih=>
  obtain⟨r,c,rfl⟩:∃r c,l=r++[c]:=⟨l.dropLast,l.getLast (by intro z;rw[z]at hl;cases hl),(List.dropLast_concat_getLast _).symm⟩
  have hlen:r.length=n:=by rw[Yj]at hn;have:n+1=r.length+1:=hn;omega
  rw[List.all_append,YC]at hd
  have hc:48<=c/\c<=57:=by
   have:=hd.2
   rw[Y3,List.all_nil,Bool.and_true]at this
   exact Xd this
  rw[PySem.NumText.digitsVal_snoc]
  cases r with
  | nil=>
   show [c]=dgs (0*10+(c-48))
   rw[yC (by omega)]
   congr 1
   omega
  | cons a r=>
   have h48:a≠48:=fun z=>h0 ⟨z,by rw[Yj];show 1<r.length+1+1;omega⟩
   have e:=ih (l:=a::r) hd.1 (fun z=>h48 z.1) (Nat.succ_le_succ (YO _)) hlen.symm
   have ha:48<=a/\a<=57:=by
    have:=hd.1
    rw[Y3,YC]at this
    exact Xd this.1
   have hp:0<PySem.NumText.digitsVal (a::r):=PySem.NumText.digitsVal_pos (by omega)
   generalize PySem.NumText.digitsVal (a::r)=v at e hp
   rw[b6B (by omega),e]
   congr 2
   ·congr 1
    omega
   ·omega
theorem b7V {l:List Nat}{n:Nat}(h:numIn l=some n):l=dgs n:=by
 unfold numIn at h
 by_cases c:(1<=l.length/\l.length<=6)/\l.all isDg=true/\¬ (l.headD 0=48/\1<l.length)
 ·rw[if_pos c]at h
  cases h
  exact c5N c.2.1 c.2.2 c.1.1
 ·rw[if_neg c]at h
  cases h
def spNum82 (K:W.Frag):Sp:=fun vs H Q _=>∃(a:Addr)(ns:List Int)(k:Int),vs= [.ref a,.int k]/\SqL K H a (ns.map V.int)/\ns.length<=63/\0<=k/\k<=900/\∀n:Nat,n<10 ^ 6->Q (.int ((n:Nat):Int)) H
def spIsNum:Sp:=fun vs H Q _=>∃l:List Nat,vs= [.str (txt l)]/\l.length<=900/\Q (.bl (numIn l).isSome) H
theorem a9G {x:Str}:∀{L:List Str},inV (.str x) (L.map V.str)=decide (x∈L)
 |[]=>by simp[inV]
 | y::L=>by
  have i:=a9G (x:=x) (L:=L)
  unfold inV at i ⊢
  rw[Yo,Xq,i,Xr,XG,Y2,Y2,Yv]
  refine or_congr ?_ Iff.rfl
  show (y == x)=true↔x=y
  rw[Y8]
  exact eq_comm
def hd1:List Str:=["run","got","waits","stance","faults"]
def hd3:List Str:=["draw","thing"]
def hd2:List Str:=["rail","hand","wrong","bits","things"]
def leastI (x:Str):Int:=if x∈hd1 then 1 else if x∈hd3 then 3 else if x∈hd2 then 2 else -1
def spLeast:Sp:=fun vs H Q _=>∃x:Str,vs= [.str x]/\∀H',Same H H'->Q (.int (leastI x)) H'
def Wd (x:Str):Prop:=x.length<=40/\32∉x.cps.toList
def WdsAt (H:Hp)(l:Addr)(ws:List Str)(n:Nat):Prop:=H l=some (.lst (ws.map V.str))/\ws≠ []/\ws.length<=n/\∀x∈ws,Wd x
def spGood82 (K:W.Frag):Sp:=fun vs H Q _=>∃(a:Addr)(ns:List Int),vs= [.ref a]/\SqL K H a (ns.map V.int)/\ns.length<=63/\∀l ws H',H l=none->Same H H'->WdsAt H' l ws 12->Q (.ref l) H'
def spOdd82 (K:W.Frag):Sp:=fun vs H Q _=>∃(a:Addr)(ns:List Int)(k:Int),vs= [.ref a,.int k]/\SqL K H a (ns.map V.int)/\ns.length<=63/\0<=k/\k<=800/\∀x H',Wd x->Same H H'->Q (.str x) H'
theorem c4A {n:Nat}(h:n<10 ^ 6):Wd (num n):=⟨Yn (rM h) (by decide),yS h (by decide)⟩
theorem c4B {v:Vl}(h:v.lt):(vlT v).length<=13:=by
 cases v with
 |num n=>exact Yn (rM h) (by decide)
 | cho a b=>
  show (num a++"/"++num b).length<=13
  rw[YV,YV]
  have h1:=rM h.1
  have h2:=rM h.2
  have h3:("/":Str).length=1:=by decide +kernel
  omega
theorem c6E {v:Vl}(h:v.lt):Wd (vlT v):=⟨Yn (c4B h) (by decide),b9E h⟩
theorem b4K {n:Nat}(h:n<10 ^ 6):(((n:Nat):Int)).natAbs.log2<1920:=by
 show n.log2<1920
 rcases Nat.eq_zero_or_pos n with rfl | p
 ·decide
 ·exact(Nat.log2_lt (by omega)).mpr (Yp h (Yn (by decide:10 ^ 6<=2 ^ 20) (Nat.pow_le_pow_right (by decide) (by decide))))
def hdM:List Str:=["rail","hand","thing"]
def hdE:List Str:=["bits","draw"]
def hd15:List Str:=["rail","hand","thing","wrong","run","bits","draw","got","waits","things","stance","faults","run","run","bits"]
theorem b6T:∀x∈hd15,(1<=leastI x/\leastI x<=3)/\(x∈hdE->2<=leastI x/\¬ x∈hdM/\¬ x="rail")/\Wd x:=by
 have h:(hd15.all fun x=>decide (1<=leastI x) && decide (leastI x<=3) && (!decide (x∈hdE) || (decide (2<=leastI x) && !decide (x∈hdM) && !decide (x="rail"))) && decide (x.length<=40) && !decide (32∈x.cps.toList))=true:=by decide +kernel
 intro x hx
 have h1:=YH.mp h x hx
 simp only[YC,XG,Bool.not_eq_true',decide_eq_true_eq,decide_eq_false_iff_not]at h1
 obtain⟨⟨⟨⟨a,b⟩,c⟩,d⟩,e⟩:=h1
 exact⟨⟨a,b⟩,fun z=>c.elim (fun y=>absurd z y) fun y=>⟨y.1.1,y.1.2,y.2⟩,d,e⟩
/-- the kind of the word at a place,as the law judges it -/
def kindOf (x:Str)(i:Nat):Str:=
 if leastI x<(i:Int)/\x∉hdM then "" else if x="rail"/\1<i then "choice" else if x="run" then "turns" else if x∈hdE/\(i:Int)=leastI x then "end" else "number"
theorem kinds_ok:(formsL.all fun f=>decide (leastI f.1=((f.2.1.length:Nat):Int)) && decide (f.2.1.length<=3) && [1,2,3,4].all fun i=>decide (f.2.1.getD (i-1) f.2.2=kindOf f.1 i))=true:=by decide +kernel
theorem b6R {x :Str}{nf:List Str}{m:Str}(h:formsL.lookup x=some (nf,m)):leastI x=((nf.length:Nat):Int)/\∀i,1<=i->nf.getD (i-1) m=kindOf x i:=by
  have h1:=YH.mp kinds_ok _ (lookup_mem h)
  simp only[YC,decide_eq_true_eq]at h1
  obtain⟨⟨h2,h3⟩,h4⟩:=h1
  have h5:∀i∈ [1,2,3,4],nf.getD (i-1) m=kindOf x i:=fun i hi=>by simpa using YH.mp h4 i hi
  refine⟨h2,fun i hi=>?_⟩
  by_cases c:i<5
  · exact h5 i (by have:i=1\/i=2\/i=3\/i=4:=by omega
                   simpa using this)
  · have e:=h5 4 (by simp)
    rw[YG,Xh (by omega)]at e ⊢
    rw[e]
    unfold kindOf
    have e1:(leastI x<((i:Nat):Int))=(leastI x<((4:Nat):Int)):=propext ⟨fun _=>by omega,fun _=>by omega⟩
    have e2:(1<i)=(1<4):=propext ⟨fun _=>by omega,fun _=>by omega⟩
    have e3:(((i:Nat):Int)=leastI x)=(((4:Nat):Int)=leastI x):=propext ⟨fun _=>by omega,fun _=>by omega⟩
    simp only[e1,e2,e3]
theorem b5U {x:Str}(h:formsL.lookup x=none):leastI x= -1:=by
 have h0:∀y,y∈hd1++hd3++hd2->(formsL.lookup y).isSome=true:=by
  have:((hd1++hd3++hd2).all fun y=>(formsL.lookup y).isSome)=true:=by decide +kernel
  exact fun y hy=>YH.mp this y hy
 unfold leastI
 have no:∀y,y∈hd1++hd3++hd2->x≠y:=fun y hy z=>by
  have:=h0 y hy
  rw[<-z,h]at this
  cases this
 rw[if_neg fun z=>no x (by simp[z]) rfl,if_neg fun z=>no x (by simp[z]) rfl,if_neg fun z=>no x (by simp[z]) rfl]
theorem c2V {l:List Nat}{n:Nat}(h:numIn l=some n):PySem.intText? (txt l)=some ((n:Nat):Int)/\(txt l).length<=640:=by
 unfold numIn at h
 by_cases c:(1<=l.length/\l.length<=6)/\l.all isDg=true/\¬ (l.headD 0=48/\1<l.length)
 ·rw[if_pos c]at h
  cases h
  have e:=PySem.intText_digits (x:=txt l) (by rw[vH];exact fun d hd=>Xd (YH.mp c.2.1 d hd)) (by rw[vH];intro z;rw[z]at c;exact absurd c.1.1 (by decide)) (by rw[uH];have:=c.1.2;omega)
  rw[vH]at e
  exact⟨e,by rw[uH];have:=c.1.2;omega⟩
 ·rw[if_neg c]at h
  cases h
theorem a1Y {x:Str}{n:Nat}(h:numIn x.cps.toList=some n):PySem.intText? x=some ((n:Nat):Int)/\x.length<=640:=by
 have:=c2V h
 rwa [<-sE]at this
def spIsWord (K:W.Frag):Sp:=fun vs H Q _=>∃(l:Addr)(x:Str)(r:List Str)(i:Nat)(wd:Str)(nf:List Str)(m:Str)(us:List Vl),vs= [.ref l,.int (1+((i:Nat):Int))]/\SqL K H l ((x::r).map V.str)/\r[i]? =some wd/\wd.length<=900/\formsL.lookup x=some (nf,m)/\(nf.getD i m="end"->∃(pw:Str)(n:Nat),1<=i/\r[i-1]? =some pw/\numIn pw.cps.toList=some n/\lastN us=n)/\∀H',Same H H'->Q (.bl (valIn wd.cps.toList (nf.getD i m) us).isSome) H'
def wrongI (ws:List Str):Int:=match rowIn ws with
 |.ok _=> -1
 |.error p=>((p:Nat):Int)
theorem b3Q {ws:List Str}{vl:List Vl}(h:rowIn ws= .ok vl):wrongI ws= -1:=by unfold wrongI;rw[h]
theorem yR {ws:List Str}{p:Nat}(h:rowIn ws= .error p):wrongI ws=((p:Nat):Int):=by unfold wrongI;rw[h]
def spFirst (K:W.Frag):Sp:=fun vs H Q _=>∃(l:Addr)(x:Str)(r:List Str),vs= [.ref l]/\SqL K H l ((x::r).map V.str)/\r.length<=800/\(∀y∈r,y.length<=900)/\∀H',Same H H'->Q (.int (wrongI (x::r))) H'
/-- the numbers are those of the words -/
def NumW (nf:List Str)(m:Str)(r:List Str)(us:List Vl):Prop:=∀j n,us[j]? =some (.num n)->nf.getD j m="number"->∃w,r[j]? =some w/\numIn w.cps.toList=some n
theorem NumW.snoc {nf:List Str}{m:Str}{r:List Str}{us:List Vl}{w:Str}{v:Vl}(h:NumW nf m r us)(hw:r[us.length]? =some w)(e:valIn w.cps.toList (nf.getD us.length m) us=some v):NumW nf m r (us++[v]):=fun j n hj hk=>by
 by_cases c:j<us.length
 ·rw[YN c]at hj
  exact h j n hj hk
 ·rw[YM (by omega)]at hj
  have hj0:j-us.length=0:=by have:=(Yc.mp hj).1;simpa using this
  rw[hj0]at hj
  cases hj
  have ej:j=us.length:=by omega
  subst ej
  rw[hk]at e
  unfold valIn at e
  rw[if_neg (by decide),if_neg (by decide),if_pos rfl]at e
  obtain⟨k,hk2,e2⟩:=Yt.mp e
  cases e2
  exact⟨w,hw,hk2⟩
/-- what is read of the words,one by one -/
theorem a1I {nf:List Str}{m:Str}:∀{ws:List Str}{vs vl:List Vl},rowGo nf m ws vs= .ok vl->∃us,vl=vs++us/\us.length=ws.length/\nf.length<=vl.length/\∀(j:Nat)(w:Str)(u:Vl),ws[j]? =some w->us[j]? =some u->valIn w.cps.toList (nf.getD (vs.length+j) m) (vs++us.take j)=some u
 | [],vs,vl,h=>by
  have h':(if vs.length<nf.length then Except.error (vs.length+1) else .ok vs)= .ok vl:=h
  by_cases c:vs.length<nf.length
  ·rw[if_pos c]at h';cases h'
  ·rw[if_neg c]at h';cases h';exact⟨[],by rw[Yz],rfl,by omega,fun j w u hw=>by cases hw⟩
 | x :: ws,vs,vl,h=>by
  cases e:valIn x.cps.toList (nf.getD vs.length m) vs with
  |none=>cases (zO e).symm.trans h
  | some v=>
   rw[eO e]at h
   obtain⟨us,rfl,hl,hn,hj⟩:=a1I h
   refine⟨v::us,by rw[Xx];rfl,by rw[Ys,Ys,hl],hn,fun j w u hw hu=>?_⟩
   cases j with
   | zero=>
    cases hw
    cases hu
    rw[List.take_zero,Yz,Nat.add_zero]
    exact e
   | succ j=>
    have:=hj j w u hw hu
    rw[Yj,Xx]at this
    rw[show vs.length+(j+1)=vs.length+ [v].length+j from by show _=vs.length+1+j;omega]
    exact this
def RailWs (r:List Str)(v:Nat)(cs:List (Nat×Nat)):Prop:=∃w rs,r=w::rs/\numIn w.cps.toList=some v/\rs.length=cs.length/\1<=cs.length/\∀(i:Nat)(wd:Str)(c:Nat×Nat),rs[i]? =some wd->cs[i]? =some c->choIn wd.cps.toList=some c
theorem c2E {r:List Str}{v:Nat}{cs:List (Nat×Nat)}(h:rowIn ("rail"::r)= .ok (Row8.rail v cs).vals):RailWs r v cs:=by
 rw[lA (x:="rail") (nf:=["number","choice"]) (m:="choice") (by decide +kernel)]at h
 obtain⟨us,e,hl,hn,hj⟩:=a1I h
 rw[List.nil_append]at e
 subst e
 have hl':(cs.map fun c=>Vl.cho c.1 c.2).length+1=r.length:=hl
 have hn':2<=(cs.map fun c=>Vl.cho c.1 c.2).length+1:=hn
 rw[Ya]at hl' hn'
 match r,hl',hj with
 | w :: rs,hl',hj=>
  refine⟨w,rs,rfl,?_,by have:cs.length+1=rs.length+1:=hl';omega,by omega,fun i wd c hw hc=>?_⟩
  ·have:=hj 0 w (.num v) rfl rfl
   have ek:(["number","choice"]:List Str).getD (([]:List Vl).length+0) "choice"="number":=rfl
   rw[ek]at this
   unfold valIn at this
   rw[if_neg (by decide),if_neg (by decide),if_pos rfl]at this
   obtain⟨n,e1,e2⟩:=Yt.mp this
   cases e2
   exact e1
  ·have:=hj (i+1) wd (.cho c.1 c.2) hw (by show (cs.map fun c=>Vl.cho c.1 c.2)[i]? =_;rw[Yq,hc];rfl)
   have ek:(["number","choice"]:List Str).getD (([]:List Vl).length+(i+1)) "choice"="choice":=by
    rw[show ([]:List Vl).length+(i+1)=i+1 from by show 0+(i+1)=_;omega]
    cases i <;> rfl
   rw[ek]at this
   unfold valIn at this
   rw[if_neg (by decide),if_pos rfl]at this
   obtain⟨p,e1,e2⟩:=Yt.mp this
   injection e2 with e3 e4
   rw[e1]
   exact Yy some (Prod.ext e3 e4)
def spIsRail (K:W.Frag):Sp:=fun vs H Q _=>∃(l:Addr)(x:Str)(r:List Str)(v:Nat)(cs:List (Nat×Nat)),vs= [.ref l]/\SqL K H l ((x::r).map V.str)/\RailWs r v cs/\r.length<=800/\(∀y∈r,y.length<=900)/\(RlOk v cs->∀H',Same H H'->Q (.bl true) H')/\(¬ RlOk v cs->∀H',Same H H'->Q (.bl false) H')
def rfT:Rf->Str
 |.post=>"post"
 |.rail=>"rail"
 |_=>"other"
def spAns82 (K:W.Frag)(C CR:Addr)(A:Cs):Sp:=fun vs H Q _=>∃d st wp o w x r n tx,vs= [.ref d,.str tx]/\tx=Txt.join " " (x::r)/\DeskAt C CR A H d st wp o w/\(Txt.join " " (x::r)).length<=899/\(∀y∈x::r,32∉y.cps.toList)/\(∀R,st=some R->Z83 R n)/\n<=800/\wp.length<=800/\
 (∀p,rowIn (x::r)= .error p->∀t H',H t=none->Same H H'->H' t=some (.tup [.str "row",.int ((p:Nat):Int)])->Q (.ref t) H')/\∀row:Row8,row.key=x->rowIn (x::r)= .ok row.vals->(row.small\/(st=none/\∃n,row= .run n))/\(∀e,deskP st wp row= .error e->∀t H',H t=none->Same H H'->H' t=some (.tup [.str (rfT e),.int 0])->Q (.ref t) H')/\∀s st' wp',deskP st wp row= .ok (s,st',wp')->∀t H' o' w',DeskAt C CR A H' d st' wp' o' w'->Mv o H o' H'->H' t=some (.tup [.str "told",.str s])->Q (.ref t) H'
def spLaw82 (K:W.Frag):Sp:=fun vs H Q _=>∃(a:Addr)(ns:List Int),vs= [.ref a]/\SqL K H a (ns.map V.int)/\ns.length<=63/\∀H',Q (.bl true) H'
def odds:List Str:=["","01","00","007","+1","-1","1_0","1.0","a","1a","a1","1000000","0123456",Txt.mul "9" 40,"1\n","\t","/","1/","/2","1/2","1/2/3","01/2","1/02","1//2","1/-2","rail","Run","HAND","got","ok"]
theorem c2T:∀x∈odds,Wd x:=by
 have h:(odds.all fun x=>decide (x.length<=40) && !decide (32∈x.cps.toList))=true:=by decide +kernel
 intro x hx
 have h1:=YH.mp h x hx
 simp only[YC,Bool.not_eq_true',decide_eq_true_eq,decide_eq_false_iff_not]at h1
 exact h1
theorem a2Z {n:Nat}(h:n<=900):n<=sizeLine:=Xl (nQ (Yn h (by decide)))
theorem c2Z {x:Str}(L:List Str):(if false=true then !inV (.str x) (L.map V.str) else inV (.str x) (L.map V.str))=decide (x∈L):=(if_neg Yg).trans a9G
theorem c7C {x:Str}(L:List Str):(if true=true then !inV (.str x) (L.map V.str) else inV (.str x) (L.map V.str))= !decide (x∈L):=(if_pos rfl).trans (Yy not a9G)
/-- a list of words being made -/
structure Mk82 (H H':Hp)(l:Addr)(x:Str)(vs:List Vl)(n:Nat):Prop where
 new:H l=none
 same:Same H H'
 at_:H' l=some (.lst ((x::vs.map vlT).map V.str))
 len:vs.length=n
 lt:∀v∈vs,v.lt
 nm:x≠"rail"->∀v∈vs,∃k,v= .num k
theorem Mk82.wds {H H':Hp}{l:Addr}{x:Str}{vs:List Vl}{n:Nat}(h:Mk82 H H' l x vs n)(hx:Wd x)(hn:n<=11):WdsAt H' l (x::vs.map vlT) 12:=
 ⟨h.at_,by simp,by rw[Ys,Ya,h.len];omega,fun y hy=>by
  rcases Yv.mp hy with rfl | hy
  ·exact hx
  ·obtain⟨v,hv,rfl⟩:=Xw.mp hy
   exact c6E (h.lt v hv)⟩
theorem Mk82.snocV {H H':Hp}{l:Addr}{x:Str}{vs:List Vl}{n:Nat}{v:Vl}(h:Mk82 H H' l x vs n)(hv:v.lt)(hn:x≠"rail"->∃k,v= .num k):Mk82 H (upd H' l (.lst ((x::vs.map vlT).map V.str++[.str (vlT v)]))) l x (vs++[v]) (n+1):=
 ⟨h.new,h.same.put h.new,by rw[aK];simp,by rw[Yj,h.len];rfl,fun u hu=>by
  rcases YX.mp hu with hu | hu
  ·exact h.lt u hu
  ·rw[Yx.mp hu];exact hv,fun z u hu=>by
  rcases YX.mp hu with hu | hu
  ·exact h.nm z u hu
  ·rw[Yx.mp hu];exact hn z⟩
theorem Mk82.snoc {H H':Hp}{l:Addr}{x:Str}{vs:List Vl}{n k:Nat}(h:Mk82 H H' l x vs n)(hk:k<10 ^ 6):Mk82 H (upd H' l (.lst ((x::vs.map vlT).map V.str++[.str (My.num k)]))) l x (vs++[.num k]) (n+1):=h.snocV (v:= .num k) hk fun _=>⟨k,rfl⟩
theorem Mk82.set {H H':Hp}{l:Addr}{x:Str}{vs:List Vl}{n i:Nat}{v:Vl}(h:Mk82 H H' l x vs n)(hv:v.lt)(hn:x≠"rail"->∃k,v= .num k):Mk82 H (upd H' l (.lst (((x::vs.map vlT).map V.str).set (i+1) (.str (vlT v))))) l x (vs.set i v) n:=
 ⟨h.new,h.same.put h.new,by rw[aK];simp[List.map_set],by rw[Xa];exact h.len,fun u hu=>by
  rcases Xo hu with hu | rfl
  ·exact h.lt u hu
  ·exact hv,fun z u hu=>by
  rcases Xo hu with hu | rfl
  ·exact h.nm z u hu
  ·exact hn z⟩
def vt3:List Str:=["1","3","5"]
theorem b9D {w:Str}{v:Nat}(h:numIn w.cps.toList=some v):w∈vt3↔(v=1\/v=3\/v=5):=by
 have e1:numIn ("1":Str).cps.toList=some 1:=by decide +kernel
 have e3:numIn ("3":Str).cps.toList=some 3:=by decide +kernel
 have e5:numIn ("5":Str).cps.toList=some 5:=by decide +kernel
 unfold vt3
 rw[Yv,Yv,Yx]
 refine⟨fun z=>?_,fun z=>?_⟩
 ·rcases z with rfl | rfl | rfl
  ·rw[e1]at h;cases h;exact .inl rfl
  ·rw[e3]at h;cases h;exact .inr (.inl rfl)
  ·rw[e5]at h;cases h;exact .inr (.inr rfl)
 ·have hw:=b7V h
  have e:=sE w
  rw[hw]at e
  rcases z with rfl | rfl | rfl
  ·rw[yC (by decide)]at e;exact .inl (e.trans (by decide +kernel))
  ·rw[yC (by decide)]at e;exact .inr (.inl (e.trans (by decide +kernel)))
  ·rw[yC (by decide)]at e;exact .inr (.inr (e.trans (by decide +kernel)))
theorem b9W {v:Nat}{cs:List (Nat×Nat)}(h:RlOk v cs)(hc:1<=cs.length):v=1\/v=3\/v=5:=by
 cases cs with
 |nil=>cases hc
 | cons c r=>
  have:=(h.2 c (Yw ..)).2.2
  omega
theorem c6I {v:Nat}{c:Nat×Nat}(hv:v=1\/v=3\/v=5)(h1:c.1<256)(h2:c.2<256):PoOk ((c.1:Nat):Int) ((c.2:Nat):Int) ((v:Nat):Int):=⟨uI.mpr ⟨by omega,by omega⟩,uI.mpr ⟨by omega,by omega⟩,by omega⟩
def X6 (NR:Addr)(X:Ex5):Option Rf->Addr
 |none=>NR
 |some e=>X.at e
theorem c2C {n k:Nat}(h:k<n):seqIndex? ((k:Nat):Int) n=some k:=by
 have h1:¬ ((k:Nat):Int)<0:=by omega
 simp only[seqIndex?,if_neg h1]
 rw[if_pos (by rw[YC];exact⟨Yk (by omega),Yk (by omega)⟩),Xi]
theorem b8N {ws:List Str}{k:Nat}:(ws.map V.str).eraseIdx k=(ws.eraseIdx k).map V.str:=by
 rw[List.eraseIdx_eq_take_drop_succ,List.eraseIdx_eq_take_drop_succ,Yu,List.map_take,List.map_drop]
theorem c3Q {K:W.Frag}{H:Hp}{t:Addr}{a:Str}{n:Int}(e:H t=some (.tup [.str a,.int n])):DV K H (.ref t) (.tuple [.str a,.int n]):= .tup (SqT.of e) (.cons (.str _) (.cons (.int _) .nil))
theorem c3R {K:W.Frag}{H:Hp}{t:Addr}{a b:Str}(e:H t=some (.tup [.str a,.str b])):DV K H (.ref t) (.tuple [.str a,.str b]):= .tup (SqT.of e) (.cons (.str _) (.cons (.str _) .nil))
theorem b7L {a:Str}{n:Int}(h1:PyData.strOk a=true):SeqAt.shaped (.tuple [.str a,.int n])=true:=by
 unfold SeqAt.shaped
 rw[YC]
 refine⟨by simp only[PyData.canLay0,PyData.canLayAll0,h1,Bool.and_self],Yk ?_⟩
 simp only[PyData.depth,PyData.depthAll]
 decide
theorem b7M:SeqAt.shaped (.tuple [.str ("told":Str),.str ("ok":Str)])=true:=by
 have h1:PyData.strOk ("told":Str)=true:=by decide +kernel
 have h2:PyData.strOk ("ok":Str)=true:=by decide +kernel
 unfold SeqAt.shaped
 rw[YC]
 refine⟨by simp only[PyData.canLay0,PyData.canLayAll0,h1,h2,Bool.and_self],Yk ?_⟩
 simp only[PyData.depth,PyData.depthAll]
 decide
structure Due82 (x:Str)(r:List Str)(da:Str)(db:V):Prop where
 err:∀p,rowIn (x::r)= .error p->da="row"/\db= .int ((p:Nat):Int)
 oth:∀vl,rowIn (x::r)= .ok vl->x≠"rail"->da="rail"/\db= .int 0
 yes:∀v cs,rowIn (x::r)= .ok (Row8.rail v cs).vals->x="rail"->RlOk v cs->da="told"/\db= .str "ok"
 no:∀v cs,rowIn (x::r)= .ok (Row8.rail v cs).vals->x="rail"->¬ RlOk v cs->da="post"/\db= .int 0
inductive Fd82 (st:Option RS)(x:Str)(r:List Str):Str->V->Prop
 |row (p:Nat):rowIn (x::r)= .error p->Fd82 st x r "row" (.int ((p:Nat):Int))
 |err (row:Row8) (e:Rf):row.key=x->rowIn (x::r)= .ok row.vals->deskP st [] row= .error e->Fd82 st x r (rfT e) (.int 0)
 |ok (row:Row8) (s:Str) (st':Option RS) (wp':Wp):row.key=x->rowIn (x::r)= .ok row.vals->deskP st [] row= .ok (s,st',wp')->Fd82 st x r "told" (.str s)
theorem a5K {row:Row8}(h:row.key="rail"):∃v cs,row= .rail v cs:=by
 cases row with
 |rail v cs=>exact⟨v,cs,rfl⟩
 |_=>exact absurd h (by simp only[Row8.key];decide)
theorem b1Z {row:Row8}(h:row.key≠"rail"):deskP none [] row= .error .rail:=by
 cases row with
 |rail v cs=>exact absurd rfl h
 |_=>rfl
open Classical in
theorem a7N {st:Option RS}{v:Nat}{cs:List (Nat×Nat)}:deskP st [] (.rail v cs)=if RlOk v cs then .ok ("ok",some (R0 (chI cs) ((v:Nat):Int)), []) else .error .post:=by cases st <;> rfl
theorem b8P {R:RS}{row:Row8}(h:row.key≠"rail"):deskP (some R) [] row=ansP R [] row:=by
 cases row with
 |rail v cs=>exact absurd rfl h
 |_=>rfl
theorem c5J {st:Option RS}{x:Str}{r:List Str}{fa da:Str}{fb db:V}(h:Fd82 st x r fa fb)(d:Due82 x r da db)(hs:∀vl,rowIn (x::r)= .ok vl->x≠"rail"->st=none):fa=da/\fb=db/\((∃n,fb= .int n)/\PyData.strOk fa=true\/fa="told"/\fb= .str "ok"):=by
 cases h with
 | row p hp=>
  obtain⟨a,b⟩:=d.err p hp
  exact⟨a.symm,b.symm,.inl ⟨⟨_,rfl⟩,by decide +kernel⟩⟩
 | err row e hk hr hd=>
  have ok:PyData.strOk (rfT e)=true:=by cases e <;> decide +kernel
  by_cases c:x="rail"
  ·obtain⟨v,cs,rfl⟩:=a5K (hk.trans c)
   rw[a7N]at hd
   by_cases z:RlOk v cs
   ·rw[if_pos z]at hd;cases hd
   ·rw[if_neg z]at hd
    cases hd
    obtain⟨a,b⟩:=d.no v cs hr c z
    exact⟨a.symm,b.symm,.inl ⟨⟨_,rfl⟩,ok⟩⟩
  ·have:=hs _ hr c
   subst this
   rw[b1Z (fun z=>c (hk.symm.trans z))]at hd
   cases hd
   obtain⟨a,b⟩:=d.oth _ hr c
   exact⟨a.symm,b.symm,.inl ⟨⟨_,rfl⟩,ok⟩⟩
 | ok row s st' wp' hk hr hd=>
  by_cases c:x="rail"
  ·obtain⟨v,cs,rfl⟩:=a5K (hk.trans c)
   rw[a7N]at hd
   by_cases z:RlOk v cs
   ·rw[if_pos z]at hd
    cases hd
    obtain⟨a,b⟩:=d.yes v cs hr c z
    exact⟨a.symm,b.symm,.inr ⟨rfl,rfl⟩⟩
   ·rw[if_neg z]at hd;cases hd
  ·have:=hs _ hr c
   subst this
   rw[b1Z (fun z=>c (hk.symm.trans z))]at hd
   cases hd
theorem b4S {R:RS}{k n:Nat}{ds:List Int}{e:Rf}(h:handR R k n ds= .error e):e≠ .rail:=by
 unfold handR at h
 split at h
 ·cases h;decide
 ·split at h
  ·split at h
   ·cases h
   ·cases h;decide
  ·cases h;decide
theorem b4T {k n:Nat}{e:Rf}:∀{ps:List (List Int)}{R:RS},handL k n ps R= .error e->e≠ .rail
 |[],_,h=>by cases h
 | p::ps,R,h=>by
  have h':(match handR R k n p with | .error e=>Except.error e | .ok R'=>handL k n ps R')= .error e:=h
  cases e1:handR R k n p with
  |error y=>rw[e1]at h';cases h';exact b4S e1
  |ok R'=>rw[e1]at h';exact b4T h'
theorem c5V {R:RS}{row:Row8}{e:Rf}(hn:row.key≠"run")(h:ansP R [] row= .error e):e≠ .rail:=by
 have ask:∀k f,askP R [] k f= .error e->e≠ .rail:=fun k f h=>by
  unfold askP at h
  split at h
  ·cases h;decide
  ·cases h
 cases row with
 | rail v cs=>
  unfold ansP at h
  dsimp only at h
  split at h
  ·cases h
  ·cases h;decide
 | hand k n ds=>
  cases e1:handR R k n (itg ds) with
  |error y=>cases (wN.1 _ e1).symm.trans h;exact b4S e1
  |ok R'=>cases (wN.2 _ e1).symm.trans h
 | thing k n g ds=>
  by_cases t:TgOk ((g:Nat):Int) (itg ds)
  ·cases e1:handL k n (pieces ((g:Nat):Int) (itg ds)) R with
   |error y=>cases ((a3E t).1 _ e1).symm.trans h;exact b4T e1
   |ok R'=>cases ((a3E t).2 _ e1).symm.trans h
  ·cases (c1S t).symm.trans h;decide
 | wrong k t=>
  unfold ansP at h
  dsimp only at h
  split at h
  ·cases h
  ·cases h;decide
 |got k=>exact ask _ _ h
 |waits k=>exact ask _ _ h
 |things k n=>exact ask _ _ h
 |stance k=>exact ask _ _ h
 |faults k=>exact ask _ _ h
 |draw k s e=>exact ask _ _ h
 |bits s e=>cases h
 |run n=>exact absurd rfl hn
def fd3:List Str:=["told","post","other"]
theorem c7E {R:RS}{x:Str}{r:List Str}{fa:Str}{fb:V}(h:Fd82 (some R) x r fa fb)(hv:∃vl,rowIn (x::r)= .ok vl)(h1:x≠"rail")(h2:x≠"run"):fa∈fd3:=by
 obtain⟨vl,hv⟩:=hv
 cases h with
 |row p hp=>cases hv.symm.trans hp
 | err row e hk hr hd=>
  rw[b8P (fun z=>h1 (hk.symm.trans z))]at hd
  have:=c5V (fun z=>h2 (hk.symm.trans z)) hd
  cases e with
  |rail=>exact absurd rfl this
  |_=>decide +kernel
 |ok row s st' wp' hk hr hd=>decide +kernel
/-- one row told to a desk,that is read as it is meant -/
theorem b0P {K:W.Frag}{C CR:Addr}{A:Cs}{X:Ex5}{NR:Addr}{H:Hp}{d:Addr}{st st':Option RS}{o:Own}{w:DeskW}{tx x s:Str}{r:List Str}{row:Row8}{n:Nat}{Q:VK}{E:XK}(hD:DeskAt C CR A H d st [] o w)(et:tx=Txt.join " " (x::r))(hl:tx.length<=899)(hb:∀y∈x::r,32∉y.cps.toList)
  (hr:rowIn (x::r)= .ok row.vals) (hu:∀row':Row8,row'.key=x->row'.vals=row.vals->row'=row) (hs:row.small) (hz:∀R,st=some R->Z83 R n) (hn:n<=800) (hd:deskP st [] row= .ok (s,st', []))
  (q:∀H' o' w',DeskAt C CR A H' d st' [] o' w'->Mv o H o' H'->Q (.str s) H'):spAsk82 K C CR A X NR [.ref d,.str tx] H Q E:=by
 subst et
 refine⟨d,st, [],o,w,x,r,n,rfl,hD,hl,hb,hz,hn,YO _,fun p hp=>(by cases hr.symm.trans hp),fun row' hk hr'=>?_⟩
 have e1:row'.vals=row.vals:=Except.ok.inj (hr'.symm.trans hr)
 have:=hu row' hk e1
 subst this
 refine⟨.inl hs,fun e he=>(by cases hd.symm.trans he),fun s2 st2 wp2 he H' o' w' hD' m=>?_⟩
 cases hd.symm.trans he
 exact q H' o' w' hD' m
abbrev cs82:List (Nat×Nat):=[(0,0),(0,0)]
noncomputable abbrev R82:RS:=R0 (chI cs82) 1
theorem c7T:RlOk 1 cs82:=⟨⟨by decide,by decide⟩,fun c hc=>by
 have:c=(0,0):=by simpa using hc
 subst this
 exact⟨by decide,by decide,.inl rfl⟩⟩
theorem b2X:∀{cs cs':List (Nat×Nat)},(cs.map fun c=>Vl.cho c.1 c.2)=cs'.map (fun c=>Vl.cho c.1 c.2)->cs=cs'
 |[], [],_=>rfl
 |[],_::_,h=>by cases h
 |_::_, [],h=>by cases h
 | c::cs,c'::cs',h=>by
  rw[Yo,Yo]at h
  injection h with h1 h2
  injection h1 with h3 h4
  rw[b2X h2,show c=c' from Prod.ext h3 h4]
theorem b9F:∀row':Row8,row'.key="rail"->row'.vals=(Row8.rail 1 cs82).vals->row'= .rail 1 cs82:=fun row h1 h2=>by
 obtain⟨v,cs,rfl⟩:=a5K h1
 have e':Vl.num v::cs.map (fun c=>Vl.cho c.1 c.2)= .num 1::cs82.map fun c=>Vl.cho c.1 c.2:=h2
 injection e' with e1 e2
 injection e1 with e1
 rw[e1,b2X e2]
theorem Z83.new {cs:List (Nat×Nat)}{v:Nat}(m:Nat):Z83 (R0 (chI cs) ((v:Nat):Int)) m:=by
 refine⟨fun S hS=>?_,YO _,fun i u hu=>?_,fun x hx=>List.eq_of_mem_replicate (show x∈List.replicate _ _ from hx),rfl⟩
 ·obtain⟨c,_,rfl⟩:=Xw.mp (show S∈(chI cs).map _ from hS)
  exact⟨rfl,rfl,rfl,YO _⟩
 ·cases hu
theorem z82:Z83 R82 0:=Z83.new (v:=1) 0
theorem c1Y {x:Str}{r:List Str}{row:Row8}(h:rowIn (x::r)= .ok row.vals)(hl:r.length<=13):row.vals.length<=13:=by
 cases e:formsL.lookup x with
 |none=>cases (zN e).symm.trans h
 | some f=>
  rw[lA e]at h
  obtain⟨us,e1,e2,_⟩:=a1I h
  rw[e1,List.nil_append,e2]
  exact hl
theorem a9L {l:List Nat}{n:Nat}{vs:List Vl}(h:numIn l=some n):valIn l "number" vs=some (.num n):=by
 unfold valIn
 rw[if_neg (by decide),if_neg (by decide),if_pos rfl,h]
 rfl
theorem c3H {l:List Nat}{a b:Nat}{vs:List Vl}(h:choIn l=some (a,b)):valIn l "choice" vs=some (.cho a b):=by
 unfold valIn
 rw[if_neg (by decide),if_pos rfl,h]
 rfl
theorem c6G {l:List Nat}{n:Nat}{vs:List Vl}(h:capN l (lastN vs+400)=some n):valIn l "end" vs=some (.num n):=by
 unfold valIn
 rw[if_neg (by decide),if_neg (by decide),if_neg (by decide),if_neg (by decide),h]
 rfl
theorem c4J:rowIn ["rail","1","0/0","0/0"]= .ok (Row8.rail 1 cs82).vals:=by
 refine(lA (nf:=["number","choice"]) (m:="choice") (by decide +kernel)).trans ?_
 refine(eO (v:= .num 1) (a9L (by decide +kernel))).trans ?_
 refine(eO (v:= .cho 0 0) (c3H (by decide +kernel))).trans ?_
 exact(eO (v:= .cho 0 0) (c3H (by decide +kernel))).trans rfl
theorem a9B (k:Nat)(x:Str)(h:numIn x.cps.toList=some k):rowIn ["waits",x]= .ok (Row8.waits k).vals:=by
 refine(lA (nf:=["number"]) (m:="") (by decide +kernel)).trans ?_
 exact(eO (v:= .num k) (a9L h)).trans rfl
theorem b3Y (k:Nat)(x:Str)(h:numIn x.cps.toList=some k):rowIn ["stance",x]= .ok (Row8.stance k).vals:=by
 refine(lA (nf:=["number"]) (m:="") (by decide +kernel)).trans ?_
 exact(eO (v:= .num k) (a9L h)).trans rfl
theorem b9T:rowIn ["bits","0","400"]= .ok (Row8.bits 0 400).vals:=by
 refine(lA (nf:=["number","end"]) (m:="") (by decide +kernel)).trans ?_
 refine(eO (v:= .num 0) (a9L (by decide +kernel))).trans ?_
 exact(eO (v:= .num 400) (c6G (by decide +kernel))).trans rfl
theorem b9S:rowIn ["hand","1","5","7"]= .ok (Row8.hand 1 5 [7]).vals:=by
 refine(lA (nf:=["number","number"]) (m:="number") (by decide +kernel)).trans ?_
 refine(eO (v:= .num 1) (a9L (by decide +kernel))).trans ?_
 refine(eO (v:= .num 5) (a9L (by decide +kernel))).trans ?_
 exact(eO (v:= .num 7) (a9L (by decide +kernel))).trans rfl
theorem b9M {x:Str}{r:List Str}{row:Row8}(h:rowIn (x::r)= .ok row.vals)(hl:r.length<=13)(hn:∀n,row≠ .run n):row.small:=by
 have h1:=c1Y h hl
 cases row with
 | rail v cs=>
  have h2:(cs.map fun c=>Vl.cho c.1 c.2).length+1<=13:=h1
  rw[Ya]at h2
  exact Yn (Nat.le_of_succ_le h2) (by decide)
 | hand k n ds=>
  have h2:((k::n::ds).map Vl.num).length<=13:=h1
  rw[Ya]at h2
  have h3:ds.length+1+1<=13:=h2
  show ds.length<=90
  omega
 | thing k n g ds=>
  have h2:((k::n::g::ds).map Vl.num).length<=13:=h1
  rw[Ya]at h2
  have h3:ds.length+1+1+1<=13:=h2
  show ds.length<=90
  omega
 |run n=>exact absurd rfl (hn n)
 |_=>trivial
theorem a9A {k:Nat}:∀row':Row8,row'.key="waits"->row'.vals=(Row8.waits k).vals->row'= .waits k:=fun row h1 h2=>by
 cases row with
 |waits a=>cases h2;rfl
 |_=>exact absurd h1 (by simp only[Row8.key];decide)
theorem b3U {k:Nat}:∀row':Row8,row'.key="stance"->row'.vals=(Row8.stance k).vals->row'= .stance k:=fun row h1 h2=>by
 cases row with
 |stance a=>cases h2;rfl
 |_=>exact absurd h1 (by simp only[Row8.key];decide)
theorem b9H {k e:Nat}:∀row':Row8,row'.key="bits"->row'.vals=(Row8.bits k e).vals->row'= .bits k e:=fun row h1 h2=>by
 cases row with
 |bits a b=>cases h2;rfl
 |_=>exact absurd h1 (by simp only[Row8.key];decide)
theorem b6M:∀{ds ds':List Nat},ds.map Vl.num=ds'.map Vl.num->ds=ds'
 |[], [],_=>rfl
 |[],_::_,h=>by cases h
 |_::_, [],h=>by cases h
 | c::cs,c'::cs',h=>by
  rw[Yo,Yo]at h
  injection h with h1 h2
  injection h1 with h3
  rw[b6M h2,h3]
theorem b9G {k n:Nat}{ds:List Nat}:∀row':Row8,row'.key="hand"->row'.vals=(Row8.hand k n ds).vals->row'= .hand k n ds:=fun row h1 h2=>by
 cases row with
 | hand a b c=>
  have:=b6M (show (a::b::c).map Vl.num=(k::n::ds).map Vl.num from h2)
  cases this
  rfl
 |_=>exact absurd h1 (by simp only[Row8.key];decide)
/-- behind the frame handed -/
theorem c7V:frsT [(5, [7])]="5:7":=by
 show Txt.join " " [num 5++":"++Txt.join "." [num 7]]=_
 rw[show num 5=txt (dgs 5) from a9D 5,show num 7=txt (dgs 7) from a9D 7,yC (by decide),yC (by decide)]
 decide +kernel
theorem c7H:∃R,deskP (some R82) [] (.hand 1 5 [7])= .ok ("ok",some R, [])/\Z83 R 1/\deskP (some R) [] (.waits 1)= .ok ("5:7",some R, []):=by
 have eS:R82.ps[1]? =some (S0 0 0 1):=rfl
 have eh:=a2B (R:=R82) (k:=1) (n:=5) (ds:=[7]) eS ⟨by decide,by decide,by decide⟩ rfl
 refine⟨_,wN.2 _ eh,z82.hand eh,?_⟩
 have:=uU (R:={ R82 with ps:=R82.ps.set 1 { S0 0 0 1 with wt:=(S0 0 0 1).wt++[(5, [7])] },ow:=putK R82.ow (.inl ((5:Nat):Int)) (.int ((1:Nat):Int)) }) (wp:=[]) (k:=1) (f:=fun S=>frsT S.wt) (S:={ S0 0 0 1 with wt:=(S0 0 0 1).wt++[(5, [7])] }) rfl
 refine Eq.trans this ?_
 show Except.ok (frsT [(5, [7])],_,_)=_
 rw[c7V]
theorem c6Y {c A B:Prop}[Decidable c](hc:¬ c)(h:A):if (!decide c)=true then A else B:=by rw[Yi hc];exact c6Z h
theorem c7A {c A B:Prop}[Decidable c](hc:c)(h:B):if (!decide c)=true then A else B:=by rw[Yk hc];exact c7B h
theorem c6H:deskP (some R82) [] (.stance 1)= .ok ("free 0",some R82, []):=by
 have:=uU (R:=R82) (wp:=[]) (k:=1) (f:=fun S=>S.now.shown.1++" "++num S.now.shown.2) (S:=S0 0 0 1) rfl
 refine Eq.trans this ?_
 show Except.ok (("free":Str)++" "++num 0,_,_)=_
 rw[show num 0=txt (dgs 0) from a9D 0,yC (by decide),show ("free":Str)++" "++txt [48+0]="free 0" from by decide +kernel]
def stB (s:Stmt)(i:Nat):Stmt:=(defBody s).getD i (.Pass ⟨0,0,0,0⟩)

abbrev FB (P:Program)(w:World)(K:W.Frag)(mg:Str->Option Value)(base:Heap)(CX:CXT)(k:Nat)(nm:Str)(a:Addr)(d:FuncData)(ps:List Str)(sp:Sp):Prop:=FnOk P w K mg base CX k a d ps sp/\Binds K d ps []/\W.keepIn K (.ref a)=true/\mg nm=some (.ref a)
abbrev MB (P:Program)(w:World)(K:W.Frag)(mg:Str->Option Value)(base:Heap)(CX:CXT)(k:Nat)(a:Addr)(d:FuncData)(ps:List Str)(sp:Sp):Prop:=FnOk P w K mg base CX k a d ps sp/\Binds K d ps []
abbrev FL (K:W.Frag)(f:Addr)(n q:Str)(st:Stmt)(oc:Value)(od:Option Addr)(kV dc pm:Value)(an:Option Addr)(cd ct:Value)(sl:Array (Option Value)):Prop:=K.lookup f=some ⟨oc,od,.func (W.fnOf n q (defArgs st) (defBody st) (defScope st) .none kV dc pm an cd ct),sl⟩
structure GFm (K:W.Frag)(mg:Str->Option Value)(nm:Str)(st:Stmt)(f:Addr)(d:FuncData):Prop where
 F:Fun K nm nm st f d
 m:mg nm=some (.ref f)
def GF (K:W.Frag)(mg:Str->Option Value)(nm:Str)(st:Stmt)(f:Addr):Prop:=∃d,GFm K mg nm st f d
def MF (K:W.Frag)(C:Addr)(x q:Str)(st:Stmt)(f:Addr):Prop:=W.findIn K (.ref C) x=some (some (.ref f))/\∃d,Fun K x q st f d
theorem gf_mk {K:W.Frag}{h:Heap}{mg:Str->Option Value}{nm:Str}{st:Stmt}{f:Addr}{oc kV dc pm cd ct:Value}{od an:Option Addr}{sl:Array (Option Value)}(X:K.In h)(G:h.Ns mainGlobals mg)(a:W.nsIn K mainGlobals nm=some (some (.ref f)))(l:FL K f nm nm st oc od kV dc pm an cd ct sl)(c:W.codeIn K cd nm=true)(k:W.keepIn K (.ref f)=true):GF K mg nm st f:=⟨_,c0X l c k,W.mg_of X G a⟩
theorem mf_mk {K:W.Frag}{C:Addr}{x q:Str}{st:Stmt}{f:Addr}{oc kV dc pm cd ct:Value}{od an:Option Addr}{sl:Array (Option Value)}(a:W.findIn K (.ref C) x=some (some (.ref f)))(l:FL K f x q st oc od kV dc pm an cd ct sl)(c:W.codeIn K cd q=true)(k:W.keepIn K (.ref f)=true):MF K C x q st f:=⟨a,_,c0X l c k⟩
abbrev HB (x q:Str)(st:Stmt)(ps:List Str):Prop:=∀(kV doc pm:Value)(an:Option Addr)(cdv ct:Value)(us:List Value),us.length=ps.length->bindArgs (W.fnOf x q (defArgs st) (defBody st) (defScope st) .none kV doc pm an cdv ct) ⟨us, []⟩=pure (ps.zip us)
theorem bi1 {d:FuncData}{a:Str}(h:∀u,bindArgs d ⟨[u], []⟩=pure [(a,u)]):∀us:List Value,us.length= [a].length->bindArgs d ⟨us, []⟩=pure ([a].zip us):=by
 intro us hl
 rcases us with _ | ⟨u,_ | ⟨w_,l_⟩⟩
 ·simp at hl
 ·exact h u
 ·simp at hl
theorem bi2 {d:FuncData}{a b:Str}(h:∀u v,bindArgs d ⟨[u,v], []⟩=pure [(a,u),(b,v)]):∀us:List Value,us.length= [a,b].length->bindArgs d ⟨us, []⟩=pure ([a,b].zip us):=by
 intro us hl
 rcases us with _ | ⟨u,_ | ⟨v,_ | ⟨w_,l_⟩⟩⟩
 ·simp at hl
 ·simp at hl
 ·exact h u v
 ·simp at hl
theorem bi3 {d:FuncData}{a b c:Str}(h:∀u v x,bindArgs d ⟨[u,v,x], []⟩=pure [(a,u),(b,v),(c,x)]):∀us:List Value,us.length= [a,b,c].length->bindArgs d ⟨us, []⟩=pure ([a,b,c].zip us):=by
 intro us hl
 rcases us with _ | ⟨u,_ | ⟨v,_ | ⟨x,_ | ⟨w_,l_⟩⟩⟩⟩
 ·simp at hl
 ·simp at hl
 ·simp at hl
 ·exact h u v x
 ·simp at hl
theorem bi4 {d:FuncData}{a b c e:Str}(h:∀u v x y,bindArgs d ⟨[u,v,x,y], []⟩=pure [(a,u),(b,v),(c,x),(e,y)]):∀us:List Value,us.length= [a,b,c,e].length->bindArgs d ⟨us, []⟩=pure ([a,b,c,e].zip us):=by
 intro us hl
 rcases us with _ | ⟨u,_ | ⟨v,_ | ⟨x,_ | ⟨y,_ | ⟨w_,l_⟩⟩⟩⟩⟩
 ·simp at hl
 ·simp at hl
 ·simp at hl
 ·simp at hl
 ·exact h u v x y
 ·simp at hl
theorem sco {N ps:List Str}{sc:Scope}(h1:sc.kind= .function/\sc.isCoroutine=false/\sc.isGenerator=false)(h2:N.Nodup/\N.take ps.length=ps/\(∀x∈ps,sc.names.lookup x=some .local\/sc.names.lookup x=some .cell)/\∀y∈sc.names,y.2≠ .free):FnScope N ps sc:=⟨h1.1,h1.2.1,h1.2.2,h2.1,h2.2.1,h2.2.2.1,h2.2.2.2⟩
section
variable {P:Program}{w:World}{K:W.Frag}{mg:Str->Option Value}{base:Heap}{CX:CXT}{x q:Str}{st:Stmt}{f:Addr}{fd:FuncData}{ps:List Str}{k:Nat}{sp:Sp}
theorem mbM (N:List Str)(F:Fun K x q st f fd)(g:FnScope N ps (defScope st)->FnOk P w K mg base CX k f fd ps sp)(S:FnScope N ps (defScope st):=by exact sco ⟨rfl,rfl,rfl⟩ (by decide +kernel))
  (hb:HB x q st ps:=by first | exact fun _ _ _ _ _ _=>bi1 fun _=>rfl | exact fun _ _ _ _ _ _=>bi2 fun _ _=>rfl | exact fun _ _ _ _ _ _=>bi3 fun _ _ _=>rfl | exact fun _ _ _ _ _ _=>bi4 fun _ _ _ _=>rfl | exact fun _ _ _ _ _ _=>bi5 fun _ _ _ _ _=>rfl | exact fun _ _ _ _ _ _=>bi6 fun _ _ _ _ _ _=>rfl | exact fun _ _ _ _ _ _=>bi7 fun _ _ _ _ _ _ _=>rfl | exact fun _ _ _ _ _ _=>bi0 rfl):MB P w K mg base CX k f fd ps sp:=⟨g S,F.binds hb⟩
theorem fbM (N:List Str)(F:GFm K mg x st f fd)(g:FnScope N ps (defScope st)->FnOk P w K mg base CX k f fd ps sp)(S:FnScope N ps (defScope st):=by exact sco ⟨rfl,rfl,rfl⟩ (by decide +kernel))
  (hb:HB x x st ps:=by first | exact fun _ _ _ _ _ _=>bi1 fun _=>rfl | exact fun _ _ _ _ _ _=>bi2 fun _ _=>rfl | exact fun _ _ _ _ _ _=>bi3 fun _ _ _=>rfl | exact fun _ _ _ _ _ _=>bi4 fun _ _ _ _=>rfl | exact fun _ _ _ _ _ _=>bi5 fun _ _ _ _ _=>rfl | exact fun _ _ _ _ _ _=>bi6 fun _ _ _ _ _ _=>rfl | exact fun _ _ _ _ _ _=>bi7 fun _ _ _ _ _ _ _=>rfl | exact fun _ _ _ _ _ _=>bi0 rfl):FB P w K mg base CX k x f fd ps sp:=⟨g S,F.F.binds hb,F.F.kp,F.m⟩
theorem mbK (N:List Str)(F:Fun K x q st f fd)(hbody:∀{cdv:Value}{A:Around}{outer:List Env}{s:Shared}{vs:List V}{E:XK}(H:Hp)(Q:VK),N.Nodup->Room k (A.deeper (PyProof.Rows.envOfC q (defScope st) s.heap.objs.size f cdv))->sp vs H Q E->∃t,PSs (cxOf CX0 P w K mg base N q (defScope st) f cdv A outer s H E).nox (defBody st) t/\t { nx:=fun _ H'=>Q .non H',rt:=Q } (start N vs) H)(len:∀(vs:List V)(H:Hp)(Q:VK)(E:XK),sp vs H Q E->vs.length=ps.length:=by intro _ _ _ _ h;repeat (first | (obtain⟨rfl,_⟩:=h;exact rfl) | obtain⟨_,h⟩:=h))(S:FnScope N ps (defScope st):=by exact sco ⟨rfl,rfl,rfl⟩ (by decide +kernel))
  (hb:HB x q st ps:=by first | exact fun _ _ _ _ _ _=>bi1 fun _=>rfl | exact fun _ _ _ _ _ _=>bi2 fun _ _=>rfl | exact fun _ _ _ _ _ _=>bi3 fun _ _ _=>rfl | exact fun _ _ _ _ _ _=>bi4 fun _ _ _ _=>rfl | exact fun _ _ _ _ _ _=>bi5 fun _ _ _ _ _=>rfl | exact fun _ _ _ _ _ _=>bi6 fun _ _ _ _ _ _=>rfl | exact fun _ _ _ _ _ _=>bi7 fun _ _ _ _ _ _ _=>rfl | exact fun _ _ _ _ _ _=>bi0 rfl):MB P w K mg base CX0 (k+1) f fd ps sp:=⟨F.ok S len fun _ _ _ _ _ _ _ _ hr=>hbody _ _ S.nd hr,F.binds hb⟩
theorem fbK (N:List Str)(F:GFm K mg x st f fd)(hbody:∀{cdv:Value}{A:Around}{outer:List Env}{s:Shared}{vs:List V}{E:XK}(H:Hp)(Q:VK),N.Nodup->Room k (A.deeper (PyProof.Rows.envOfC x (defScope st) s.heap.objs.size f cdv))->sp vs H Q E->∃t,PSs (cxOf CX0 P w K mg base N x (defScope st) f cdv A outer s H E).nox (defBody st) t/\t { nx:=fun _ H'=>Q .non H',rt:=Q } (start N vs) H)(len:∀(vs:List V)(H:Hp)(Q:VK)(E:XK),sp vs H Q E->vs.length=ps.length:=by intro _ _ _ _ h;repeat (first | (obtain⟨rfl,_⟩:=h;exact rfl) | obtain⟨_,h⟩:=h))(S:FnScope N ps (defScope st):=by exact sco ⟨rfl,rfl,rfl⟩ (by decide +kernel))
  (hb:HB x x st ps:=by first | exact fun _ _ _ _ _ _=>bi1 fun _=>rfl | exact fun _ _ _ _ _ _=>bi2 fun _ _=>rfl | exact fun _ _ _ _ _ _=>bi3 fun _ _ _=>rfl | exact fun _ _ _ _ _ _=>bi4 fun _ _ _ _=>rfl | exact fun _ _ _ _ _ _=>bi5 fun _ _ _ _ _=>rfl | exact fun _ _ _ _ _ _=>bi6 fun _ _ _ _ _ _=>rfl | exact fun _ _ _ _ _ _=>bi7 fun _ _ _ _ _ _ _=>rfl | exact fun _ _ _ _ _ _=>bi0 rfl):FB P w K mg base CX0 (k+1) x f fd ps sp:=⟨F.F.ok S len fun _ _ _ _ _ _ _ _ hr=>hbody _ _ S.nd hr,F.F.binds hb,F.F.kp,F.m⟩
end
section
variable (P:Program)(w:World){K:W.Frag}(mg:Str->Option Value)(base:Heap)(CA:Cs)
variable {qD xG a3G uM tY pK pJ vA tX rD rE uZ a6O tV wQ uK tM uY rB uV pI uW qY tR wO rA qZ tU uX a0L uL b7F wZ xF a0J a6M a0K a6N uJ a3F rG tW wY rP uG pG mD lZ pD lY rQ pH a9H rR vC rH wU xJ uN qC vO a0M xH tO mF tQ uO b7E kE lQ bI qF aY bA aZ jJ bL lO cG jT c5W a9I bF a3H a3I dZ:Addr}
variable {a0E a2J a7Q yG a0H wM wL a2R a0G yN yO a2Q b0N a0D a5E yE wH a2P yM a2M wK a2N yJ a0B a5D yL yK a0C a2O a5B yF c1M a2H a2I a4W b0L a5A b0M yD a7P yP a0F a2D a4X a7O a2F zZ zY a2E zX a4Y a2G b3E a4Z a2S yQ a5F a2L yH uF a0A a5C a2K wI rO wJ yI c1L:FuncData}
variable {t_HIGHEST_BYTE t_PIECE_BYTES t_MOST_BYTES_things t_KEY t_CHECK_BITS t_NAME_BITS t_HIGHEST_NAME t_MOST_ALIKE t_SIZE_AT t_SIZE_BITS t_DATA_AT t_BYTE_BITS t_MOST_BYTES_frames t_GREAT_FAULT t_SMALL_FAULT t_QUIET_FROM t_OFF_FROM t_ANSWER_AT t_VOTES_AT t_FLAG_BITS t_REST_TURNS t_QUIET_TURNS t_DUEL_BITS t_MOST_POSTS t_STRIP_BITS t_FIGURES t_SIGNS t_MOST_FIGURES t_MOST_TURNS t_MOST_BITS:Tok}
variable (lM:mg "NoRow"=some (.ref cG))
variable (oF:mg "HIGHEST_BYTE"=some (.int 255 t_HIGHEST_BYTE))
variable (oE:mg "HIGHEST_NAME"=some (.int 255 t_HIGHEST_NAME))
variable (bJ:mg "NoFrame"=some (.ref aY))
variable (iU:mg "MOST_BYTES_frames"=some (.int 7 t_MOST_BYTES_frames))
variable (wC:mg "OFF_FROM"=some (.int 18 t_OFF_FROM))
variable (vL:mg "VOTES"=some (.ref a9I))
variable (aV:mg "NoPost"=some (.ref bA))
variable (a6F:mg "Count"=some (.ref CA.count))
variable (b0E:mg "Free"=some (.ref CA.free))
variable (sU:mg "MOST_POSTS"=some (.int 5 t_MOST_POSTS))
variable (b0D:mg "Post"=some (.ref CA.post))
variable (cC:mg "Rail"=some (.ref bF))
variable (cH:mg "NoName"=some (.ref bI))
variable (gK:mg "PIECE_BYTES"=some (.int 5 t_PIECE_BYTES))
variable (bK:mg "NoThing"=some (.ref aZ))
variable (iT:mg "MOST_BYTES_things"=some (.int 75 t_MOST_BYTES_things))
variable (nZ:mg "MOST_FIGURES"=some (.int 6 t_MOST_FIGURES))
variable (sS:mg "MOST_TURNS"=some (.int 2000 t_MOST_TURNS))
variable (uT:mg "MOST_BITS"=some (.int 400 t_MOST_BITS))
variable (sO:mg "STRIP_BITS"=some (.int 40 t_STRIP_BITS))
variable (vM:mg "FORMS"=some (.ref a3H))
variable (oA:mg "Joiner"=some (.ref jT))
variable (dW:mg "Desk"=some (.ref dZ))
variable (cN:mg "NoRail"=some (.ref bL))
variable (pY:mg "ANSWERS"=some (.ref a3I))
variable (nY:mg "RailError"=some (.ref kE))
variable (wD:mg "NoWire"=some (.ref lO))
variable (uE:mg "NoStrip"=some (.ref jJ))
variable (zU:mg "NoKey"=some (.ref qF))
variable (wF:mg "NoBits"=some (.ref lQ))
variable (b4G:mg "Speaks"=some (.ref CA.speaks))
variable (b6O:mg "Reads"=some (.ref CA.reads))
variable (b4I:mg "InTail"=some (.ref CA.intail))
variable (b0F:mg "Flagging"=some (.ref CA.flag))
variable (b1S:mg "Settles"=some (.ref CA.settles))
variable (b6N:mg "Rests"=some (.ref CA.rests))
variable (c3N:mg "Off"=some (.ref CA.off))
variable (b4H:mg "Reader"=some (.ref CA.reader))
variable (b4F:mg "Streak"=some (.ref CA.streak))
variable (b0C:mg "ReadTail"=some (.ref CA.rtail))
variable (a8D:mg "SpeakTail"=some (.ref CA.stail))
variable (a8C:mg "all"=none)
variable (cO:mg "len"=none)
variable (nW:mg "list"=none)
variable (b4E:mg "max"=none)
variable (fG:mg "range"=none)
variable (uR:mg "int"=none)
variable (jG:mg "str"=none)
variable (b4D:mg "min"=none)
variable (dR:mg "isinstance"=none)
variable (sJ:mg "ValueError"=none)
variable (b0B:mg "bool"=none)
variable (oK:TupK K a9I [1,3,5])
variable (tH:ExcC K cG)
variable (qU:ExcC K bL)
variable (qW:ExcC K bA)
variable (pC:ExcC K aY)
variable (qX:ExcC K bI)
variable (pB:ExcC K aZ)
variable (cB:Cls K CA.count)
variable (dY:Cls K CA.free)
variable (aO:Cls K CA.post)
variable (qO:Mk K CA.count tY)
variable (sZ:Mk K CA.free vA)
variable (aF:Cls K bF)
variable (sY:Mk K CA.post uY)
variable (bV:Cls K jT)
variable (oX:Mk K jT rG)
variable (aM:Cls K dZ)
variable (sX:Mk K bF uV)
variable (tD:Mk K dZ vC)
variable (eV:Meth K CA.count "is_off" pK)
variable (eQ:Meth K CA.count "number" pJ)
variable (iK:Meth K CA.free "shown" tX)
variable (aP:Meth K bF "post_at" pI)
variable (jE:Meth K CA.post "hand" uZ)
variable (fW:Meth K CA.post "stance" rB)
variable (iI:Meth K CA.post "waits" tV)
variable (jR:Meth K CA.post "got" wQ)
variable (fY:Meth K CA.post "faults" rE)
variable (fX:Meth K CA.post "is_off" rD)
variable (iJ:Meth K jT "end" tW)
variable (dG:Meth K bF "hand" uW)
variable (dN:Meth K bF "got" wO)
variable (iG:Meth K bF "waits" tR)
variable (fV:Meth K bF "faults" rA)
variable (fQ:Meth K bF "stance" qY)
variable (fU:Meth K bF "is_off" qZ)
variable (iH:Meth K bF "heard" tU)
variable (jD:Meth K bF "bits" uX)
variable (fZ:Meth K dZ "put_up" rH)
variable (bT:Meth K dZ "say" wU)
variable (pA:CDict K w a3H kvF/\FormEnts K kvF formsL)
variable (tK:CDict K w a3I [(.inr "hand",.ref rP),(.inr "thing",.ref pH),(.inr "wrong",.ref pD),(.inr "run",.ref 1394),(.inr "bits",.ref rR),(.inr "draw",.ref rQ),(.inr "got",.ref uG),(.inr "waits",.ref pG),(.inr "things",.ref lY),(.inr "stance",.ref lZ),(.inr "faults",.ref mD)])
variable (cF:NoAttr K CA.count "total")
variable (dM:NoAttr K CA.free "since")
variable (cJ:NoAttr K CA.post "tally")
variable (cA:NoAttr K CA.post "waiting")
variable (cQ:NoAttr K CA.post "handed_up")
variable (iV:NoAttr K CA.post "choice")
variable (jN:NoAttr K CA.post "votes")
variable (eE:NoAttr K CA.post "now")
variable (dC:NoAttr K bF "posts")
variable (cY:NoAttr K bF "owners")
variable (dJ:NoAttr K bF "borne")
variable (gQ:NoAttr K bF "sayings")
variable (cW:NoAttr K bF "hearings")
variable (fH:NoAttr K bF "happened")
variable (cX:NoAttr K jT "opened")
variable (jO:NoAttr K jT "tag")
variable (iW:NoAttr K jT "many")
variable (jP:NoAttr K jT "had")
variable (fJ:NoAttr K jT "joined")
variable (dU:NoAttr K jT "broken_tag")
variable (aL:NoAttr K dZ "rail")
variable (cL:NoAttr K dZ "wrong")
variable (gG:W.excIn K aY [.type "ValueError",.type "Exception",.type "BaseException",.type "object"] "ValueError.__new__"=true)
variable (cI:W.excIn K bA [.type "ValueError",.type "Exception",.type "BaseException",.type "object"] "ValueError.__new__"=true)
variable (nG:W.excIn K bI [.type "ValueError",.type "Exception",.type "BaseException",.type "object"] "ValueError.__new__"=true)
variable (gF:W.excIn K aZ [.type "ValueError",.type "Exception",.type "BaseException",.type "object"] "ValueError.__new__"=true)
variable (nF:W.excIn K bL [.type "ValueError",.type "Exception",.type "BaseException",.type "object"] "ValueError.__new__"=true)
variable (qN:W.findIn K (.ref cG) "__setattr__"=some (some (.builtin "object.__setattr__")))
variable (jH:W.findIn K (.ref cG) "word"=some none)
variable (lB:W.isFn K (.ref qD)=true)
variable (qT:W.hasDictIn K cG=true)
variable (eN:excInit K cG qD [.type "ValueError",.type "Exception",.type "BaseException",.type "object"] "ValueError.__new__"=true)
variable (sW:W.kitOne K (.ref cG) (.type "ValueError")=some true)
variable (jQ:W.kitOne K (.ref cG) (.ref cG)=some true)
variable (iY:W.kitOne K (.ref cG) (.ref bL)=some false)
variable (iZ:W.kitOne K (.ref cG) (.ref bA)=some false)
variable (qM:W.kitAny K (.ref cG) [.ref lQ,.ref aY,.ref qF,.ref bI]=some false)
variable (qL:W.kitAny K (.ref cG) [.ref jJ,.ref aZ,.ref lO]=some false)
variable (qI:W.kitOne K (.ref bL) (.type "ValueError")=some true)
variable (jA:W.kitOne K (.ref bL) (.ref cG)=some false)
variable (gU:W.kitOne K (.ref bL) (.ref bL)=some true)
variable (gW:W.kitOne K (.ref bL) (.ref bA)=some false)
variable (oR:W.kitAny K (.ref bL) [.ref lQ,.ref aY,.ref qF,.ref bI]=some false)
variable (oM:W.kitAny K (.ref bL) [.ref jJ,.ref aZ,.ref lO]=some false)
variable (qJ:W.kitOne K (.ref bA) (.type "ValueError")=some true)
variable (jB:W.kitOne K (.ref bA) (.ref cG)=some false)
variable (gY:W.kitOne K (.ref bA) (.ref bL)=some false)
variable (gZ:W.kitOne K (.ref bA) (.ref bA)=some true)
variable (oU:W.kitAny K (.ref bA) [.ref lQ,.ref aY,.ref qF,.ref bI]=some false)
variable (oN:W.kitAny K (.ref bA) [.ref jJ,.ref aZ,.ref lO]=some false)
variable (oJ:W.kitOne K (.ref aY) (.type "ValueError")=some true)
variable (iD:W.kitOne K (.ref aY) (.ref cG)=some false)
variable (fO:W.kitOne K (.ref aY) (.ref bL)=some false)
variable (fP:W.kitOne K (.ref aY) (.ref bA)=some false)
variable (nD:W.kitAny K (.ref aY) [.ref lQ,.ref aY,.ref qF,.ref bI]=some true)
variable (mZ:W.kitAny K (.ref aY) [.ref jJ,.ref aZ,.ref lO]=some false)
variable (qK:W.kitOne K (.ref bI) (.type "ValueError")=some true)
variable (jC:W.kitOne K (.ref bI) (.ref cG)=some false)
variable (iB:W.kitOne K (.ref bI) (.ref bL)=some false)
variable (iC:W.kitOne K (.ref bI) (.ref bA)=some false)
variable (oW:W.kitAny K (.ref bI) [.ref lQ,.ref aY,.ref qF,.ref bI]=some true)
variable (oO:W.kitAny K (.ref bI) [.ref jJ,.ref aZ,.ref lO]=some false)
variable (oH:W.kitOne K (.ref aZ) (.type "ValueError")=some true)
variable (gR:W.kitOne K (.ref aZ) (.ref cG)=some false)
variable (fK:W.kitOne K (.ref aZ) (.ref bL)=some false)
variable (fM:W.kitOne K (.ref aZ) (.ref bA)=some false)
variable (nC:W.kitAny K (.ref aZ) [.ref lQ,.ref aY,.ref qF,.ref bI]=some false)
variable (mY:W.kitAny K (.ref aZ) [.ref jJ,.ref aZ,.ref lO]=some true)
variable (tG:W.exmOne K (.ref cG) (.ref kE)=some true)
variable (qP:W.exmOne K (.ref bL) (.ref kE)=some true)
variable (qQ:W.exmOne K (.ref bA) (.ref kE)=some true)
variable (oZ:W.exmOne K (.ref aY) (.ref kE)=some true)
variable (qR:W.exmOne K (.ref bI) (.ref kE)=some true)
variable (oY:W.exmOne K (.ref aZ) (.ref kE)=some true)
set_option maxHeartbeats 4000000
-- vars end
-- def NoRow_init
variable (fC:MB P w K mg base (CX0) 1 qD a0E ["self","word"] (spInit cG "word"))
include lM qN jH eN in
theorem a3R (F0:Fun K "__init__" "NoRow.__init__" zJ qD a0E):type_of% fC:=by
 refine mbK ["self","word"] F0 fun H Q nd hr h=>?_
 obtain⟨e,t,n,rfl,he,q⟩:=h
 refine⟨_,(aJ (c2H (dv 0) (dv 1) rfl)),?_⟩
 refine⟨e,cG,t,rfl,he,⟨⟨_,_,eN⟩,qN,jH⟩,fun dx h1 h2=>?_⟩
 exact q dx h1 h2
-- def are_bytes
variable (bQ:FB P w K mg base (CX0) 1 "are_bytes" xG a2J ["numbers"] (spBytes K))
include oF a8C in
theorem a5T (F0:GFm K mg "are_bytes" a0Z xG a2J):type_of% bQ:=by
 refine fbK ["numbers"] F0 fun H Q nd hr h=>?_
 obtain⟨a,ns,rfl,hS,hl,q⟩:=h
 refine⟨_,(aJ (aW (bR (c3G rfl) rfl a8C c1R (aA (rK rfl (ix:=[]) (c4Y (dv 0)) (fun C fp s0 H0 at0=>rJ) (fun C fp s0 H0 at0=>(a9Z a8Y a8Y aH (dv 0) (dH (v:= .int 255) rfl oF ⟨_,rfl⟩))) rfl rfl (by rfl) (show ([".0","number"]:List Str).Nodup by decide +kernel)) aB)))),?_⟩
 refine c1P hS (fun i ys=>ys=((ns.take i).map byt).map V.bl) ?_ rfl ?_ ?_
 ·rintro i ys hi rfl
  refine nQ ?_
  rw[Ya,Ya,YT]
  omega
 ·rintro i x ys hx rfl
  obtain⟨hi,rfl⟩:=b6U hx
  conv=>whnf
  refine oG (fun c=>⟨?_,rfl⟩) (fun c=>⟨?_,rfl⟩)
  ·have c1:(0:Int)<=ns[i]:=dec_true c
   rw[YJ hi,Yu,Yu]
   show _++[V.bl (decide (ns[i]<=255))]=_++[V.bl (byt ns[i])]
   unfold byt
   rw[Yk c1,Bool.true_and]
  ·have c1:¬ (0:Int)<=ns[i]:=dec_false c
   rw[YJ hi,Yu,Yu]
   show _++[V.bl false]=_++[V.bl (byt ns[i])]
   unfold byt
   rw[Yi c1,Bool.false_and]
 rintro ys rfl p hp
 rw[Ya,YD (Ye _)]
 refine⟨ns.map byt,SqL.of aK,?_⟩
 have e:(ns.map byt).all id=ns.all byt:=by rw[List.all_map];rfl
 rw[e]
 exact q _ (aX hp _)
-- def is_name
variable (qG:FB P w K mg base (CX0) 1 "is_name" a3G a7Q ["number"] (spByt))
include oE in
theorem a9W (F0:GFm K mg "is_name" a7F a3G a7Q):type_of% qG:=by
 refine fbK ["number"] F0 fun H Q nd hr h=>?_
 obtain⟨n,rfl,q⟩:=h
 refine⟨_,(aJ (aW (a9Z a8Y a8Y aH (dv 0) (dH (v:= .int 255) rfl oE ⟨_,rfl⟩)))),?_⟩
 conv=>whnf
 refine oG (fun c=>?_) (fun c=>?_)
 ·have c1:(0:Int)<=n:=dec_true c
  show Q (.bl (decide (n<=255))) H
  have e:decide (n<=255)=byt n:=by unfold byt;rw[Yk c1,Bool.true_and]
  rw[e];exact q
 ·have c1:¬ (0:Int)<=n:=dec_false c
  show Q (.bl false) H
  have e:false=byt n:=by unfold byt;rw[Yi c1,Bool.false_and]
  rw[e];exact q
-- def check_frame
variable (cU:FB P w K mg base (CXR P w) 2 "check_frame" uM yG ["name","data"] (spChkF K aY))
include bJ iU cO gG bQ qG in
theorem a1N (F0:GFm K mg "check_frame" xO uM yG):type_of% cU:=by
 refine fbM ["name","data"] F0 fun Sc0=>F0.F.okR Sc0 (fun vs H Q E h=>?_) fun cdv A outer s H vs Q E hr h=>?_
 ·obtain⟨n,a,ds,rfl,_⟩:=h
  rfl
 obtain⟨n,a,ds,rfl,hS,hl,q1,q2⟩:=h
 have nd:=Sc0.nd
 refine⟨_,(aD (cM (sH (lX (bB qG.1 hr.mo rfl qG.2.2.2 qG.2.2.1 qG.2.1 .nil bU (aA (dv 0) aB)))) (aJ (mW YF bJ gG (aA aR aB))) bC) (aD (cM (bH a4K (bR nH rfl cO iM (aA (dv 1) aB)) (dH (v:= .int 7) rfl iU ⟨_,rfl⟩) (bG _)) (aJ (mW YF bJ gG (aA aR aB))) bC) (aJ (cM (sH (lX (bB bQ.1 hr.mo rfl bQ.2.2.2 bQ.2.2.1 bQ.2.1 .nil bU (aA (dv 1) aB)))) (aJ (mW YF bJ gG (aA aR aB))) bC)))),?_⟩
 refine⟨n,rfl,?_⟩
 conv=>whnf
 refine oG (fun c=>?_) (fun c=>?_)
 ·have c1:¬ byt n=true:=fun z=>by
   have:(!byt n)=true:=c
   rw[z]at this;cases this
  exact⟨aN rfl,q2 (c0H (.inl c1)) _ (Same.refl _)⟩
 have c1:byt n=true:=by
  cases e:byt n with
  |true=>rfl
  |false=>exact absurd (show (!byt n)=true by rw[e];rfl) c
 refine⟨_,.inl hS,?_⟩
 rw[Ya]
 conv=>whnf
 refine oG (fun z=>?_) (fun z=>?_)
 ·have z1:(7:Int)<((ds.length:Nat):Int):=dec_true z
  exact⟨aN rfl,q2 (c0H (.inr (.inl (by omega)))) _ (Same.refl _)⟩
 have z1:¬ (7:Int)<((ds.length:Nat):Int):=dec_false z
 refine⟨a,ds,rfl,.inl hS,hl,fun H1 g1=>?_⟩
 conv=>whnf
 refine oG (fun y=>?_) (fun y=>?_)
 ·have y1:¬ ds.all byt=true:=fun z=>by
   have:(!ds.all byt)=true:=y
   rw[z]at this;cases this
  exact⟨aN rfl,q2 (fun h=>y1 h.2.2) _ g1⟩
 ·have y1:ds.all byt=true:=by
   cases e:ds.all byt with
   |true=>rfl
   |false=>exact absurd (show (!ds.all byt)=true by rw[e];rfl) y
  exact q1 ⟨c1,by omega,y1⟩ _ g1
-- def Count_init
variable (mV:MB P w K mg base (CX0) 1 tY a0H ["self"] (spCtInit CA.count))
include cB cF in
theorem a3U (F0:Fun K "__init__" "Count.__init__" zM tY a0H):type_of% mV:=by
 refine mbK ["self"] F0 fun H Q nd hr h=>?_
 obtain⟨a,dx,rfl,ha,q⟩:=h
 refine⟨_,(aJ (jF cB cF (dv 0) aH)),?_⟩
 exact⟨dx, [],ha,by decide,q⟩
-- def Count_is_off
variable (jX:MB P w K mg base (CX0) 1 pK wM ["self"] (spCtB CA.count 18))
include wC cB cF in
theorem a0S (F0:Fun K "is_off" "Count.is_off" vZ pK wM):type_of% jX:=by
 refine mbK ["self"] F0 fun H Q nd hr h=>?_
 obtain⟨a,n,rfl,⟨dx,ha⟩,q⟩:=h
 refine⟨_,(aJ (aW (pX c3Z (fD cB cF (dv 0)) (dH (v:= .int 18) rfl wC ⟨_,rfl⟩) (bG _)))),?_⟩
 exact⟨dx,_,.int n,ha,rfl,q⟩
-- def Count_number
variable (jW:MB P w K mg base (CX0) 1 pJ wL ["self"] (spCtN CA.count))
include cB cF in
theorem a0R (F0:Fun K "number" "Count.number" vY pJ wL):type_of% jW:=by
 refine mbK ["self"] F0 fun H Q nd hr h=>?_
 obtain⟨a,n,rfl,⟨dx,ha⟩,q⟩:=h
 refine⟨_,(aJ (aW (fD cB cF (dv 0)))),?_⟩
 exact⟨dx,_,.int n,ha,rfl,q⟩
-- def Free_init
variable (pU:MB P w K mg base (CX0) 1 vA a2R ["self","since"] (spIni1 CA.free "since"))
include dY dM in
theorem a6B (F0:Fun K "__init__" "Free.__init__" a1G vA a2R):type_of% pU:=by
 refine mbK ["self","since"] F0 fun H Q nd hr h=>?_
 obtain⟨a,dx,v,rfl,e,q⟩:=h
 refine⟨_,(aJ (jF dY dM (dv 0) (dv 1))),?_⟩
 exact⟨dx, [],e,by decide,q _ rfl⟩
-- def Free_shown
variable (mR:MB P w K mg base (CX0) 1 tX a0G ["self"] (spShown CA 0))
include dY dM in
theorem a3T (F0:Fun K "shown" "Free.shown" zL tX a0G):type_of% mR:=by
 refine mbK ["self"] F0 fun H Q nd hr h=>?_
 obtain⟨nw,S,o,rfl,tg,st,q⟩:=h
 refine⟨_,(aJ (aW (gC (aA aR (aA (fD dY dM (dv 0)) aB))))),?_⟩
 obtain⟨sa,on,al⟩:=id st
 cases en:S.now with
 | free k=>
  rw[en]at sa
  obtain⟨dx,e⟩:=sa
  refine⟨dx,_,_,e,rfl,aN rfl,fun t ht=>q t _ ht (aX ht _) ?_⟩
  rw[aK,en]
  rfl
 |speaks n ds k=>rw[en]at tg;cases tg
 |reads h=>rw[en]at tg;cases tg
 |tlS v c=>rw[en]at tg;cases tg
 |tlR n ds v c=>rw[en]at tg;cases tg
 |flag l m=>rw[en]at tg;cases tg
 |settles m=>rw[en]at tg;cases tg
 |rests l=>rw[en]at tg;cases tg
 |off  =>rw[en]at tg;cases tg
-- def Post_is_off
variable (lH:MB P w K mg base (CX0) 2 rD yN ["self"] (spBdB CA 18))
include cB aO eV cJ jX in
theorem a1U (F0:Fun K "is_off" "Post.is_off" xW rD yN):type_of% lH:=by
 refine mbK ["self"] F0 fun H Q nd hr h=>?_
 obtain⟨p,nwf,S,o,rfl,⟨dx,ch,wl,ul,ct,ws,us,b⟩,q⟩:=h
 refine⟨_,(aJ (aW (qH cB eV jX.1 hr.mo jX.2 .nil bU (fD aO cJ (dv 0))))),?_⟩
 obtain⟨dc,ec⟩:=b.et
 exact⟨dx,_,.ref ct,b.e,rfl,⟨dc,_,ec,rfl⟩,ct,S.tot,rfl,⟨dc,ec⟩,q⟩
-- def Post_faults
variable (lJ:MB P w K mg base (CX0) 2 rE yO ["self"] (spBdN CA))
include cB aO eQ cJ jW in
theorem a1V (F0:Fun K "faults" "Post.faults" xX rE yO):type_of% lJ:=by
 refine mbK ["self"] F0 fun H Q nd hr h=>?_
 obtain⟨p,nwf,S,o,rfl,⟨dx,ch,wl,ul,ct,ws,us,b⟩,q⟩:=h
 refine⟨_,(aJ (aW (qH cB eQ jW.1 hr.mo jW.2 .nil bU (fD aO cJ (dv 0))))),?_⟩
 obtain⟨dc,ec⟩:=b.et
 exact⟨dx,_,.ref ct,b.e,rfl,⟨dc,_,ec,rfl⟩,ct,S.tot,rfl,⟨dc,ec⟩,q⟩
-- def Post_hand
variable (pR:MB P w K mg base (CXR P w) 3 uZ a2Q ["self","name","data"] (spHand K CA aY))
include bJ nW aO cA cU in
theorem a6A (F0:Fun K "hand" "Post.hand" a1F uZ a2Q):type_of% pR:=by
 refine mbM ["self","name","data"] F0 fun Sc0=>F0.okR Sc0 (fun vs H Q E h=>?_) fun cdv A outer s H vs Q E hr h=>?_
 ·obtain⟨p,nwf,S,o,n,a,ds,rfl,_⟩:=h
  rfl
 obtain⟨p,nwf,S,o,n,a,ds,rfl,bd,hS,hl,hw,q1,q2⟩:=h
 have nd:=Sc0.nd
 refine⟨_,(aD (jY (bB cU.1 hr.mo rfl cU.2.2.2 cU.2.2.1 cU.2.1 .nil (lN fun _ _ _ z=>z) (aA (dv 1) (aA (dv 2) aB)))) (aJ (jY (vQ (fD aO cA (dv 0)) (aA (gC (aA (dv 1) (aA (cP a5H rfl nW a6J (aA (dv 2) aB)) aB))) aB))))),?_⟩
 refine⟨n,a,ds,rfl,hS,hl,fun ok H1 g1=>?_,fun no H1 g1=>q2 no H1 g1⟩
 obtain⟨dx,ch,wl,ul,ct,ws,us,b⟩:=bd.move (H':=H1) fun x v e _=>g1 x v e
 refine⟨dx,_,.ref wl,b.e,rfl,⟨_,SqL.of b.ew⟩,_,.inl (g1.seq hS),fun d hd=>?_⟩
 have g2:=aX hd (.lst (ds.map V.int))
 have e2:=aK (H:=H1) (a:=d) (o:= .lst (ds.map V.int))
 generalize upd H1 d (.lst (ds.map V.int))=H2 at g2 e2
 refine⟨aN rfl,fun t ht=>?_⟩
 have g3:=aX ht (.tup [.int n,.ref d])
 have e3:=aK (H:=H2) (a:=t) (o:= .tup [.int n,.ref d])
 generalize upd H2 t (.tup [.int n,.ref d])=H3 at g3 e3
 have g13:=g2.trans g3
 have nd_:¬ o d:=fun z=>b.al d z hd
 have b3:=b.move (H':=H3) fun x v e _=>g13 x v e
 have hwl:=b.fw.len
 refine⟨_,b3.ew,nQ (by omega),?_⟩
 obtain⟨k1,k2,k3,k4,k5,k6⟩:=c0R (ys:=ws++[.ref t]) b3 (.inl rfl)
 have nwl:d≠wl:=fun z=>nd_ (z▸b.ow)
 have nul:d≠ul:=fun z=>nd_ (z▸b.ou)
 have en:((n.toNat:Nat):Int)=n:=by
  have:=uI.mp ok.1
  omega
 refine q1 ok _ d (g1.none hd) ⟨dx,ch,wl,ul,ct,ws++[.ref t],us,k2.trans b3.e,k3.trans b3.ec,aK,?_,by rw[aQ (Ne.symm b.ne)];exact b3.eu,(k5 b3.fu).imp (fun x v e _=>e) (fun x z=>⟨.inl z.1,z.2⟩),(let ⟨d,e⟩:=b3.et;⟨d,k4.trans e⟩),.inl b.op,.inl b.ow,.inl b.ou,.inl b.ot,b.ne,fun x hx=>?_⟩ (fun x v e z=>k1 x v (g13 x v (g1 x v e)) z)
 ·refine((k5 b3.fw).imp (fun x v e _=>e) (fun x z=>⟨.inl z.1,z.2⟩)).snoc ⟨d,?_,by rw[aQ nwl];exact g3 _ _ e2,.inr rfl,nwl,nul⟩
  show _=some (HO.tup [.int ((n.toNat:Nat):Int),.ref d])
  rw[en]
  exact k1.tup e3
 ·rcases hx with hx | hx
  ·exact k6 x hx
  ·have hx':x=d:=hx
   rw[hx',aQ nwl,g3 _ _ e2];simp
-- def copies
variable (jU:FB P w K mg base (CX0) 1 "copies" a6O b0N ["frames"] (spCopies K))
include nW in
theorem b1O (F0:GFm K mg "copies" a9R a6O b0N):type_of% jU:=by
 refine fbK ["frames"] F0 fun H Q nd hr h=>?_
 obtain⟨a,ts,fs,o,rfl,e,hF,hl,q⟩:=h
 refine⟨_,(aJ (aW (rK rfl (ix:=[]) (sI (dv 0)) (fun C fp s0 H0 at0=>rJ) (fun C fp s0 H0 at0=>(gC (aA (cD (b2M (K:=K)) (dv 0) aH (fun _ _=>rfl)) (aA (cP (b7I (K:=K)) rfl nW a6J (aA (cD (b2M (K:=K)) (dv 0) aH (fun _ _=>rfl)) aB)) aB)))) rfl rfl (by rfl) (show ([".0","frame"]:List Str).Nodup by decide +kernel)))),?_⟩
 have tl:=hF.len
 refine⟨⟨_,SqL.of e⟩,pZ (xs:=ts) (fun i ys H'=>Same H H'/\FrsNew H H' ys (fs.take i)) ?_ ⟨Same.refl _,.nil⟩ (fun i ys H' _ z=>SqL.of (z.1 _ _ e)) ?_ ?_⟩
 ·rintro i ys H' hi ⟨_,n⟩
  refine nQ ?_
  rw[n.len,YT]
  omega
 ·rintro i x ys H' hx ⟨g,n⟩
  obtain⟨t,f,rfl,hf,d,e1,e2,e3⟩:=hF.get hx
  refine⟨_,_,SqT.of (g _ _ e1),rfl,_,_,SqT.of (g _ _ e1),rfl,_,.inl (SqL.of (g _ _ e2)),fun d' hd'=>?_⟩
  have g2:=aX hd' (.lst (f.2.map V.int))
  have e5:=aK (H:=H') (a:=d') (o:= .lst (f.2.map V.int))
  generalize upd H' d' (.lst (f.2.map V.int))=H2 at g2 e5
  refine⟨aN rfl,fun t' ht'=>?_⟩
  have g3:=aX ht' (.tup [.int ((f.1:Nat):Int),.ref d'])
  refine⟨g.trans (g2.trans g3),?_⟩
  have hi:i<fs.length:=(Yc.mp hf).1
  have ef:fs[i]=f:=(Yc.mp hf).2
  rw[YJ hi,ef]
  exact FrsNew.snoc ((g.trans g2).none ht') (g.none hd') aK (g3 _ _ e5) (n.same (g2.trans g3))
 rintro ys H' ⟨g,n⟩ l hl'
 have g2:=aX hl' (.lst ys)
 rw[tl,YD (Ye _)]at n
 exact q l ys _ (g.none hl') (g.trans g2) aK (n.same g2)
-- def Post_waits
variable (mO:MB P w K mg base (CX0) 2 tV a0D ["self"] (spWaits CA))
include aO cA jU in
theorem a3Q (F0:Fun K "waits" "Post.waits" zH tV a0D):type_of% mO:=by
 refine mbK ["self"] F0 fun H Q nd hr h=>?_
 obtain⟨p,nwf,S,o,rfl,⟨dx,ch,wl,ul,ct,ws,us,b⟩,hl,q⟩:=h
 refine⟨_,(aJ (aW (bB jU.1 hr.mo rfl jU.2.2.2 jU.2.2.1 jU.2.1 .nil bU (aA (fD aO cA (dv 0)) aB)))),?_⟩
 exact⟨dx,_,.ref wl,b.e,rfl,wl,ws,S.wt,_,rfl,b.ew,b.fw,hl,q⟩
-- def Post_got
variable (rT:MB P w K mg base (CX0) 2 wQ a5E ["self"] (spGot CA))
include aO cQ jU in
theorem a8A (F0:Fun K "got" "Post.got" a4S wQ a5E):type_of% rT:=by
 refine mbK ["self"] F0 fun H Q nd hr h=>?_
 obtain⟨p,nwf,S,o,rfl,⟨dx,ch,wl,ul,ct,ws,us,b⟩,hl,q⟩:=h
 refine⟨_,(aJ (aW (bB jU.1 hr.mo rfl jU.2.2.2 jU.2.2.1 jU.2.1 .nil bU (aA (fD aO cQ (dv 0)) aB)))),?_⟩
 exact⟨dx,_,.ref ul,b.e,rfl,ul,us,S.up,_,rfl,b.eu,b.fu,hl,q⟩
-- def check_votes
variable (gM:FB P w K mg base (CXR P w) 1 "check_votes" uK yE ["votes"] (spVotes bA))
include vL aV oK cI in
theorem a1L (F0:GFm K mg "check_votes" xM uK yE):type_of% gM:=by
 refine fbM ["votes"] F0 fun Sc0=>F0.F.okR Sc0 (fun vs H Q E h=>?_) fun cdv A outer s H vs Q E hr h=>?_
 ·obtain⟨v,rfl,_⟩:=h
  rfl
 obtain⟨v,rfl,q1,q2⟩:=h
 have nd:=Sc0.nd
 refine⟨_,(aJ (cM (bH b9A (dv 0) (dH (v:= .ref a9I) rfl vL rfl) rfl) (aJ (mW YF aV cI (aA aR aB))) bC)),?_⟩
 refine⟨[1,3,5],.inr (oK.sq H),?_⟩
 conv=>whnf
 refine oG (fun c=>?_) (fun c=>?_)
 ·refine⟨aN rfl,q2 fun z=>?_⟩
  have c1:(!decide (v∈ [(1:Int),3,5]))=true:=c
  rw[(b1R v).mpr z]at c1
  cases c1
 ·refine q1 ((b1R v).mp ?_)
  cases e:decide (v∈ [(1:Int),3,5]) with
  |true=>rfl
  |false=>exact absurd (show (!decide (v∈ [(1:Int),3,5]))=true by rw[e];rfl) c
-- def check_choice
variable (eY:FB P w K mg base (CXR P w) 2 "check_choice" tM wH ["choice"] (spChoice K bA))
include aV cI bQ in
theorem a0N (F0:GFm K mg "check_choice" vU tM wH):type_of% eY:=by
 refine fbM ["choice"] F0 fun Sc0=>F0.F.okR Sc0 (fun vs H Q E h=>?_) fun cdv A outer s H vs Q E hr h=>?_
 ·obtain⟨a,ns,rfl,_⟩:=h
  rfl
 obtain⟨a,ns,rfl,hS,hl,q1,q2⟩:=h
 have nd:=Sc0.nd
 refine⟨_,(aJ (cM (sH (lX (bB bQ.1 hr.mo rfl bQ.2.2.2 bQ.2.2.1 bQ.2.1 .nil bU (aA (dv 0) aB)))) (aJ (mW YF aV cI (aA aR aB))) bC)),?_⟩
 refine⟨a,ns,rfl,.inr hS,hl,fun H1 g1=>?_⟩
 conv=>whnf
 refine oG (fun c=>?_) (fun c=>?_)
 ·have c1:¬ ns.all byt=true:=fun z=>by
   have:(!ns.all byt)=true:=c
   rw[z]at this;cases this
  exact⟨aN rfl,q2 c1 _ g1⟩
 ·have c1:ns.all byt=true:=by
   cases e:ns.all byt with
   |true=>rfl
   |false=>exact absurd (show (!ns.all byt)=true by rw[e];rfl) c
  exact q1 c1 _ g1
-- def Post_init
variable (pQ:MB P w K mg base (CXR P w) 4 uY a2P ["self","choice","votes"] (spPostInit K CA bA))
include vL aV a6F b0E aO qO sZ cJ cA cQ iV jN eE mV pU gM eY in
theorem a5Z (F0:Fun K "__init__" "Post.__init__" a1E uY a2P):type_of% pQ:=by
 refine mbM ["self","choice","votes"] F0 fun Sc0=>F0.okR Sc0 (fun vs H Q E h=>?_) fun cdv A outer s H vs Q E hr h=>?_
 ·obtain⟨a,dx,ch,m1,m2,v,rfl,_⟩:=h
  rfl
 obtain⟨a,dx,ch,m1,m2,v,rfl,e,ec,q1,q2⟩:=h
 have nd:=Sc0.nd
 refine⟨_,(aD (jY (bB eY.1 hr.mo rfl eY.2.2.2 eY.2.2.1 eY.2.1 .nil (lN fun _ _ _ z=>z) (aA (dv 1) aB))) (aD (jY (bB gM.1 hr.mo rfl gM.2.2.2 gM.2.2.1 gM.2.1 .nil (lN fun _ _ _ z=>z) (aA (dv 2) aB))) (aD (jF aO iV (dv 0) (dv 1)) (aD (jF aO jN (dv 0) (dv 2)) (aD (jF aO cA (dv 0) (jL aB)) (aD (jF aO cQ (dv 0) (jL aB)) (aD (jF aO cJ (dv 0) (a9T qO mV.1 hr.mo rfl a6F mV.2 .nil bU)) (aJ (jF aO eE (dv 0) (b2T sZ pU.1 hr.mo rfl b0E pU.2 .nil bU (aA aH aB))))))))))),?_⟩
 refine⟨ch, [m1,m2],rfl,SqT.of ec,(show 2<=500 by decide),fun hm H1 g1=>?_,fun no H1 g1=>?_⟩
 rotate_left
 ·refine q2 (fun ok=>no ?_) H1 fun x u _ h=>g1 x u h
  rw[Y3,Y3,List.all_nil,ok.1,ok.2.1];rfl
 rw[Y3,Y3,List.all_nil,Bool.and_true,YC]at hm
 refine⟨v,rfl,fun hv=>?_,fun no=>q2 (fun ok=>no ok.2.2) H1 fun x u _ h=>g1 x u h⟩
 have ea:=g1 _ _ e
 refine⟨dx, [],ea,by decide,?_⟩
 refine⟨dx,_,aK,(show 1<1000 by decide),?_⟩
 rw[c1U]
 have m1_:Mid H a (.ins CA.post dx [("choice",.ref ch),("votes",.int v)]) [] (upd H1 a (.ins CA.post dx (putF "votes" (.int v) (putF "choice" (.ref ch) [])))):=⟨aK,fun x u hx h=>by rw[aQ hx];exact g1 x u h,(fun _ z=>nomatch z),List.nodup_nil⟩
 generalize upd H1 a _=Ha at m1_
 refine⟨aN rfl,fun wl hwl=>?_⟩
 have m2_:=m1_.add hwl (aX hwl (.lst [])) aK
 generalize upd Ha wl (.lst [])=Hb at m2_
 refine⟨dx,_,m2_.ea,(show 2<1000 by decide),?_⟩
 have m3_:Mid H a (.ins CA.post dx [("choice",.ref ch),("votes",.int v),("waiting",.ref wl)]) _ (upd Hb a (.ins CA.post dx (putF "waiting" (.ref wl) [("choice",.ref ch),("votes",.int v)]))):=m2_.set _
 generalize upd Hb a _=Hb2 at m3_
 refine⟨aN rfl,fun ul hul=>?_⟩
 have m4_:=m3_.add hul (aX hul (.lst [])) aK
 generalize upd Hb2 ul (.lst [])=Hc at m4_
 refine⟨dx,_,m4_.ea,(show 3<1000 by decide),?_⟩
 have m5_:Mid H a (.ins CA.post dx [("choice",.ref ch),("votes",.int v),("waiting",.ref wl),("handed_up",.ref ul)]) _ (upd Hc a (.ins CA.post dx (putF "handed_up" (.ref ul) [("choice",.ref ch),("votes",.int v),("waiting",.ref wl)]))):=m4_.set _
 generalize upd Hc a _=Hc2 at m5_
 refine fun ct dc hct hdc hne=>⟨ct,dc,rfl,aK,rfl,?_⟩
 have m6_:=m5_.add hct (b1K (C:=CA.count) (fs:=ctF 0) hct hdc) aK
 generalize upd (upd (upd Hc2 dc (.own ct)) ct (.ins CA.count dc [])) ct (.ins CA.count dc (ctF 0))=Hd at m6_
 refine⟨dx,_,m6_.ea,(show 4<1000 by decide),?_⟩
 have m7_:Mid H a (.ins CA.post dx [("choice",.ref ch),("votes",.int v),("waiting",.ref wl),("handed_up",.ref ul),("tally",.ref ct)]) _ (upd Hd a (.ins CA.post dx (putF "tally" (.ref ct) [("choice",.ref ch),("votes",.int v),("waiting",.ref wl),("handed_up",.ref ul)]))):=m6_.set _
 generalize upd Hd a _=Hd2 at m7_
 refine fun nw dn hnw hdn hne2=>⟨nw,dn,_,rfl,aK,fun H2 eH=>⟨rfl,?_⟩⟩
 have m8_:=m7_.add (Hy:=H2) hnw (by rw[eH];exact b1K hnw hdn) (by rw[eH];exact aK)
 clear eH
 refine⟨dx,_,m8_.ea,(show 5<1000 by decide),?_⟩
 have m9_:=m8_.set (.ins CA.post dx (pF ch v.toNat wl ul ct nw))
 have ev:v=((v.toNat:Nat):Int):=by omega
 have eF:(HO.ins CA.post dx (putF "now" (.ref nw) [("choice",.ref ch),("votes",.int v),("waiting",.ref wl),("handed_up",.ref ul),("tally",.ref ct)]))= .ins CA.post dx (pF ch v.toNat wl ul ct nw):=by
  show HO.ins CA.post dx [("choice",.ref ch),("votes",.int v),("waiting",.ref wl),("handed_up",.ref ul),("tally",.ref ct),("now",.ref nw)]=_
  rw[ev,Xi]
 rw[eF]
 generalize upd H2 a _=Hz at m9_
 have hnw':=m9_.nw (nw,_) (.head _)
 have hct':=m9_.nw (ct,_) (.tail _ (.head _))
 have hul':=m9_.nw (ul,_) (.tail _ (.tail _ (.head _)))
 have hwl':=m9_.nw (wl,_) (.tail _ (.tail _ (.tail _ (.head _))))
 have nd9:=m9_.nd
 have nwu:wl≠ul:=fun z=>by
  rw[z]at nd9
  exact absurd nd9 (by simp)
 have nch:ch≠a:=fun z=>by rw[z,e]at ec;cases ec
 have hb1:=uI.mp hm.1
 have hb2:=uI.mp hm.2
 have ec1:((m1.toNat:Nat):Int)=m1:=by omega
 have ec2:((m2.toNat:Nat):Int)=m2:=by omega
 refine q1 ⟨hm.1,hm.2,hv⟩ Hz (fun x=>(x=a\/x=wl\/x=ul\/x=ct)\/x=nw) ⟨nw,fun x=>x=a\/x=wl\/x=ul\/x=ct,fun x=>x=nw,⟨dx,ch,wl,ul,ct, [], [],m9_.ea,?_,hwl'.2.2,.nil,hul'.2.2,.nil,⟨dc,hct'.2.2⟩,.inl rfl,.inr (.inl rfl),.inr (.inr (.inl rfl)),.inr (.inr (.inr rfl)),nwu,?_⟩,c1W hnw'.2.2 ⟨dn,hnw'.2.2⟩,?_,⟨?_,(fun _ z=>nomatch z),trivial⟩,fun x hx=>hx,?_⟩ ?_ ?_
 ·show Hz ch=some (.tup [.int ((m1.toNat:Nat):Int),.int ((m2.toNat:Nat):Int)])
  rw[ec1,ec2]
  exact m9_.kp ch _ nch ec
 ·rintro x (rfl | rfl | rfl | rfl)
  ·rw[m9_.ea];simp
  ·rw[hwl'.2.2];simp
  ·rw[hul'.2.2];simp
  ·rw[hct'.2.2];simp
 ·rintro x hx hy
  have hy':x=nw:=hy
  rcases hx with rfl | rfl | rfl | rfl
  ·exact hnw'.2.1 hy'.symm
  ·rw[hy']at nd9;exact absurd nd9 (by simp)
  ·rw[hy']at nd9;exact absurd nd9 (by simp)
  ·rw[hy']at nd9;exact absurd nd9 (by simp)
 ·show v.toNat<=5
  omega
 ·rintro x ((rfl | rfl | rfl | rfl) | rfl)
  ·rw[m9_.ea];simp
  ·rw[hwl'.2.2];simp
  ·rw[hul'.2.2];simp
  ·rw[hct'.2.2];simp
  ·rw[hnw'.2.2];simp
 ·rintro x ((rfl | rfl | rfl | rfl) | rfl)
  ·exact .inl rfl
  ·exact .inr hwl'.1
  ·exact .inr hul'.1
  ·exact .inr hct'.1
  ·exact .inr hnw'.1
 ·exact m9_.kp
-- def Post_stance
variable (lG:MB P w K mg base (CX0) 3 rB yM ["self"] (spPoShown0 CA))
include dY aO iK eE mR in
theorem a1T (F0:Fun K "stance" "Post.stance" xV rB yM):type_of% lG:=by
 refine mbK ["self"] F0 fun H Q nd hr h=>?_
 obtain⟨p,S,o,k,rfl,en,⟨nw,ob,os,bd,st,dj,wf,inc,al⟩,q⟩:=h
 refine⟨_,(aJ (aW (qH dY iK mR.1 hr.mo mR.2 .nil bU (fD aO eE (dv 0))))),?_⟩
 obtain⟨dp,ch,wl,ul,ct,ws,us,b⟩:=id bd
 have sa:=st.at_
 rw[en]at sa
 obtain⟨dd,hS⟩:=sa
 exact⟨dp,_,.ref nw,b.e,rfl,⟨dd,_,hS,rfl⟩,nw,S,os,rfl,(by rw[en];rfl),st,fun t H' h1 h2 h3=>q t H' h1 h2 (by rw[en]at h3;exact h3)⟩
-- def Rail_init
variable (pO:MB P w K mg base (CXR P w) 9 uV a2M ["self","choices","votes"] (spRlInit bF CA bA))
include vL aV sU b0D cC cO aF sY dC cY dJ gQ cW fH cI pQ in
theorem a5W (F0:Fun K "__init__" "Rail.__init__" a1B uV a2M):type_of% pO:=by
 refine mbM ["self","choices","votes"] F0 fun Sc0=>F0.okR Sc0 (fun vs H Q E h=>?_) fun cdv A outer s H vs Q E hr h=>?_
 ·obtain⟨a,dx,cl,v,ms,rfl,_⟩:=h
  rfl
 obtain⟨a,dx,cl,v,ms,rfl,ea,hC,hl,q1,q2⟩:=h
 have nd:=Sc0.nd
 refine⟨_,(aD (cM (sH (a9Y a8Y a8Y aH (bR nH rfl cO iM (aA (dv 1) aB)) (dH (v:= .int 5) rfl sU ⟨_,rfl⟩))) (aJ (mW YF aV cI (aA aR aB))) bC) (aD (jF aF dC (dv 0) (rK rfl (ix:=[2]) (sI (dv 1)) (fun C fp s0 H0 at0=>rJ) (fun C fp s0 H0 at0=>(b2T sY pQ.1 hr.mo rfl b0D pQ.2 .nil (c6L (fun _ _ _ z=>z) at0) (aA (dv 0) (aA (dv 1) aB)))) rfl rfl (by rfl) (show ([".0","choice","votes"]:List Str).Nodup by decide +kernel))) (aD (jF aF cY (dv 0) c0A) (aD (jF aF dJ (dv 0) (jL aB)) (aD (jF aF gQ (dv 0) (rK rfl (ix:=[]) (sI (dv 1)) (fun C fp s0 H0 at0=>rJ) (fun C fp s0 H0 at0=>(jL aB)) rfl rfl (by rfl) (show ([".0","choice"]:List Str).Nodup by decide +kernel))) (aD (jF aF cW (dv 0) (rK rfl (ix:=[]) (sI (dv 1)) (fun C fp s0 H0 at0=>rJ) (fun C fp s0 H0 at0=>(jL aB)) rfl rfl (by rfl) (show ([".0","choice"]:List Str).Nodup by decide +kernel))) (aJ (jF aF fH (dv 0) (jL aB))))))))),?_⟩
 obtain⟨ts,ecl,tl,tt⟩:=hC
 have hcla:cl≠a:=fun z=>by rw[z,ea]at ecl;cases ecl
 have hta:∀(i:Nat)(t:Addr)(m:Int×Int),ts[i]? =some t->ms[i]? =some m->t≠a:=fun i t m h1 h2 z=>by have:=tt i t m h1 h2;rw[z,ea]at this;cases this
 refine⟨_,.inl (SqL.of ecl),?_⟩
 rw[Ya,tl]
 conv=>whnf
 refine oG (fun c=>?_) (fun c=>?_)
 rotate_left
 ·have c1:¬ (1:Int)<=((ms.length:Nat):Int):=dec_false c
  exact⟨aN rfl,q2 (fun z=>c1 (by have:=z.1.1;omega)) _ fun x u _ h=>h⟩
 have c1:(1:Int)<=((ms.length:Nat):Int):=dec_true c
 conv=>whnf
 refine oG (fun d=>?_) (fun d=>?_)
 ·have d1:¬ ((ms.length:Nat):Int)<=5:=fun z=>by
   have d2:(!decide (((ms.length:Nat):Int)<=5))=true:=d
   rw[Yk z]at d2
   cases d2
  exact⟨aN rfl,q2 (fun z=>d1 (by have:=z.1.2;omega)) _ fun x u _ h=>h⟩
 have d1:((ms.length:Nat):Int)<=5:=Decidable.byContradiction fun z=>d (by
  show (!decide (((ms.length:Nat):Int)<=5))=true
  rw[Yi z];rfl)
 have l5:ms.length<=5:=by omega
 refine⟨⟨_,SqL.of ecl⟩,pZ (xs:=ts.map V.ref) (fun i ys H'=>∃(ps:List Addr)(op:Own),ys=ps.map V.ref/\ps.length=i/\Mk0 CA H a H' [(a,.ins bF dx [])] ps ((ms.take i).map fun m=>S0 m.1.toNat m.2.toNat v.toNat) op/\∀m∈ms.take i,PoOk m.1 m.2 v) ?_ ?_ ?_ ?_ ?_⟩
 ·rintro i ys H' hi ⟨ps,op,rfl,hp,_⟩
  rw[Ya]at hi ⊢
  exact nQ (by omega)
 ·exact⟨[],_,rfl,rfl,Mk0.base ea,fun m hm=>by simp at hm⟩
 ·rintro i ys H' hi ⟨ps,op,rfl,hp,mk,_⟩
  exact SqL.of (mk.kp _ _ hcla ecl)
 ·rintro i x ys H' hx ⟨ps,op,rfl,hp_,mk,hok⟩
  rw[Yq]at hx
  obtain⟨t,ht,rfl⟩:=Yt.mp hx
  have hil:i<ms.length:=by rw[<-tl];exact(Yc.mp ht).1
  have hm:ms[i]? =some ms[i]:=Yh hil
  have et:=mk.kp _ _ (hta i t _ ht hm) (tt i t _ ht hm)
  have tk:ms.take (i+1)=ms.take i++[ms[i]]:=YJ hil
  conv=>whnf
  refine fun p dp hp hdp hne=>⟨p,dp,t,_,_,v,rfl,aK,(by rw[aQ (bO et hp),aQ (bO et hdp)];exact et),fun ok H5 o hP hin hk=>⟨rfl,ps++[p],Or2 op o,by rw[Yu];rfl,by rw[Yj,hp_];rfl,?_,?_⟩,fun no H5 hk=>?_⟩
  ·rw[tk,Yu]
   exact mk.post hp hdp hP hin hk
  ·rw [tk]
   intro m hm'
   rcases YX.mp hm' with z | z
   ·exact hok m z
   ·rw[Yx]at z
    rw[z];exact ok
  ·refine q2 (fun z=>no (z.2 _ (Y7 hil))) H5 fun x u hx h=>?_
   have h':=mk.kp x u hx h
   exact hk x u (bO h' hp) (by rw[aQ (bO h' hp),aQ (bO h' hdp)];exact h')
 rintro ys H1 ⟨ps,op,rfl,hp_,mk,hok⟩ PL hPL
 rw[Ya,tl,YD (Ye _)]at mk hok
 have mk1:=Mk0.ins (L1:=[(a,.ins bF dx [])]) (L2:=[]) (v:= .lst (ps.map V.ref)) (by simpa using mk) hPL
 refine⟨dx,_,mk1.cs.at_ 0 _ rfl,by decide,?_⟩
 have nI:∀{C d:Addr}{fs:List (Str×V)},¬ isT (.ins C d fs):=fun ⟨_,z⟩=>by cases z
 have mk2:=mk1.put (v':= .ins bF dx (putF "posts" (.ref PL) [])) nI
 generalize upd (upd H1 PL _) a _=H2 at mk2
 intro OW hOW
 have mk3:=Mk0.ins (L1:=(a,.ins bF dx [("posts",.ref PL)])::(PL,.lst (ps.map V.ref))::[]) (L2:=[]) (v:= .dK []) mk2 hOW
 refine⟨dx,_,mk3.cs.at_ 0 _ rfl,(show 1<1000 by decide),?_⟩
 have mk4:=mk3.put (v':= .ins bF dx (putF "owners" (.ref OW) [("posts",.ref PL)])) nI
 generalize upd (upd H2 OW _) a _=H3 at mk4
 refine⟨aN rfl,fun BO hBO=>?_⟩
 have mk5:=Mk0.ins (L1:=(a,.ins bF dx [("posts",.ref PL),("owners",.ref OW)])::(PL,.lst (ps.map V.ref))::(OW,.dK [])::[]) (L2:=[]) (v:= .lst []) mk4 hBO
 refine⟨dx,_,mk5.cs.at_ 0 _ rfl,(show 2<1000 by decide),?_⟩
 have mk6:=mk5.put (v':= .ins bF dx (putF "borne" (.ref BO) [("posts",.ref PL),("owners",.ref OW)])) nI
 generalize upd (upd H3 BO _) a _=H4 at mk6
 obtain⟨o3,ho3⟩:∃o3:HO,o3= .ins bF dx [("posts",.ref PL),("owners",.ref OW),("borne",.ref BO)]:=⟨_,rfl⟩
 have mk6':Mk0 CA H a H4 ((a,o3)::(PL,.lst (ps.map V.ref))::(OW,.dK [])::(BO,.lst [])::[]) ps (ms.map fun m=>S0 m.1.toNat m.2.toNat v.toNat) op:=by rw[ho3];exact mk6
 clear mk mk1 mk2 mk3 mk4 mk5 mk6
 refine⟨⟨_,SqL.of (mk6'.kp _ _ hcla ecl)⟩,pZ (xs:=ts.map V.ref) (fun i ys H'=>∃sas:List Addr,ys=sas.map V.ref/\sas.length=i/\Mk0 CA H a H' ((a,o3)::(PL,.lst (ps.map V.ref))::(OW,.dK [])::(BO,.lst [])::lsC sas (List.replicate i [])) ps (ms.map fun m=>S0 m.1.toNat m.2.toNat v.toNat) op) ?_ ?_ ?_ ?_ ?_⟩
 ·rintro i ys H' hi ⟨sas,rfl,hp,_⟩
  rw[Ya]at hi ⊢
  exact nQ (by omega)
 ·exact⟨[],rfl,rfl,mk6'⟩
 ·rintro i ys H' hi ⟨sas,rfl,hp,mk⟩
  exact SqL.of (mk.kp _ _ hcla ecl)
 ·rintro i x ys H' hx ⟨sas,rfl,hp,mk⟩
  conv=>whnf
  refine⟨aN rfl,fun s1 hs1=>⟨sas++[s1],by rw[Yu];rfl,by rw[Yj,hp];rfl,?_⟩⟩
  rw[b4J i hp]
  exact Mk0.ins (L1:=(a,o3)::(PL,.lst (ps.map V.ref))::(OW,.dK [])::(BO,.lst [])::lsC sas (List.replicate i [])) (L2:=[]) (by rw[Yz];exact mk) hs1
 rintro ys H5 ⟨sas,rfl,hsl,mk7⟩ SA hSA
 rw[Ya,tl]at hsl mk7
 have mk8:=Mk0.ins (L1:=(a,o3)::(PL,.lst (ps.map V.ref))::(OW,.dK [])::(BO,.lst [])::[]) (L2:=lsC sas (List.replicate ms.length [])) (v:= .lst (sas.map V.ref)) mk7 hSA
 subst ho3
 refine⟨dx,_,mk8.cs.at_ 0 _ rfl,(show 3<1000 by decide),?_⟩
 have mk9:=mk8.put (v':= .ins bF dx (putF "sayings" (.ref SA) [("posts",.ref PL),("owners",.ref OW),("borne",.ref BO)])) nI
 generalize upd (upd H5 SA _) a _=H6 at mk9
 obtain⟨o4,ho4⟩:∃o4:HO,o4= .ins bF dx [("posts",.ref PL),("owners",.ref OW),("borne",.ref BO),("sayings",.ref SA)]:=⟨_,rfl⟩
 have mk9':Mk0 CA H a H6 ((a,o4)::(PL,.lst (ps.map V.ref))::(OW,.dK [])::(BO,.lst [])::(SA,.lst (sas.map V.ref))::lsC sas (List.replicate ms.length [])) ps (ms.map fun m=>S0 m.1.toNat m.2.toNat v.toNat) op:=by rw[ho4];exact mk9
 clear mk6' mk7 mk8 mk9
 refine⟨⟨_,SqL.of (mk9'.kp _ _ hcla ecl)⟩,pZ (xs:=ts.map V.ref) (fun i ys H'=>∃hes:List Addr,ys=hes.map V.ref/\hes.length=i/\Mk0 CA H a H' ((a,o4)::(PL,.lst (ps.map V.ref))::(OW,.dK [])::(BO,.lst [])::(SA,.lst (sas.map V.ref))::(lsC sas (List.replicate ms.length [])++lsC hes (List.replicate i []))) ps (ms.map fun m=>S0 m.1.toNat m.2.toNat v.toNat) op) ?_ ?_ ?_ ?_ ?_⟩
 ·rintro i ys H' hi ⟨hes,rfl,hp,_⟩
  rw[Ya]at hi ⊢
  exact nQ (by omega)
 ·exact⟨[],rfl,rfl,by rw[show lsC [] (List.replicate 0 [])= [] from rfl,Yz];exact mk9'⟩
 ·rintro i ys H' hi ⟨hes,rfl,hp,mk⟩
  exact SqL.of (mk.kp _ _ hcla ecl)
 ·rintro i x ys H' hx ⟨hes,rfl,hp,mk⟩
  conv=>whnf
  refine⟨aN rfl,fun s1 hs1=>⟨hes++[s1],by rw[Yu];rfl,by rw[Yj,hp];rfl,?_⟩⟩
  rw[b4J i hp,<-Xx]
  exact Mk0.ins (L1:=(a,o4)::(PL,.lst (ps.map V.ref))::(OW,.dK [])::(BO,.lst [])::(SA,.lst (sas.map V.ref))::(lsC sas (List.replicate ms.length [])++lsC hes (List.replicate i []))) (L2:=[]) (by rw[Yz];exact mk) hs1
 rintro ys H7 ⟨hes,rfl,hhl,mk10⟩ HE hHE
 rw[Ya,tl]at hhl mk10
 have mk11:=Mk0.ins (L1:=(a,o4)::(PL,.lst (ps.map V.ref))::(OW,.dK [])::(BO,.lst [])::(SA,.lst (sas.map V.ref))::[]) (L2:=lsC sas (List.replicate ms.length [])++lsC hes (List.replicate ms.length [])) (v:= .lst (hes.map V.ref)) mk10 hHE
 subst ho4
 refine⟨dx,_,mk11.cs.at_ 0 _ rfl,(show 4<1000 by decide),?_⟩
 have mk12:=mk11.put (v':= .ins bF dx (putF "hearings" (.ref HE) [("posts",.ref PL),("owners",.ref OW),("borne",.ref BO),("sayings",.ref SA)])) nI
 generalize upd (upd H7 HE _) a _=H8 at mk12
 refine⟨aN rfl,fun EV hEV=>?_⟩
 have mk13:=Mk0.ins (L1:=(a,.ins bF dx [("posts",.ref PL),("owners",.ref OW),("borne",.ref BO),("sayings",.ref SA),("hearings",.ref HE)])::(PL,.lst (ps.map V.ref))::(OW,.dK [])::(BO,.lst [])::(SA,.lst (sas.map V.ref))::(HE,.lst (hes.map V.ref))::[]) (L2:=lsC sas (List.replicate ms.length [])++lsC hes (List.replicate ms.length [])) (v:= .lst []) mk12 hEV
 refine⟨dx,_,mk13.cs.at_ 0 _ rfl,(show 5<1000 by decide),?_⟩
 have mk14:=mk13.put (v':= .ins bF dx (putF "happened" (.ref EV) [("posts",.ref PL),("owners",.ref OW),("borne",.ref BO),("sayings",.ref SA),("hearings",.ref HE)])) nI
 generalize upd (upd H8 EV _) a _=H9 at mk14
 have mk15:Mk0 CA H a H9 (railL bF a ⟨dx,PL,OW,BO,SA,HE,EV,ps,sas,hes, [],op⟩ (R0 ms v)) ps (R0 ms v).ps op:=mk14
 obtain⟨o,hR,hn⟩:=mk15.fin hsl hhl l5
 exact q1 ⟨⟨by omega,l5⟩,hok⟩ H9 o hR hn mk15.kp
-- def Rail_post_at
variable (aU:MB P w K mg base (CXR P w) 1 pI wK ["self","post"] (spRlPost bF CA bA))
include aV cC cO aF dC cI in
theorem a0Q (F0:Fun K "post_at" "Rail.post_at" vX pI wK):type_of% aU:=by
 refine mbM ["self","post"] F0 fun Sc0=>F0.okR Sc0 (fun vs H Q E h=>?_) fun cdv A outer s H vs Q E hr h=>?_
 ·obtain⟨r,R,o,w,k,rfl,_⟩:=h
  rfl
 obtain⟨r,R,o,w,k,rfl,hR,q1,q2⟩:=h
 have nd:=Sc0.nd
 refine⟨_,(aD (cM (sH (a9Y a8Y b2L aH (dv 1) (bR nH rfl cO iM (aA (fD aF dC (dv 0)) aB)))) (aJ (mW YF aV cI (aA aR aB))) bC) (aJ (aW (cD cZ (fD aF dC (dv 0)) (dv 1) (fun _ _=>rfl))))),?_⟩
 conv=>whnf
 refine oG (fun c=>?_) (fun c=>?_)
 ·have c1:0<=k:=dec_true c
  refine⟨w.dx,_,.ref w.PL,hR.er,rfl,_,.inl (SqL.of hR.ePL),?_⟩
  rw[Ya,hR.pl]
  conv=>whnf
  refine oG (fun d=>?_) (fun d=>?_)
  ·have d1:¬ k<((R.ps.length:Nat):Int):=fun z=>by
    have d2:(!decide (k<((R.ps.length:Nat):Int)))=true:=d
    rw[Yk z]at d2
    cases d2
   exact⟨aN rfl,q2 (fun z=>d1 z.2) _ (Same.refl _)⟩
  ·have d1:k<((R.ps.length:Nat):Int):=Decidable.byContradiction fun z=>d (by
    show (!decide (k<((R.ps.length:Nat):Int)))=true
    rw[Yi z];rfl)
   obtain⟨i,rfl⟩:=Yr c1
   have hl:i<w.ps.length:=by rw[hR.pl];omega
   have hp:w.ps[i]? =some w.ps[i]:=Yh hl
   exact⟨w.dx,_,.ref w.PL,hR.er,rfl,_,_,SqL.of hR.ePL,bM (j:=i) (by rw[Yq,hp];rfl),q1 i _ rfl hp⟩
 ·have c1:¬ 0<=k:=dec_false c
  exact⟨aN rfl,q2 (fun z=>c1 z.1) _ (Same.refl _)⟩
-- def Rail_hand
variable (iQ:MB P w K mg base (CXR P w) 9 uW a2N ["self","post","name","data"] (spRlHand K bF CA bA aY bI))
include bJ aV cC cH aO aF aP jE cY nG cU pR aU in
theorem a5X (F0:Fun K "hand" "Rail.hand" a1C uW a2N):type_of% iQ:=by
 refine mbM ["self","post","name","data","taker"] F0 fun Sc0=>F0.okR Sc0 (fun vs H Q E h=>?_) fun cdv A outer s H vs Q E hr h=>?_
 ·obtain⟨r,R,o,w,k,n,a,ds,rfl,_⟩:=h
  rfl
 obtain⟨r,R,o,w,k,n,a,ds,rfl,hR,hS,hl,how,hwt,q1,q2,q3⟩:=h
 have nd:=Sc0.nd
 refine⟨_,(aD (bZ (i:=4) nd rfl (Or.inl rfl) (eG aF aP aU.1 hr.mo aU.2 .nil (lN fun _ _ _ z=>z) (dv 0) (aA (dv 1) aB))) (aD (jY (bB cU.1 hr.mo rfl cU.2.2.2 cU.2.2.1 cU.2.1 .nil (lN fun _ _ _ z=>z) (aA (dv 2) (aA (dv 3) aB)))) (aD (cM (bH b1A (c0B (c3O hr) (fD aF cY (dv 0)) (dv 2) (dv 1) ⟨rfl,rfl,rfl,rfl⟩) (dv 1) (bG _)) (aJ (mW YF cH nG (aA aR aB))) bC) (aD (c2I (c3O hr) (fD aF cY (dv 0)) (dv 2) (dv 1) rfl) (aJ (jY (eG aO jE pR.1 hr.mo pR.2 .nil (lN fun _ _ _ z=>z) (dv 4) (aA (dv 2) (aA (dv 3) aB))))))))),?_⟩
 refine⟨⟨w.dx,_,hR.er,rfl⟩,r,R,o,w,k,rfl,hR,fun i p e hp=>?_,fun no H1 g1=>q1 no H1 g1⟩
 subst e
 obtain⟨S,oi,eS,hP,le,back⟩:=hR.step hp
 have hil:i<R.ps.length:=(Yc.mp eS).1
 refine⟨n,a,ds,rfl,hS,hl,fun ok H1 g1=>?_,fun no H1 g1=>q2 ⟨by omega,by omega⟩ no H1 g1⟩
 obtain⟨j,ej,q4,q5⟩:=q3 i S rfl eS ok
 have hR1:=hR.same g1
 refine⟨w.dx,_,.ref w.OW,hR1.er,rfl,w.OW,rfl,.inl ⟨_,.inl hR1.eOW⟩,_,.inl ⟨_,.inl n,.inl hR1.eOW,rfl,rfl⟩,?_⟩
 rw[ej]
 conv=>whnf
 refine oG (fun c=>?_) (fun c=>?_)
 ·have c1:¬ j=((i:Nat):Int):=fun z=>by
   have c2:(!decide (j=((i:Nat):Int)))=true:=c
   rw[Yk z]at c2
   cases c2
  exact⟨aN rfl,q4 c1 _ g1⟩
 have c1:j=((i:Nat):Int):=Decidable.byContradiction fun z=>c (by
  show (!decide (j=((i:Nat):Int)))=true
  rw[Yi z];rfl)
 refine⟨w.dx,_,.ref w.OW,hR1.er,rfl,w.OW,_,rfl,.inl ⟨_,.inl n,hR1.eOW,rfl,nQ (by omega),rfl⟩,?_⟩
 obtain⟨hR2,m2⟩:=hR1.put (k:=2) (R':={ R with ow:=putK R.ow (.inl n) (.int ((i:Nat):Int)) }) (w':=w) rfl c6U rfl rfl rfl rfl rfl rfl rfl rfl hR1.ev
 have hS2:=c1X (v:= .dK (putK R.ow (.inl n) (.int ((i:Nat):Int)))) (g1.seq hS) hR1.eOW
 generalize upd H1 w.OW _=H2 at hR2 m2 hS2
 obtain⟨S2,oi2,eS2,hP2,le2,back2⟩:=hR2.step hp
 have ee:S2=S:=YE (eS2.symm.trans eS)
 subst ee
 obtain⟨dq,ch,vt',wl_,ul,cc,nw,ep⟩:=hP2.cell
 obtain⟨nw5,ob5,bd5,fin5⟩:=hP2.hand
 refine⟨⟨dq,_,ep,rfl⟩,p,nw5,S2,ob5,n,a,ds,rfl,bd5,hS2,hl,hwt _ (YA eS),fun _ H3 d hd b k=>?_,fun no=>absurd ok no⟩
 obtain⟨o3,hP3,mv3⟩:=fin5 ok H3 d hd b k
 obtain⟨o',op',hR3,m3⟩:=back2 H3 o3 _ mv3 hP3
 exact q5 c1 H3 o' ⟨_,hR3⟩ ((Mv.of g1).trans (m2.trans m3))
-- def Rail_stance
variable (lD:MB P w K mg base (CXR P w) 9 qY yJ ["self","post"] (spAskE bF CA bA gStance))
include aV cC aO aF aP fW lG aU in
theorem a1Q (F0:Fun K "stance" "Rail.stance" xR qY yJ):type_of% lD:=by
 refine mbM ["self","post"] F0 fun Sc0=>F0.okR Sc0 (fun vs H Q E h=>?_) fun cdv A outer s H vs Q E hr h=>?_
 ·obtain⟨r,R,o,w,k,rfl,_⟩:=h
  rfl
 obtain⟨r,R,o,w,k,rfl,hR,q1,q2⟩:=h
 have nd:=Sc0.nd
 refine⟨_,(aJ (aW (qH aO fW lG.1 hr.mo lG.2 .nil bU (eG aF aP aU.1 hr.mo aU.2 .nil (lN fun _ _ _ z=>z) (dv 0) (aA (dv 1) aB))))),?_⟩
 refine⟨⟨w.dx,_,hR.er,rfl⟩,r,R,o,w,k,rfl,hR,fun i p e hp=>?_,fun no H1 g1=>q2 no H1 g1⟩
 obtain⟨S,oi,eS,hP,_⟩:=hR.step hp
 have q:=q1 i S e eS
 obtain⟨dq,ch,vt',wl_,ul,cc,nw,ep⟩:=hP.cell
 obtain⟨nwb,ob,bd⟩:=hP.bd
  
 obtain⟨k0,en0,q0⟩:=q
 exact⟨⟨dq,_,ep,rfl⟩,p,S,oi,k0,rfl,en0,hP,q0⟩
-- def Rail_waits
variable (mK:MB P w K mg base (CXR P w) 9 tR a0B ["self","post"] (spAskE bF CA bA gWaits))
include aV cC aO aF aP iI mO aU in
theorem a3O (F0:Fun K "waits" "Rail.waits" zF tR a0B):type_of% mK:=by
 refine mbM ["self","post"] F0 fun Sc0=>F0.okR Sc0 (fun vs H Q E h=>?_) fun cdv A outer s H vs Q E hr h=>?_
 ·obtain⟨r,R,o,w,k,rfl,_⟩:=h
  rfl
 obtain⟨r,R,o,w,k,rfl,hR,q1,q2⟩:=h
 have nd:=Sc0.nd
 refine⟨_,(aJ (aW (qH aO iI mO.1 hr.mo mO.2 .nil bU (eG aF aP aU.1 hr.mo aU.2 .nil (lN fun _ _ _ z=>z) (dv 0) (aA (dv 1) aB))))),?_⟩
 refine⟨⟨w.dx,_,hR.er,rfl⟩,r,R,o,w,k,rfl,hR,fun i p e hp=>?_,fun no H1 g1=>q2 no H1 g1⟩
 obtain⟨S,oi,eS,hP,_⟩:=hR.step hp
 have q:=q1 i S e eS
 obtain⟨dq,ch,vt',wl_,ul,cc,nw,ep⟩:=hP.cell
 obtain⟨nwb,ob,bd⟩:=hP.bd
  
 exact⟨⟨dq,_,ep,rfl⟩,p,nwb,S,ob,rfl,bd,q⟩
-- def Rail_got
variable (jV:MB P w K mg base (CXR P w) 9 wO a5D ["self","post"] (spAskE bF CA bA gGot))
include aV cC aO aF aP jR rT aU in
theorem a7Z (F0:Fun K "got" "Rail.got" a4R wO a5D):type_of% jV:=by
 refine mbM ["self","post"] F0 fun Sc0=>F0.okR Sc0 (fun vs H Q E h=>?_) fun cdv A outer s H vs Q E hr h=>?_
 ·obtain⟨r,R,o,w,k,rfl,_⟩:=h
  rfl
 obtain⟨r,R,o,w,k,rfl,hR,q1,q2⟩:=h
 have nd:=Sc0.nd
 refine⟨_,(aJ (aW (qH aO jR rT.1 hr.mo rT.2 .nil bU (eG aF aP aU.1 hr.mo aU.2 .nil (lN fun _ _ _ z=>z) (dv 0) (aA (dv 1) aB))))),?_⟩
 refine⟨⟨w.dx,_,hR.er,rfl⟩,r,R,o,w,k,rfl,hR,fun i p e hp=>?_,fun no H1 g1=>q2 no H1 g1⟩
 obtain⟨S,oi,eS,hP,_⟩:=hR.step hp
 have q:=q1 i S e eS
 obtain⟨dq,ch,vt',wl_,ul,cc,nw,ep⟩:=hP.cell
 obtain⟨nwb,ob,bd⟩:=hP.bd
  
 exact⟨⟨dq,_,ep,rfl⟩,p,nwb,S,ob,rfl,bd,q⟩
-- def Rail_faults
variable (lF:MB P w K mg base (CXR P w) 9 rA yL ["self","post"] (spAskE bF CA bA gN))
include aV cC aO aF aP fY lJ aU in
theorem a1S (F0:Fun K "faults" "Rail.faults" xU rA yL):type_of% lF:=by
 refine mbM ["self","post"] F0 fun Sc0=>F0.okR Sc0 (fun vs H Q E h=>?_) fun cdv A outer s H vs Q E hr h=>?_
 ·obtain⟨r,R,o,w,k,rfl,_⟩:=h
  rfl
 obtain⟨r,R,o,w,k,rfl,hR,q1,q2⟩:=h
 have nd:=Sc0.nd
 refine⟨_,(aJ (aW (qH aO fY lJ.1 hr.mo lJ.2 .nil bU (eG aF aP aU.1 hr.mo aU.2 .nil (lN fun _ _ _ z=>z) (dv 0) (aA (dv 1) aB))))),?_⟩
 refine⟨⟨w.dx,_,hR.er,rfl⟩,r,R,o,w,k,rfl,hR,fun i p e hp=>?_,fun no H1 g1=>q2 no H1 g1⟩
 obtain⟨S,oi,eS,hP,_⟩:=hR.step hp
 have q:=q1 i S e eS
 obtain⟨dq,ch,vt',wl_,ul,cc,nw,ep⟩:=hP.cell
 obtain⟨nwb,ob,bd⟩:=hP.bd
  
 exact⟨⟨dq,_,ep,rfl⟩,p,nwb,S,ob,rfl,bd,q⟩
-- def Rail_is_off
variable (lE:MB P w K mg base (CXR P w) 9 qZ yK ["self","post"] (spAskE bF CA bA (gB 18)))
include aV cC aO aF aP fX lH aU in
theorem a1R (F0:Fun K "is_off" "Rail.is_off" xT qZ yK):type_of% lE:=by
 refine mbM ["self","post"] F0 fun Sc0=>F0.okR Sc0 (fun vs H Q E h=>?_) fun cdv A outer s H vs Q E hr h=>?_
 ·obtain⟨r,R,o,w,k,rfl,_⟩:=h
  rfl
 obtain⟨r,R,o,w,k,rfl,hR,q1,q2⟩:=h
 have nd:=Sc0.nd
 refine⟨_,(aJ (aW (qH aO fX lH.1 hr.mo lH.2 .nil bU (eG aF aP aU.1 hr.mo aU.2 .nil (lN fun _ _ _ z=>z) (dv 0) (aA (dv 1) aB))))),?_⟩
 refine⟨⟨w.dx,_,hR.er,rfl⟩,r,R,o,w,k,rfl,hR,fun i p e hp=>?_,fun no H1 g1=>q2 no H1 g1⟩
 obtain⟨S,oi,eS,hP,_⟩:=hR.step hp
 have q:=q1 i S e eS
 obtain⟨dq,ch,vt',wl_,ul,cc,nw,ep⟩:=hP.cell
 obtain⟨nwb,ob,bd⟩:=hP.bd
  
 exact⟨⟨dq,_,ep,rfl⟩,p,nwb,S,ob,rfl,bd,q⟩
-- def Rail_heard
variable (mL:MB P w K mg base (CXR P w) 9 tU a0C ["self","post"] (spAskL bF CA bA (fun R=>R.he)))
include aV cC nW aF aP cW aU in
theorem a3P (F0:Fun K "heard" "Rail.heard" zG tU a0C):type_of% mL:=by
 refine mbM ["self","post"] F0 fun Sc0=>F0.okR Sc0 (fun vs H Q E h=>?_) fun cdv A outer s H vs Q E hr h=>?_
 ·obtain⟨r,R,o,w,k,rfl,_⟩:=h
  rfl
 obtain⟨r,R,o,w,k,rfl,hR,q1,q2⟩:=h
 have nd:=Sc0.nd
 refine⟨_,(aD (jY (eG aF aP aU.1 hr.mo aU.2 .nil (lN fun _ _ _ z=>z) (dv 0) (aA (dv 1) aB))) (aJ (aW (cP a5H rfl nW a6J (aA (cD cZ (fD aF cW (dv 0)) (dv 1) (fun _ _=>rfl)) aB))))),?_⟩
 refine⟨⟨w.dx,_,hR.er,rfl⟩,r,R,o,w,k,rfl,hR,fun i p e hp=>?_,fun no H1 g1=>q2 no H1 g1⟩
 have hil:i<R.ps.length:=by rw[<-hR.pl];exact(Yc.mp hp).1
 have l2:=hR.l2
 have l4:=hR.l4
 have eX:R.he[i]? =some (R.he[i]'(by omega)):=Yh (by omega)
 generalize R.he[i]'(by omega)=X at eX
 obtain⟨a1,ha1,ka1⟩:=hR.he_at eX
 subst e
 exact⟨w.dx,_,.ref w.HE,hR.er,rfl,_,.ref a1,SqL.of hR.eHE,bM (by rw[Yq,ha1];rfl),_,.inl (SqL.of (hR.cs.at_ _ _ ka1)),q1 i X rfl eX⟩
-- def Rail_bits
variable (pP:MB P w K mg base (CX0) 1 uX a2O ["self"] (spRlBits bF CA))
include cC nW aF dJ in
theorem a5Y (F0:Fun K "bits" "Rail.bits" a1D uX a2O):type_of% pP:=by
 refine mbK ["self"] F0 fun H Q nd hr h=>?_
 obtain⟨r,R,o,w,rfl,hR,q⟩:=h
 refine⟨_,(aJ (aW (cP a5H rfl nW a6J (aA (fD aF dJ (dv 0)) aB)))),?_⟩
 exact⟨w.dx,_,.ref w.BO,hR.er,rfl,_,.inl (SqL.of hR.eBO),q⟩
-- def piece_of
variable (mJ:FB P w K mg base (CX0) 1 "piece_of" a0L a5B ["tag","many","number","thing"] (spPiece K))
include gK in
theorem a7X (F0:GFm K mg "piece_of" a4Q a0L a5B):type_of% mJ:=by
 refine fbK ["tag","many","number","thing","start"] F0 fun H Q nd hr h=>?_
 obtain⟨g,n,k,a,th,rfl,hS,hl,hn,hk,q⟩:=h
 refine⟨_,(aD (bZ (i:=4) nd rfl (Or.inl rfl) (bY uB (dH (v:= .int 5) rfl gK ⟨_,rfl⟩) (dv 2))) (aJ (aW (bY b3P (jL (aA (dv 0) (aA (bY jK (bY uB aH (dv 1)) (dv 2)) aB))) (wA a9J (dv 3) (vK (dv 4)) (vK (bY jK (dv 4) (dH (v:= .int 5) rfl gK ⟨_,rfl⟩)))))))),?_⟩
 refine⟨⟨by decide,iR (by omega) (by omega)⟩,⟨by decide,iR (by omega) (by omega)⟩,aN rfl,fun p1 hp1=>?_⟩
 generalize eU:upd H p1 _=H1
 have g1:=nS hp1 eU
 have e1:=nE eU
 clear eU
 refine⟨_,g1.seq hS,fun p2 hp2=>?_⟩
 have ec:cutV (th.map V.int) (some ((5:Int)*((k:Nat):Int))) (some ((5:Int)*((k:Nat):Int)+5))=((th.drop (5*k)).take 5).map V.int:=by
  have h1:(5:Int)*((k:Nat):Int)=((5*k:Nat):Int):=by omega
  have h2:(5:Int)*((k:Nat):Int)+5=((5*k+5:Nat):Int):=by omega
  rw[h2,h1]
  unfold cutV
  rw[HT.sIx_nat,HT.sIx_nat,Ya,List.map_take,List.map_drop]
  by_cases z:5*k<=th.length
  ·rw[XH z]
   by_cases y:5*k+5<=th.length
   ·rw[XH y];congr 1;omega
   ·rw[Nat.min_eq_right (by omega),YD (by rw[Xm,Ya];exact Ye _),YD (by rw[Xm,Ya];omega)]
  ·rw[Nat.min_eq_right (by omega:th.length<=5*k),Nat.min_eq_right (by omega),List.drop_of_length_le (by rw[Ya];exact Ye _),List.drop_of_length_le (by rw[Ya];omega)]
   simp
 have g2:=aX hp2 (.lst (((th.drop (5*k)).take 5).map V.int))
 have e2:upd H1 p2 (.lst (cutV (th.map V.int) (some ((5:Int)*((k:Nat):Int))) (some ((5:Int)*((k:Nat):Int)+5)))) p2=some (.lst (((th.drop (5*k)).take 5).map V.int)):=by rw[aK,ec]
 have g2':=aX hp2 (.lst (cutV (th.map V.int) (some ((5:Int)*((k:Nat):Int))) (some ((5:Int)*((k:Nat):Int)+5))))
 generalize upd H1 p2 (.lst (cutV (th.map V.int) (some ((5:Int)*((k:Nat):Int))) (some ((5:Int)*((k:Nat):Int)+5))))=H2 at e2 g2'
 refine⟨_,_,g2' _ _ e1,e2,(by rw[Ya,YT];exact small (by show 2+_<=1000;omega)),fun p3 hp3=>?_⟩
 have gs:=g1.trans g2'
 refine q p3 _ (gs.none hp3) (gs.trans (aX hp3 _)) ?_
 rw[aK]
 unfold pc
 rw[Yu]
 rfl
-- def check_thing
variable (gO:FB P w K mg base (CXR P w) 2 "check_thing" uL yF ["tag","thing"] (spChkT K aZ))
include bK iT cO gF bQ in
theorem a1M (F0:GFm K mg "check_thing" xN uL yF):type_of% gO:=by
 refine fbM ["tag","thing"] F0 fun Sc0=>F0.F.okR Sc0 (fun vs H Q E h=>?_) fun cdv A outer s H vs Q E hr h=>?_
 ·obtain⟨g,a,th,rfl,_⟩:=h
  rfl
 obtain⟨g,a,th,rfl,hS,hl,q1,q2⟩:=h
 have nd:=Sc0.nd
 refine⟨_,(aD (cM (sH (lX (bB bQ.1 hr.mo rfl bQ.2.2.2 bQ.2.2.1 bQ.2.1 .nil bU (aA (jL (aA (dv 0) aB)) aB)))) (aJ (mW YF bK gF (aA aR aB))) bC) (aD (cM (bH a4K (bR nH rfl cO iM (aA (dv 1) aB)) (dH (v:= .int 75) rfl iT ⟨_,rfl⟩) (bG _)) (aJ (mW YF bK gF (aA aR aB))) bC) (aJ (cM (sH (lX (bB bQ.1 hr.mo rfl bQ.2.2.2 bQ.2.2.1 bQ.2.1 .nil bU (aA (dv 1) aB)))) (aJ (mW YF bK gF (aA aR aB))) bC)))),?_⟩
 refine⟨aN rfl,fun p0 hp0=>?_⟩
 have g0:=aX hp0 (.lst [.int g])
 have e0:upd H p0 (.lst [.int g]) p0=some (.lst ([g].map V.int)):=aK
 generalize upd H p0 (.lst [.int g])=H1 at g0 e0
 refine⟨p0, [g],rfl,.inl (SqL.of e0),(show 1<=500 by decide),fun H2 g2=>?_⟩
 have ea:[g].all byt=byt g:=by rw[Y3,List.all_nil,Bool.and_true]
 rw[ea]
 have gs:=g0.trans g2
 conv=>whnf
 refine oG (fun c=>?_) (fun c=>?_)
 ·have c1:¬ byt g=true:=fun z=>by
   have:(!byt g)=true:=c
   rw[z]at this;cases this
  exact⟨aN rfl,q2 (c0G (.inl c1)) _ gs⟩
 have c1:byt g=true:=by
  cases e:byt g with
  |true=>rfl
  |false=>exact absurd (show (!byt g)=true by rw[e];rfl) c
 refine⟨_,.inl (gs.seq hS),?_⟩
 rw[Ya]
 conv=>whnf
 refine oG (fun z=>?_) (fun z=>?_)
 ·have z1:(75:Int)<((th.length:Nat):Int):=dec_true z
  exact⟨aN rfl,q2 (c0G (.inr (.inl (by omega)))) _ gs⟩
 have z1:¬ (75:Int)<((th.length:Nat):Int):=dec_false z
 refine⟨a,th,rfl,.inl (gs.seq hS),hl,fun H3 g3=>?_⟩
 conv=>whnf
 refine oG (fun y=>?_) (fun y=>?_)
 ·have y1:¬ th.all byt=true:=fun z=>by
   have:(!th.all byt)=true:=y
   rw[z]at this;cases this
  exact⟨aN rfl,q2 (fun h=>y1 h.2.2) _ (gs.trans g3)⟩
 ·have y1:th.all byt=true:=by
   cases e:th.all byt with
   |true=>rfl
   |false=>exact absurd (show (!th.all byt)=true by rw[e];rfl) y
  exact q1 ⟨c1,by omega,y1⟩ _ (gs.trans g3)
-- def cut
variable (a6P:FB P w K mg base (CXR P w) 3 "cut" b7F c1M ["tag","thing"] (spCut K aZ))
include gK bK cO nW b4E fG mJ gO in
theorem c0F (F0:GFm K mg "cut" b9Q b7F c1M):type_of% a6P:=by
 refine fbM ["tag","thing","starts","many"] F0 fun Sc0=>F0.F.okR Sc0 (fun vs H Q E h=>?_) fun cdv A outer s H vs Q E hr h=>?_
 ·obtain⟨g,a,th,rfl,_⟩:=h
  rfl
 obtain⟨g,a,th,rfl,hS,hl,q1,q2⟩:=h
 have nd:=Sc0.nd
 refine⟨_,(aD (jY (bB gO.1 hr.mo rfl gO.2.2.2 gO.2.2.1 gO.2.1 .nil (lN fun _ _ _ z=>z) (aA (dv 0) (aA (dv 1) aB)))) (aD (bZ (i:=2) nd rfl (Or.inl rfl) (b5O rfl rfl nW rfl fG (aA aH (aA (bR nH rfl cO iM (aA (dv 1) aB)) (aA (dH (v:= .int 5) rfl gK ⟨_,rfl⟩) aB))))) (aD (bZ (i:=3) nd rfl (Or.inr rfl) (bR (c3Y rfl) rfl b4E c5R (aA aH (aA (bR nH rfl cO iM (aA (dv 2) aB)) aB)))) (aJ (aW (rK rfl (ix:=[0,3,1]) (a3B rfl fG (aA (dv 3) aB)) (fun C fp s0 H0 at0=>rJ) (fun C fp s0 H0 at0=>(bB mJ.1 hr.mo rfl mJ.2.2.2 mJ.2.2.1 mJ.2.1 .nil bU (aA (dv 1) (aA (dv 2) (aA (dv 0) (aA (dv 3) aB)))))) rfl rfl (by rfl) (show ([".0","number","tag","many","thing"]:List Str).Nodup by decide +kernel))))))),?_⟩
 refine⟨g,a,th,rfl,hS,hl,fun ok H1 g1=>?_,q2⟩
 refine⟨_,.inl (g1.seq hS),?_⟩
 rw[Ya]
 refine⟨by decide,PyProof.noPylong_small (by decide),(th.length+4) / 5,c4H (by omega),c3I th.length,by omega,fun ps hps=>?_⟩
 generalize eU:upd H1 ps _=H2
 have g2:=nS hps eU
 have e2:=nE eU
 clear eU
 have gs:=g1.trans g2
 refine⟨_,.inl (SqL.of e2),?_⟩
 rw[Ya,List.length_range]
 have hnp:=c6V hl
 have em:max (1:Int) ((((th.length+4) / 5:Nat):Int))=((nP th:Nat):Int):=by unfold nP;omega
 have en:(max (1:Int) ((((th.length+4) / 5:Nat):Int))).toNat=nP th:=by omega
 refine⟨⟨by omega,by omega⟩,b6C (fun i ys H'=>∃qs:List Addr,ys=qs.map V.ref/\qs.length=i/\(∀q∈qs,H q=none/\H' q≠none)/\qs.Nodup/\Same H H'/\Pcs H' g (nP th) th qs) ?_ ⟨[],rfl,rfl,(fun _ z=>nomatch z),List.nodup_nil,gs,fun k q z=>nomatch z⟩ ?_ ?_⟩
 ·rintro i ys H' hi ⟨qs,rfl,hql,_⟩
  refine nQ ?_
  rw[Ya]
  omega
 ·rintro i ys H' hi ⟨qs,rfl,hql,hq0,hqn,gq,hp⟩
  rw[en]at hi
  have ez:(0:Int)+(i:Int)=((i:Nat):Int):=Int.zero_add _
  refine⟨g,nP th,i,a,th,?_,gq.seq hS,hl,by omega,by omega,fun p3 H3 hp3 g3 e3=>⟨qs++[p3],?_,?_,?_,?_,gq.trans g3,?_⟩⟩
  ·show [V.int g,V.int (max 1 ((((th.length+4) / 5:Nat):Int))),V.int (0+(i:Int)),V.ref a]=_
   rw[em,ez]
  ·rw[Yu];rfl
  ·rw[Yj,List.length_singleton,hql]
  ·intro q hq
   rcases YX.mp hq with z | z
   ·refine⟨(hq0 q z).1,fun y=>(hq0 q z).2 (g3.none y)⟩
   ·rw[Yx.mp z]
    exact⟨gq.none hp3,by rw[e3];simp⟩
  ·exact List.nodup_append.mpr ⟨hqn,by simp,fun x hx y hy=>by rw[Yx.mp hy];exact fun e=>(hq0 x hx).2 (e▸hp3)⟩
  ·intro k q hk
   by_cases z:k<qs.length
   ·rw[YN z]at hk
    exact g3 _ _ (hp k q hk)
   ·rw [YM (by omega)]at hk
    have hk0:k-qs.length=0:=by
     have:=(Yc.mp hk).1
     simpa using this
    rw[hk0]at hk
    have eq:p3=q:=YE hk
    subst eq
    have ek:k=i:=by omega
    subst ek
    exact e3
 rintro ys H5 ⟨qs,rfl,hql,hq0,hqn,gq,hp⟩ p hp5
 rw[en]at hql
 have gp:=aX hp5 (.lst (qs.map V.ref))
 exact q1 ok p qs _ (gq.none hp5) (fun q hq=>(hq0 q hq).1) hqn (fun z=>(hq0 p z).2 hp5) (gq.trans gp) aK hql (hp.same gp)
-- def number_in
variable (cR:FB P w K mg base (CX0) 1 "number_in" wZ a2H ["word"] (spNumIn))
include nZ a8C cO uR in
theorem a5R (F0:GFm K mg "number_in" a0X wZ a2H):type_of% cR:=by
 refine fbK ["word"] F0 fun H Q nd hr h=>?_
 obtain⟨l,rfl,hl,q⟩:=h
 refine⟨_,(aD (cM (sH (a9Y a8Y a8Y aH (bR b5G rfl cO iM (aA (dv 0) aB)) (dH (v:= .int 6) rfl nZ ⟨_,rfl⟩))) (aJ (aW lW)) bC) (aD (cM (sH (lX (bR (c3G rfl) rfl a8C c1R (aA (rK rfl (ix:=[]) (b4C (dv 0)) (fun C fp s0 H0 at0=>rJ) (fun C fp s0 H0 at0=>(pX c6D (dv 0) aR rfl)) rfl rfl (by rfl) (show ([".0","sign"]:List Str).Nodup by decide +kernel)) aB)))) (aJ (aW lW)) bC) (aD (cM (PW.pt (vD (bH uP (cD c3F (dv 0) aH (fun _ _=>rfl)) aR (bG _)) (sG (bH a4K (bR b5G rfl cO iM (aA (dv 0) aB)) aH (bG _))))) (aJ (aW lW)) bC) (aJ (aW (cP a4J rfl uR a5G (aA (dv 0) aB))))))),?_⟩
 have sl:(txt l).length<=sizeLine:=by rw[uH];exact szl (by omega)
 have no:¬ ((1<=l.length/\l.length<=6)/\l.all isDg=true/\¬ (l.headD 0=48/\1<l.length))->∀H',Same H H'->Q .non H':=fun n H' g=>by
  have:=q H' g
  unfold numV numIn at this
  rw[if_neg n]at this
  exact this
 refine⟨sl,?_⟩
 obtain⟨L,hL⟩:∃L,L=(txt l).length:=⟨_,rfl⟩
 have hL6:L=l.length:=by rw[hL,uH]
 rw[<-hL]at sl ⊢
 conv=>whnf
 refine oG (fun c=>?_) (fun c=>no (fun z=>by have c1:¬ (1:Int)<=((L:Nat):Int):=dec_false c;omega) _ (Same.refl _))
 have c1:(1:Int)<=((L:Nat):Int):=dec_true c
 conv=>whnf
 refine oG (fun c2=>no (fun z=>?_) _ (Same.refl _)) (fun c2=>?_)
 ·have c3:(!decide (((L:Nat):Int)<=6))=true:=c2
  rw[Yk (by omega)]at c3
  cases c3
 have c3:((L:Nat):Int)<=6:=by
  by_cases y:((L:Nat):Int)<=6
  ·exact y
  ·exact absurd (show (!decide (((L:Nat):Int)<=6))=true by rw[Yi y];rfl) c2
 refine⟨trivial,b8T (z:=txt l) (fun i ys H'=>ys=((l.take i).map isDg).map V.bl/\H'=H) ?_ ⟨rfl,rfl⟩ ?_ ?_⟩
 ·rintro i ys H' hi ⟨rfl,_⟩
  rw[Ya,Ya,YT]
  exact c7R (by omega)
 ·rintro i c ys H' hc ⟨rfl,rfl⟩
  have hc':l[i]? =some c:=by
   have:(l.toArray)[i]? =some c:=hc
   rwa [List.getElem?_toArray]at this
  obtain⟨hi,hci⟩:=Yc.mp hc'
  refine⟨?_,rfl⟩
  have e:=c3S c
  rw[e,YJ hi,hci,Yu,Yu]
  rfl
 rintro ys H' ⟨rfl,rfl⟩ pz hpz
 have esz:(txt l).cps.size=l.length:=by show (l.toArray).size=_;rw[Yl]
 rw[esz,YD (Ye _)]
 refine⟨l.map isDg,SqL.of aK,?_⟩
 have gz:=aX hpz (.lst ((l.map isDg).map V.bl))
 rw[List.all_map]
 generalize upd H' pz _=H2 at gz
 by_cases z:l.all isDg=true
 ·rw [show (l.all (id ∘ isDg))=true from z]
  conv=>whnf
  obtain⟨c0,lr,el⟩:∃c0 lr,l=c0::lr:=by
   cases l with
   |nil=>exact absurd hL6 (by show ¬ L=0;omega)
   |cons c0 lr=>exact⟨c0,lr,rfl⟩
  have fin:¬ (l.headD 0=48/\1<l.length)->∃n,PySem.intText? (txt l)=some n/\(txt l).length<=640/\Q (.int n) H2:=fun n=>by
   have e:=PySem.intText_digits (x:=txt l) (by rw[vH];exact fun c hc=>Xd (YH.mp z c hc)) (by rw[vH,el];simp) (by rw[uH];omega)
   rw[vH]at e
   refine⟨_,e,by rw[uH];omega,?_⟩
   have:=q H2 gz
   unfold numV numIn at this
   rw[if_pos ⟨⟨by omega,by omega⟩,z,n⟩]at this
   exact this
  have hd0:l.headD 0=c0:=by rw[el];rfl
  refine⟨c0,by rw[<-hL];exact sl,by rw[vH,el];exact bM (j:=0) (xs:=c0::lr) rfl,?_⟩
  have e48:(⟨#[c0]⟩:Str)=("0":Str)->c0=48:=fun w'=>by
   have:[c0]= [48]:=Yy (fun x:Str=>x.cps.toList) w'
   exact(XC this).1
  have e48':c0=48->(⟨#[c0]⟩:Str)=("0":Str):=fun y=>by subst y;decide +kernel
  generalize (⟨#[c0]⟩:Str)=w0 at e48 e48' ⊢
  conv=>whnf
  refine oG (fun c=>?_) (fun c=>fin fun n=>dec_false c (e48' (hd0▸n.1)))
  have y48:=e48 (dec_true c)
  refine⟨by rw[<-hL];exact sl,?_⟩
  rw[<-hL]
  conv=>whnf
  refine oG (fun c4=>no (fun y=>?_) _ gz) (fun c4=>fin fun n=>?_)
  ·have c5:(1:Int)<((L:Nat):Int):=dec_true c4
   exact y.2.2 ⟨hd0.trans y48,by omega⟩
  ·have c5:¬ (1:Int)<((L:Nat):Int):=dec_false c4
   exact c5 (by have:=n.2;omega)
 ·rw[show (l.all (id ∘ isDg))=false from by rw[<-Bool.not_eq_true];exact z]
  conv=>whnf
  exact no (fun y=>z y.2.1) _ gz
-- def choice_of
variable (kY:FB P w K mg base (CX0) 2 "choice_of" xF a2I ["word"] (spCho83))
include cO cR in
theorem a5S (F0:GFm K mg "choice_of" a0Y xF a2I):type_of% kY:=by
 refine fbK ["word","parts","mask","match_bits"] F0 fun H Q nd hr h=>?_
 obtain⟨l,rfl,hl,q1,q2⟩:=h
 refine⟨_,(aD (bZ (i:=1) nd rfl (Or.inl rfl) (a6E (dv 0) (aA aR aB))) (aD (cM (bH b1A (bR nH rfl cO iM (aA (dv 1) aB)) aH (bG _)) (aJ (aW lW)) bC) (aD (bZ (i:=2) nd rfl (Or.inl rfl) (bB cR.1 hr.mo rfl cR.2.2.2 cR.2.2.1 cR.2.1 .nil bU (aA (cD cZ (dv 1) aH (fun _ _=>rfl)) aB))) (aD (bZ (i:=3) nd rfl (Or.inl rfl) (bB cR.1 hr.mo rfl cR.2.2.2 cR.2.2.1 cR.2.1 .nil bU (aA (cD cZ (dv 1) aH (fun _ _=>rfl)) aB))) (aD (cM (PW.pt (a5L (bH b1F (dv 2) lW (bG _)) (a1J (bH b1F (dv 3) lW (bG _))))) (aJ (aW lW)) bC) (aJ (aW (gC (aA (dv 2) (aA (dv 3) aB)))))))))),?_⟩
 have e47:("/":Str)=sepC 47:=by decide +kernel
 have sl:(txt l).length<=900:=by rw[uH];exact hl
 refine⟨by decide +kernel,szl (by omega),by rw[e47];have:=split_len (txt l) 47;exact szl (by omega),fun pl hpl=>?_⟩
 rw[e47]
 generalize eU:upd H pl _=H1
 have g1:=nS hpl eU
 have e1:=nE eU
 clear eU
 have hm:=fun w=>a7B (x:=txt l) (c:=47) (w:=w)
 unfold choIn at q1 q2
 generalize Txt.split (txt l) (sepC 47)=ws at e1 hm q1 q2
 refine⟨_,.inl (SqL.of e1),?_⟩
 rw[Ya]
 obtain⟨n,en⟩:∃n,n=ws.length:=⟨_,rfl⟩
 rw[<-en]
 conv=>whnf
 refine oG (fun c=>q1 ?_ _ g1) (fun c=>?_)
 ·have c1:(!decide (((n:Nat):Int)=2))=true:=c
  match ws,en with
  |[],_=>rfl
  |[_],_=>rfl
  |[_,_],en=>rw[en]at c1;cases c1
  |_::_::_::_,_=>rfl
 have c1:n=2:=by
  by_cases y:((n:Nat):Int)=2
  ·omega
  ·exact absurd (show (!decide (((n:Nat):Int)=2))=true by rw[Yi y];rfl) c
 obtain⟨x,y,rfl⟩:∃x y,ws= [x,y]:=by
  match ws,en with
  |[],en=>cases en.symm.trans c1
  |[_],en=>cases en.symm.trans c1
  |[x,y],_=>exact⟨x,y,rfl⟩
  |_::_::_::_,en=>cases en.symm.trans c1
 have lx:x.cps.toList.length<=900:=Yn (hm x (by simp)) sl
 have ly:y.cps.toList.length<=900:=Yn (hm y (by simp)) sl
 refine⟨_,V.str x,SqL.of e1,rfl,x.cps.toList,Yy (fun z=>[V.str z]) (sE x),lx,fun H2 g2=>?_⟩
 refine⟨_,V.str y,SqL.of (g2 _ _ e1),rfl,y.cps.toList,Yy (fun z=>[V.str z]) (sE y),ly,fun H3 g3=>?_⟩
 have g13:=g1.trans (g2.trans g3)
 dsimp only at q1 q2
 unfold numV
 cases ex:numIn x.cps.toList with
 | none=>
  rw[ex]at q1
  exact q1 rfl _ g13
 | some a=>
  cases ey:numIn y.cps.toList with
  | none=>
   rw[ex,ey]at q1
   exact q1 rfl _ g13
  | some b=>
   rw[ex,ey]at q2
   refine⟨aN rfl,fun t ht=>?_⟩
   exact q2 a b rfl t _ (g13.none ht) (g13.trans (aX ht _)) aK
-- def value_of
variable (mG:FB P w K mg base (CX0) 3 "value_of" a0J a4W ["word","kind","ahead"] (spVal83 K))
include sS uT cR kY in
theorem a7S (F0:GFm K mg "value_of" a4L a0J a4W):type_of% mG:=by
 refine fbK ["word","kind","ahead","number"] F0 fun H Q nd hr h=>?_
 obtain⟨l,k,al,xs,rfl,hl,hS,hk⟩:=h
 refine⟨_,(aD (cM (bH uP (dv 1) aR (bG _)) (aJ (aW lW)) bC) (aD (cM (bH uP (dv 1) aR (bG _)) (aJ (aW (bB kY.1 hr.mo rfl kY.2.2.2 kY.2.2.1 kY.2.1 .nil bU (aA (dv 0) aB)))) bC) (aD (bZ (i:=3) nd rfl (Or.inl rfl) (bB cR.1 hr.mo rfl cR.2.2.2 cR.2.2.1 cR.2.1 .nil bU (aA (dv 0) aB))) (aD (cM (bH b1F (dv 3) lW (bG _)) (aJ (aW lW)) bC) (aD (cM (PW.pt (vD (bH uP (dv 1) aR (bG _)) (sG (bH a4K (dv 3) (dH (v:= .int 2000) rfl sS ⟨_,rfl⟩) (bG _))))) (aJ (aW lW)) bC) (aD (cM (PW.pt (vD (bH uP (dv 1) aR (bG _)) (sG (bH a4K (dv 3) (bY jK (cD cZ (dv 2) (b9Y b9B aH) (fun _ _=>rfl)) (dH (v:= .int 400) rfl uT ⟨_,rfl⟩)) (bG _))))) (aJ (aW lW)) bC) (aJ (aW (dv 3))))))))),?_⟩
 rcases hk with ⟨rfl,q⟩ | ⟨rfl,q1,q2⟩ | ⟨rfl,q⟩ | ⟨rfl,q⟩ | ⟨rfl,m,hm,q⟩
 ·exact q _ (Same.refl _)
 ·exact⟨l,rfl,hl,q1,q2⟩
 ·refine⟨l,rfl,hl,fun H' g=>?_⟩
  have q':=q H' g
  unfold numV at q' ⊢
  cases en:numIn l with
  |none=>rw[en]at q';exact q'
  |some n=>rw[en]at q';exact q'
 ·refine⟨l,rfl,hl,fun H' g=>?_⟩
  have q':=q H' g
  unfold capV at q'
  unfold numV
  cases en:numIn l with
  |none=>rw[en]at q';exact q'
  | some n=>
   rw[en]at q'
   have q2:Q (if ((n:Nat):Int)<=2000 then .int ((n:Nat):Int) else .non) H':=q'
   show gName 3 (.int ((n:Nat):Int)) _ _ _
   generalize ((n:Nat):Int)=i at q2 ⊢
   conv=>whnf
   refine oG (fun c=>?_) (fun c=>?_)
   ·rw[if_neg (by have:=dec_true c;omega)]at q2
    exact q2
   ·rw[if_pos (by have:=dec_false c;omega)]at q2
    exact q2
 ·refine⟨l,rfl,hl,fun H' g=>?_⟩
  have q':=q H' g
  unfold capV at q'
  unfold numV
  cases en:numIn l with
  |none=>rw[en]at q';exact q'
  | some n=>
   rw[en]at q'
   have q2:Q (if ((n:Nat):Int)<=m+400 then .int ((n:Nat):Int) else .non) H':=q'
   show gName 3 (.int ((n:Nat):Int)) _ _ _
   generalize ((n:Nat):Int)=i at q2 ⊢
   conv=>whnf
   refine⟨xs,.int m,g.seq hS,hm,?_⟩
   conv=>whnf
   refine oG (fun c=>?_) (fun c=>?_)
   ·rw[if_neg (by have:=dec_true c;omega)]at q2
    exact q2
   ·rw[if_pos (by have:=dec_false c;omega)]at q2
    exact q2
-- def strips
variable (tZ:FB P w K mg base (CX0) 2 "strips" a6M b0L ["bits","first"] (spStrips0 K))
include sO cO fG in
theorem b1M (F0:GFm K mg "strips" a9P a6M b0L):type_of% tZ:=by
 refine fbK ["bits","first"] F0 fun H Q nd hr h=>?_
 obtain⟨a,f,rfl,hS,q⟩:=h
 refine⟨_,(aJ (aW (rK rfl (ix:=[0,1]) (b8A rfl fG (aA aH (aA (bR nH rfl cO iM (aA (dv 0) aB)) (aA (dH (v:= .int 40) rfl sO ⟨_,rfl⟩) aB)))) (fun C fp s0 H0 at0=>rJ) (fun C fp s0 H0 at0=>b6J) rfl rfl (by rfl) (show ([".0","start","bits","first"]:List Str).Nodup by decide +kernel)))),?_⟩
 refine⟨_,.inl hS,by decide,PyProof.noPylong_small (by decide),0,c1Z (n:=0) (by decide),b9N 0,b5A (fun i ys H'=>ys= []/\H'=H) ?_ ⟨rfl,rfl⟩ ?_ ?_⟩
 ·rintro i ys H' hi ⟨rfl,_⟩
  exact aN rfl
 ·rintro i ys H' hi _
  exact absurd hi (Nat.not_lt_zero _)
 rintro ys H' ⟨rfl,rfl⟩ p hp
 exact q p _ hp (aX hp _) aK
-- def read_row
variable (mH:FB P w K mg base (CXR P w) 4 "read_row" a0K a5A ["words"] (spRead82 K cG))
include lM vM cO fG pA lB eN fC mG in
theorem a7W (F0:GFm K mg "read_row" a4P a0K a5A):type_of% mH:=by
 refine fbM ["words","needed","values","place","kind","value"] F0 fun Sc0=>F0.F.okR Sc0 (fun vs H Q E h=>?_) fun cdv A outer s H vs Q E hr h=>?_
 ·obtain⟨a,ws,rfl,_⟩:=h
  rfl
 obtain⟨a,ws,rfl,hS,hne,hl,hw,q,q2⟩:=h
 have nd:=Sc0.nd
 refine⟨_,(aD (cM (c4L (b7S pA.1 (cD cZ (dv 0) aH (fun _ _=>rfl)) (dH (v:= .ref a3H) rfl vM rfl)) rfl) (aJ (a7G YF lM eN lB fC.1 hr.mo fC.2 (aA aH aB))) bC) (aD (bZ (i:=1) nd rfl (Or.inl rfl) (cD a7R (b2U pA.1 (dH (v:= .ref a3H) rfl vM rfl) (cD cZ (dv 0) aH (fun _ _=>rfl)) (fun _ _=>rfl)) aH (fun _ _=>rfl))) (aD (bZ (i:=2) nd rfl (Or.inl rfl) (jL aB)) (aD (zP PassesOwn.leaving rfl (b1Q rfl fG (aA aH (aA (bR nH rfl cO iM (aA (dv 0) aB)) aB))) (vJ (i:=3) nd rfl (Or.inl rfl)) (aD (bZ (i:=4) nd rfl (Or.inl rfl) (gD (nU (bH a8Y (dv 3) (bR nH rfl cO iM (aA (dv 1) aB)) (bG _)) (cD a7R (dv 1) (bY b8Y (dv 3) aH) (fun _ _=>rfl)) (cD a7R (b2U pA.1 (dH (v:= .ref a3H) rfl vM rfl) (cD cZ (dv 0) aH (fun _ _=>rfl)) (fun _ _=>rfl)) aH (fun _ _=>rfl))))) (aD (bZ (i:=5) nd rfl (Or.inl rfl) (bB mG.1 hr.mo rfl mG.2.2.2 mG.2.2.1 mG.2.1 .nil bU (aA (cD cZ (dv 0) (dv 3) (fun _ _=>rfl)) (aA (dv 4) (aA (dv 2) aB))))) (aD (cM (bH b1F (dv 5) lW (bG _)) (aJ (a7G YF lM eN lB fC.1 hr.mo fC.2 (aA (dv 3) aB))) bC) (aJ (jY (vQ (dv 2) (aA (dv 5) aB)))))))) (aD (cM (bH b2L (bR nH rfl cO iM (aA (dv 2) aB)) (bR nH rfl cO iM (aA (dv 1) aB)) (bG _)) (aJ (a7G YF lM eN lB fC.1 hr.mo fC.2 (aA (bR nH rfl cO iM (aA (dv 0) aB)) aB))) bC) (aJ (aW (dv 2)))))))),?_⟩
 obtain⟨x,r,rfl⟩:∃x r,ws=x::r:=by
  cases ws with
  |nil=>exact absurd rfl hne
  |cons x r=>exact⟨x,r,rfl⟩
 have h0:atI ((x::r).map V.str) 0=some (.str x):=bM (j:=0) rfl
 conv=>whnf
 refine⟨_,_,hS,h0,.inr x,rfl,rfl,_,rfl,?_⟩
 rcases pA.2.get (x:=x) with ⟨e1,e2⟩ | ⟨nf,m,t,u,e1,e2,t1,t2⟩
 ·rw [e2]
  refine⟨aN rfl,fun e_ t_ he_=>⟨e_,t_,((0:Nat):Int),rfl,aK,fun dx_ h1_ h2_=>⟨rfl,some dx_,?_,?_⟩⟩⟩
  ·rw[aQ (Ne.symm h2_),aK]
  ·rw[b0K he_ h2_]
   exact q2 0 (zN e1) (some dx_) _ ((Same.refl _).trans (b2O he_ h1_ h2_)) ⟨dx_,rfl,aK⟩
 have he:rowIn (x::r)=rowGo nf m r []:=lA e1
 rw[e2]
 conv=>whnf
 refine⟨_,_,hS,h0,.inr x,_,rfl,rfl,e2,?_⟩
 conv=>whnf
 refine⟨_,_,t1.sq H,bM (j:=0) rfl,aN rfl,fun l hl'=>?_⟩
 generalize eU:upd H l _=H1
 have g0:=nS hl' eU
 have el:=nE eU
 clear eU
 refine⟨_,.inl (g0.seq hS),⟨by decide,by decide,by omega,?_⟩,?_⟩
 ·rw[Ya]
  omega
 rw[show ((((((x::r).map V.str).length:Nat):Int)-1).toNat)=r.length from by rw[Ya];show ((((r.length+1:Nat):Int))-1).toNat=_;omega]
 refine yU (lo:=1) (n:=r.length) (fun i σ H'=>(∃x1 x2 x3,σ= [some (.ref a),some (.ref u),some (.ref l),x1,x2,x3])/\Same H H'/\∃xs vs,H' l=some (.lst xs)/\VlsAt H' xs vs/\vs.length=i/\rowGo nf m (r.drop i) vs=rowIn (x::r)/\NumsOk nf m vs) ⟨⟨_,_,_,rfl⟩,g0, [], [],el,.nil,rfl,he.symm,fun i hi=>absurd hi (Nat.not_lt_zero _)⟩ ?_ ?_
 ·rintro i σ H' hi ⟨⟨x1,x2,x3,rfl⟩,g,xs,vs,el',hv,lv,eg,no⟩
  subst lv
  refine⟨fun v H2=>v= .str (nf.getD vs.length m)/\H2=H',?_,?_⟩
  ·conv=>whnf
   refine⟨_,.inr (t2.sq H'),?_⟩
   rw[Ya]
   obtain⟨n,en⟩:∃n,n=nf.length:=⟨_,rfl⟩
   rw[<-en]
   obtain⟨i,lv⟩:∃i,i=vs.length:=⟨_,rfl⟩
   rw[<-lv]
   conv=>whnf
   refine oG (fun c=>?_) (fun c=>?_)
   ·have c1:(1:Int)+((i:Nat):Int)<=((n:Nat):Int):=dec_true c
    have hi':i<nf.length:=by omega
    refine⟨_,_,t2.sq H',?_,rfl,rfl⟩
    rw[show (1:Int)+((i:Nat):Int)-1=((i:Nat):Int) from by omega]
    exact bM (by rw[Yq,Yh hi',YG,Yh hi'];rfl)
   ·have c1:¬ (1:Int)+((i:Nat):Int)<=((n:Nat):Int):=dec_false c
    refine⟨_,_,g.seq hS,h0,.inr x,_,rfl,rfl,e2,_,_,t1.sq H',bM (j:=1) rfl,?_,rfl⟩
    rw[YG,Xh (by omega)]
    rfl
  rintro v H2 ⟨rfl,rfl⟩
  have hri:r[vs.length]? =some r[vs.length]:=Yh hi
  refine⟨_,.str r[vs.length],g.seq hS,?_,?_⟩
  ·rw[show (1:Int)+((vs.length:Nat):Int)=(((vs.length+1:Nat)):Int) from by omega]
   exact bM (by rw[Yq,Y4,hri];rfl)
  have hl1:(r[vs.length]).cps.toList.length<=900:=hw _ (Yf _ (Y7 hi))
  rw[List.drop_eq_getElem_cons hi]at eg
  have hk:=b1Y e1 vs.length
  generalize r[vs.length]=wd at hl1 eg
  rw[sE wd]
  dsimp only[tCons,dVar,tNil,List.set,oV,Y4,List.getElem?_cons_zero,Yz]
  refine c4C hv (SqL.of el') hl1 (hk.imp id fun ⟨k1,k2,k3⟩=>⟨k1,no.last k2 k3⟩) (fun v ev y H3 g3 hy hyk=>?_) (fun ev=>?_)
  ·rw [eO ev]at eg
   have el3:=g3 _ _ el'
   have hxl:xs.length<sizeLine:=nQ (by rw[hv.len];have:(x::r).length=r.length+1:=rfl;omega)
   have nl:∀z u,H z=some u->z≠l:=fun z u e c=>by rw[c,hl']at e;cases e
   have fin:∀H4,H4=upd H3 l (.lst (xs++[y]))->(∃x1 x2 x3, [some (V.ref a),some (.ref u),some (.ref l),some (.int (1+((vs.length:Nat):Int))),some (.str (nf.getD vs.length m)),some y]= [some (V.ref a),some (.ref u),some (.ref l),x1,x2,x3])/\Same H H4/\∃xs vs',H4 l=some (.lst xs)/\VlsAt H4 xs vs'/\vs'.length=vs.length+1/\rowGo nf m (r.drop (vs.length+1)) vs'=rowIn (x::r)/\NumsOk nf m vs':=fun H4 e4=>by
    subst e4
    refine⟨⟨_,_,_,rfl⟩,fun z o e=>by rw[aQ (nl z o e)];exact g3 _ _ (g _ _ e),xs++[y],vs++[v],aK,?_,by rw[Yj];rfl,eg,no.snoc ev⟩
    exact(hy.append (hv.imp fun z zs e=>g3 _ _ e)).imp fun z zs e=>by rw[aQ fun c=>by rw[c,el3]at e;cases e];exact e
   rcases hyk with ⟨z,rfl⟩ | ⟨z,rfl⟩
   ·exact⟨⟨_,SqL.of el3⟩,_,el3,hxl,fin _ rfl⟩
   ·exact⟨⟨_,SqL.of el3⟩,_,el3,hxl,fin _ rfl⟩
  ·intro H3 g3
   rw[zO ev]at eg
   have ez:(1:Int)+((vs.length:Nat):Int)=((vs.length+1:Nat):Int):=by omega
   rw[ez]
   refine⟨aN rfl,fun e_ t_ he_=>⟨e_,t_,(((vs.length+1):Nat):Int),rfl,aK,fun dx_ h1_ h2_=>⟨rfl,some dx_,?_,?_⟩⟩⟩
   ·rw[aQ (Ne.symm h2_),aK]
   ·rw[b0K he_ h2_]
    exact q2 (vs.length+1) eg.symm (some dx_) _ ((g.trans g3).trans (b2O he_ h1_ h2_)) ⟨dx_,rfl,aK⟩
 rintro σ H' ⟨⟨x1,x2,x3,rfl⟩,g,xs,vs,el',hv,lv,eg,no⟩
 rw[List.drop_length]at eg
 refine⟨_,.inl (SqL.of el'),_,.inr (t2.sq H'),?_⟩
 have eg':(if vs.length<nf.length then Except.error (vs.length+1) else .ok vs)=rowIn (x::r):=eg
 rw[Ya,hv.len]
 by_cases c:vs.length<nf.length
 ·rw [if_pos c]at eg'
  refine mX (by omega) ?_
  refine⟨_,.inl (g.seq hS),?_⟩
  rw[Ya]
  have ez:(x::r).length=vs.length+1:=by show r.length+1=_;rw[lv]
  rw[ez]
  refine⟨aN rfl,fun e_ t_ he_=>⟨e_,t_,(((vs.length+1):Nat):Int),rfl,aK,fun dx_ h1_ h2_=>⟨rfl,some dx_,?_,?_⟩⟩⟩
  ·rw[aQ (Ne.symm h2_),aK]
  ·rw[b0K he_ h2_]
   exact q2 (vs.length+1) eg'.symm (some dx_) _ (g.trans (b2O he_ h1_ h2_)) ⟨dx_,rfl,aK⟩
 rw[if_neg c]at eg'
 refine jM (by omega) ?_
 exact q _ eg'.symm l _ _ hl' g el' hv
-- def dotted
variable (uA:FB P w K mg base (CX0) 1 "dotted" a6N b0M ["numbers"] (spDot K))
include jG in
theorem b1N (F0:GFm K mg "dotted" a9Q a6N b0M):type_of% uA:=by
 refine fbK ["numbers"] F0 fun H Q nd hr h=>?_
 obtain⟨a,ds,rfl,hS,hl,hb,q⟩:=h
 refine⟨_,(aJ (aW (a3C aR (aA (rK rfl (ix:=[]) (sI (dv 0)) (fun C fp s0 H0 at0=>rJ) (fun C fp s0 H0 at0=>(cP rZ rfl jG tL (aA (dv 0) aB))) rfl rfl (by rfl) (show ([".0","number"]:List Str).Nodup by decide +kernel)) aB)))),?_⟩
 refine⟨⟨_,hS⟩,pZ (xs:=ds.map V.int) (fun i ys H'=>ys=(((ds.take i).map fun d=>PySem.Str.ofString (toString d)).map V.str)/\H'=H) ?_ ⟨rfl,rfl⟩ ?_ ?_ ?_⟩
 ·rintro i ys H' hi ⟨rfl,_⟩
  rw[Ya,Ya,YT]
  exact nQ (by omega)
 ·rintro i ys H' hi ⟨_,rfl⟩
  exact hS
 ·rintro i x ys H' hx ⟨rfl,rfl⟩
  obtain⟨hi,rfl⟩:=b6U hx
  obtain⟨n,en,hn⟩:=b7C (YH.mp hb _ (Y7 hi))
  refine⟨?_,?_,rfl⟩
  ·rw[en]
   exact Xf (Nat.log2_le_self _) (by show n<1920;omega)
  ·rw[YJ hi,Yu,Yu]
   rfl
 rintro ys H' ⟨rfl,rfl⟩ p hp
 rw[Ya,YD (Ye _)]
 refine⟨_,aK,b2Z (B:=6) (b4V hb) ?_,q _ (aX hp _)⟩
 have e1:(".":Str).length=1:=by decide +kernel
 rw[Ya,e1]
 omega
-- def frames_text
variable (cT:FB P w K mg base (CX0) 2 "frames_text" uJ yD ["frames"] (spFrsT K))
include jG uA in
theorem a1K (F0:GFm K mg "frames_text" xK uJ yD):type_of% cT:=by
 refine fbK ["frames"] F0 fun H Q nd hr h=>?_
 obtain⟨a,xs,fs,rfl,ea,hF,hl,hn,q⟩:=h
 refine⟨_,(aJ (aW (a3C aR (aA (rK rfl (ix:=[]) (sI (dv 0)) (fun C fp s0 H0 at0=>rJ) (fun C fp s0 H0 at0=>(bY yX (bY yX (cP rZ rfl jG tL (aA (cD (b2M (K:=K)) (dv 0) aH (fun _ _=>rfl)) aB)) aR) (bB uA.1 hr.mo rfl uA.2.2.2 uA.2.2.1 uA.2.1 .nil bU (aA (cD (b2M (K:=K)) (dv 0) aH (fun _ _=>rfl)) aB)))) rfl rfl (by rfl) (show ([".0","frame"]:List Str).Nodup by decide +kernel)) aB)))),?_⟩
 refine⟨⟨_,SqL.of ea⟩,pZ (xs:=xs) (fun i ys H'=>ys=((fs.take i).map frT).map V.str/\Same H H') ?_ ⟨rfl,Same.refl _⟩ ?_ ?_ ?_⟩
 ·rintro i ys H' hi ⟨rfl,_⟩
  rw[Ya,Ya,YT]
  exact nQ (by omega)
 ·rintro i ys H' hi ⟨_,g⟩
  exact SqL.of (g _ _ ea)
 ·rintro i x ys H' hx ⟨rfl,g⟩
  obtain⟨t,f,rfl,hf,dd,e1,e2,_⟩:=hF.get hx
  have hi:i<fs.length:=(Yc.mp hf).1
  have fn:=hn f (YA hf)
  have n1:=fn.1
  have n2:=fn.2.1
  refine⟨_,_,SqT.of (g _ _ e1),bM (j:=0) rfl,?_,?_⟩
  ·exact Xf (Nat.log2_le_self _) (by show f.1<1920;omega)
  refine⟨?_,_,_,SqT.of (g _ _ e1),bM (j:=1) rfl,dd,f.2,rfl,SqL.of (g _ _ e2),by omega,fn.2.2,fun H2 g2=>⟨?_,?_,g.trans g2⟩⟩
  ·exact szl (Yn (Xe (rM (n:=f.1) (by omega)) (show (":":Str).length<=1 by decide +kernel)) (by decide))
  ·have h1:=b6V fn
   unfold frT at h1
   rw[YV]at h1
   exact szl (Yn h1 (by decide))
  ·rw[YJ hi,Yu,Yu]
   have:fs[i]=f:=(Yc.mp hf).2
   rw[this]
   rfl
 rintro ys H' ⟨rfl,g⟩ p hp
 rw[hF.len,YD (Ye _)]
 exact⟨_,aK,c3B hn hl,q _ (g.trans (aX hp _))⟩
-- def part_of
variable (gH:FB P w K mg base (CX0) 1 "part_of" a3F a7P ["bits","start","end"] (spPart0 K))
theorem a9V (F0:GFm K mg "part_of" a7E a3F a7P):type_of% gH:=by
 refine fbK ["bits","start","end"] F0 fun H Q nd hr h=>?_
 obtain⟨a,s,e,rfl,ea,q⟩:=h
 refine⟨_,(aJ (aW (gD (nU (bH b2L (dv 1) (dv 2) (bG _)) (wA a9J (dv 0) (vK (dv 1)) (vK (dv 2))) (jL aB))))),?_⟩
 refine⟨fun v H'=>∃l,v= .ref l/\H l=none/\H'=upd H l (.lst []),?_,?_⟩
 ·conv=>whnf
  refine oG (fun c=>?_) (fun c=>?_)
  ·refine⟨_,SqL.of ea,fun l hl=>⟨l,rfl,hl,?_⟩⟩
   rw[c1N]
  ·exact⟨aN rfl,fun l hl=>⟨l,rfl,hl,rfl⟩⟩
 rintro v H' ⟨l,rfl,hl,rfl⟩
 exact q l hl
-- def Joiner_init
variable (lK:MB P w K mg base (CX0) 1 rG yP ["self"] (spJoI0 jT))
include oA bV cX jO iW jP fJ dU in
theorem a1W (F0:Fun K "__init__" "Joiner.__init__" xY rG yP):type_of% lK:=by
 refine mbK ["self"] F0 fun H Q nd hr h=>?_
 obtain⟨j,dx,rfl,e,q⟩:=h
 refine⟨_,(aD (jF bV cX (dv 0) wW) (aD (jF bV jO (dv 0) lW) (aD (jF bV iW (dv 0) aH) (aD (jF bV jP (dv 0) aH) (aD (jF bV fJ (dv 0) (jL aB)) (aJ (jF bV dU (dv 0) lW))))))),?_⟩
 refine⟨dx,_,e,by decide,?_⟩
 refine⟨dx,_,aK,(show 1<1000 by decide),?_⟩
 refine⟨dx,_,aK,(show 2<1000 by decide),?_⟩
 refine⟨dx,_,aK,(show 3<1000 by decide),?_⟩
 refine⟨aN rfl,fun jl hjl=>?_⟩
 have nj:j≠jl:=fun z=>by rw[z,aK]at hjl;cases hjl
 refine⟨dx,_,(aQ nj).trans aK,(show 4<1000 by decide),?_⟩
 refine⟨dx,_,aK,(show 5<1000 by decide),?_⟩
 refine q _ _ rfl aK fun x o hx ex=>?_
 have hxl:x≠jl:=fun z=>by
  rw[aQ (Ne.symm nj),aQ (Ne.symm nj),aQ (Ne.symm nj),aQ (Ne.symm nj)]at hjl
  rw[z,hjl]at ex;cases ex
 rw[aQ hx,aQ hx,aQ hxl,aQ hx,aQ hx,aQ hx,aQ hx]
 exact ex
-- def Joiner_end
variable (mQ:MB P w K mg base (CX0) 1 tW a0F ["self"] (spJoE0 jT))
include oA bV cX in
theorem a3S (F0:Fun K "end" "Joiner.end" zK tW a0F):type_of% mQ:=by
 refine mbK ["self"] F0 fun H Q nd hr h=>?_
 obtain⟨j,dx,fs,rfl,e,q⟩:=h
 refine⟨_,(aD (cM (sH (lX (fD bV cX (dv 0)))) (aJ (aW (jL aB))) bC) (aD a9C (aD a9C (aJ a9C)))),?_⟩
 refine⟨dx,_,.bl false,e,rfl,?_⟩
 exact⟨aN rfl,fun p hp=>q p hp⟩
-- def things_of
variable (kI:FB P w K mg base (CX0) 3 "things_of" wY a2D ["frames","name"] (spThs0 K))
include oA bV oX iJ lK mQ in
theorem a5N (F0:GFm K mg "things_of" a0T wY a2D):type_of% kI:=by
 refine fbK ["frames","name","joiner","told","frame"] F0 fun H Q nd hr h=>?_
 obtain⟨a,n,rfl,ea,q⟩:=h
 refine⟨_,(aD (bZ (i:=2) nd rfl (Or.inl rfl) (a9T oX lK.1 hr.mo rfl oA lK.2 .nil bU)) (aD (bZ (i:=3) nd rfl (Or.inl rfl) (jL aB)) (aD (zP Xj rfl (sI (dv 0)) (vJ (i:=4) nd rfl (Or.inl rfl)) (aJ a9C)) (aJ (aW (bY b3P (dv 3) (qH bV iJ mQ.1 hr.mo mQ.2 .nil bU (dv 2)))))))),?_⟩
 refine fun j dx hj hdx hne=>⟨j,dx,rfl,aK,fun H1 fs hfs ej k1=>?_⟩
 have g1:Same H H1:=fun z u e=>k1 z u (bO e hj) (by rw[aQ (bO e hj),aQ (bO e hdx)];exact e)
 refine⟨rfl,aN rfl,fun t ht=>?_⟩
 generalize eU:upd H1 t _=H2
 have g2:=nS ht eU
 have et:=nE eU
 have ej2:=g2 _ _ ej
 clear eU
 refine⟨⟨_,SqL.of (g2 _ _ (g1 _ _ ea))⟩,b0I (xs:=[]) (tb:=fun _ _ _=>False) (fun i σ H'=>(∃x,σ= [some (.ref a),some (.int n),some (.ref j),some (.ref t),x])/\H'=H2) ⟨⟨_,rfl⟩,rfl⟩ ?_ ?_ ?_⟩
 ·rintro i σ H' hi ⟨_,rfl⟩
  exact SqL.of (g2 _ _ (g1 _ _ ea))
 ·rintro i x σ H' hx _
  cases hx
 rintro σ H' ⟨⟨x,rfl⟩,rfl⟩
 refine⟨⟨dx,_,ej2,by rw[Y1,hfs];rfl⟩,j,dx,fs,rfl,ej2,fun p hp=>?_⟩
 have g3:=aX hp (.lst [])
 refine⟨[], [],g3 _ _ et,aK,by decide,fun p2 hp2=>?_⟩
 have g4:=g1.trans (g2.trans (g3.trans (aX hp2 (.lst []))))
 exact q p2 _ ((g1.trans (g2.trans g3)).none hp2) g4 aK
-- def say_hand
variable (pL:FB P w K mg base (CXR P w) 12 "say_hand" rP a4X ["desk","values"] (spSay K (fun r=>∃k n ds,r= .hand k n ds) dZ bF CA ⟨bA,aY,bI,aZ,bL⟩))
include bJ aV cC cH bK dW cN aF aM dG aL iQ in
theorem a7T (F0:GFm K mg "say_hand" a4M rP a4X):type_of% pL:=by
 refine fbM ["desk","values"] F0 fun Sc0=>F0.F.okR Sc0 (fun vs H Q E h=>?_) fun cdv A outer s H vs Q E hr h=>?_
 ·obtain⟨d,R,wp,o,dw,l,xs,row,n,rfl,_⟩:=h
  rfl
 obtain⟨d,R,wp,o,dw,l,xs,row,n,rfl,hD,el,nol,hv,hrow,hsm,hz,n8,wp8,q1,q2⟩:=h
 have nd:=Sc0.nd
 refine⟨_,(aD (jY (eG aF dG iQ.1 hr.mo iQ.2 .nil (lN fun _ _ _ z=>z) (fD aM aL (dv 0)) (aA (cD cZ (dv 1) aH (fun _ _=>rfl)) (aA (cD cZ (dv 1) aH (fun _ _=>rfl)) (aA (wA a9J (dv 1) (vK aH) a5M) aB))))) (aJ (aW aR))),?_⟩
 obtain⟨k,nm,ds,rfl⟩:=hrow
 have hx:=nJ (ns:=k::nm::ds) hv
 subst hx
 obtain⟨r,er,⟨wR,hR⟩,back⟩:=hD.rail
 refine⟨dw.dx,_,dw.rv,hD.ed,rfl,?_⟩
 rw[er]
 have ec:cutV ((itg (k::nm::ds)).map V.int) (some 2) none=(itg ds).map V.int:=(a3D (a:=2) (by simp)).trans rfl
 refine⟨⟨wR.dx,_,hR.er,rfl⟩,_,_,SqL.of el,bM (j:=0) rfl,_,_,SqL.of el,bM (j:=1) rfl,_,SqL.of el,fun p hp=>?_⟩
 rw[ec]
 generalize eU:upd H p _=H1
 have g1:=nS hp eU
 have ep:=nE eU
 clear eU
 have hsm':ds.length<=90:=hsm
 refine⟨r,R,dw.orl,wR,((k:Nat):Int),((nm:Nat):Int),p,itg ds,rfl,hR.same g1,SqL.of ep,by rw[Ya];omega,by have:=hz.ow;omega,fun S hS=>by have:=(hz.ps S hS).2.2.2;omega,fun no H' g=>?_,fun yes no H' g=>?_,fun i S ei eS ok=>?_⟩
 ·exact q1 .post (wN.1 _ (a4U (none_of no))) H' (g1.trans g)
 ·obtain⟨S,eS⟩:∃S,R.ps[k]? =some S:=⟨_,Yh (by omega)⟩
  exact q1 .frame (wN.1 _ (a2C eS no)) H' (g1.trans g)
 ·have ek:i=k:=by omega
  subst ek
  obtain⟨j,ej⟩:=hz.owner i nm
  refine⟨j,ej,fun ne H' g=>q1 .name (wN.1 _ (b0G eS ok ej ne)) H' (g1.trans g),fun e H' o' hR' m=>?_⟩
  subst e
  obtain⟨o2,hD2,m2⟩:=back H' _ o' hR' ((Mv.of g1).trans m)
  exact q2 _ _ _ (wN.2 _ (a2B eS ok ej)) H' o2 _ hD2 m2
-- def say_got
variable (rY:FB P w K mg base (CXR P w) 12 "say_got" uG a7O ["desk","values"] (spSay K (fun r=>∃k,r= .got k) dZ bF CA ⟨bA,aY,bI,aZ,bL⟩))
include bJ aV cC cH bK dW cN aF aM dN aL jV cT in
theorem a9U (F0:GFm K mg "say_got" a7D uG a7O):type_of% rY:=by
 refine fbM ["desk","values"] F0 fun Sc0=>F0.F.okR Sc0 (fun vs H Q E h=>?_) fun cdv A outer s H vs Q E hr h=>?_
 ·obtain⟨d,R,wp,o,dw,l,xs,row,n,rfl,_⟩:=h
  rfl
 obtain⟨d,R,wp,o,dw,l,xs,row,n,rfl,hD,el,nol,hv,hrow,hsm,hz,n8,wp8,q1,q2⟩:=h
 have nd:=Sc0.nd
 refine⟨_,(aJ (aW (bB cT.1 hr.mo rfl cT.2.2.2 cT.2.2.1 cT.2.1 .nil bU (aA (eG aF dN jV.1 hr.mo jV.2 .nil (lN fun _ _ _ z=>z) (fD aM aL (dv 0)) (aA (cD cZ (dv 1) aH (fun _ _=>rfl)) aB)) aB)))),?_⟩
 obtain⟨k,rfl⟩:=hrow
 have hx:=nJ (ns:=[k]) hv
 subst hx
 obtain⟨r,er,⟨wR,hR⟩,back⟩:=hD.rail
 refine⟨dw.dx,_,dw.rv,hD.ed,rfl,?_⟩
 rw[er]
 refine⟨⟨wR.dx,_,hR.er,rfl⟩,_,_,SqL.of el,bM (j:=0) rfl,r,R,dw.orl,wR,((k:Nat):Int),rfl,hR,fun i S ei eS=>?_,fun no H' g=>q1 .post (yV (none_of no)) H' g⟩
 have ek:i=k:=by omega
 subst ek
 obtain⟨z1,z2,z3,z4⟩:=hz.ps S (YA eS)
 refine⟨by rw[z3];exact YO _,fun l2 xs2 H1 hl2 g1 el2 hF=>⟨l2,xs2,S.up,rfl,el2,hF.at_,by rw[z3];exact YO _,by rw[z3];exact fun f hf=>(by cases hf),fun H2 g2=>?_⟩⟩
 exact q2 _ _ _ (uU eS) H2 o dw (hD.same (g1.trans g2)) (Mv.of (g1.trans g2))
-- def say_waits
variable (lU:FB P w K mg base (CXR P w) 12 "say_waits" pG a2F ["desk","values"] (spSay K (fun r=>∃k,r= .waits k) dZ bF CA ⟨bA,aY,bI,aZ,bL⟩))
include bJ aV cC cH bK dW cN aF aM iG aL mK cT in
theorem a5P (F0:GFm K mg "say_waits" a0V pG a2F):type_of% lU:=by
 refine fbM ["desk","values"] F0 fun Sc0=>F0.F.okR Sc0 (fun vs H Q E h=>?_) fun cdv A outer s H vs Q E hr h=>?_
 ·obtain⟨d,R,wp,o,dw,l,xs,row,n,rfl,_⟩:=h
  rfl
 obtain⟨d,R,wp,o,dw,l,xs,row,n,rfl,hD,el,nol,hv,hrow,hsm,hz,n8,wp8,q1,q2⟩:=h
 have nd:=Sc0.nd
 refine⟨_,(aJ (aW (bB cT.1 hr.mo rfl cT.2.2.2 cT.2.2.1 cT.2.1 .nil bU (aA (eG aF iG mK.1 hr.mo mK.2 .nil (lN fun _ _ _ z=>z) (fD aM aL (dv 0)) (aA (cD cZ (dv 1) aH (fun _ _=>rfl)) aB)) aB)))),?_⟩
 obtain⟨k,rfl⟩:=hrow
 have hx:=nJ (ns:=[k]) hv
 subst hx
 obtain⟨r,er,⟨wR,hR⟩,back⟩:=hD.rail
 refine⟨dw.dx,_,dw.rv,hD.ed,rfl,?_⟩
 rw[er]
 refine⟨⟨wR.dx,_,hR.er,rfl⟩,_,_,SqL.of el,bM (j:=0) rfl,r,R,dw.orl,wR,((k:Nat):Int),rfl,hR,fun i S ei eS=>?_,fun no H' g=>q1 .post (yV (none_of no)) H' g⟩
 have ek:i=k:=by omega
 subst ek
 obtain⟨z1,z2,z3,z4⟩:=hz.ps S (YA eS)
 obtain⟨p,oi,_,hP⟩:=hR.at eS
 refine⟨by omega,fun l2 xs2 H1 hl2 g1 el2 hF=>⟨l2,xs2,S.wt,rfl,el2,hF.at_,by omega,hP.wf.wt,fun H2 g2=>?_⟩⟩
 exact q2 _ _ _ (uU eS) H2 o dw (hD.same (g1.trans g2)) (Mv.of (g1.trans g2))
-- def say_faults
variable (kW:FB P w K mg base (CXR P w) 12 "say_faults" mD zZ ["desk","values"] (spSay K (fun r=>∃k,r= .faults k) dZ bF CA ⟨bA,aY,bI,aZ,bL⟩))
include bJ aV cC cH bK dW cN jG aF aM fV aL lF in
theorem a3M (F0:GFm K mg "say_faults" zB mD zZ):type_of% kW:=by
 refine fbM ["desk","values"] F0 fun Sc0=>F0.F.okR Sc0 (fun vs H Q E h=>?_) fun cdv A outer s H vs Q E hr h=>?_
 ·obtain⟨d,R,wp,o,dw,l,xs,row,n,rfl,_⟩:=h
  rfl
 obtain⟨d,R,wp,o,dw,l,xs,row,n,rfl,hD,el,nol,hv,hrow,hsm,hz,n8,wp8,q1,q2⟩:=h
 have nd:=Sc0.nd
 refine⟨_,(aJ (aW (cP rZ rfl jG tL (aA (eG aF fV lF.1 hr.mo lF.2 .nil (lN fun _ _ _ z=>z) (fD aM aL (dv 0)) (aA (cD cZ (dv 1) aH (fun _ _=>rfl)) aB)) aB)))),?_⟩
 obtain⟨k,rfl⟩:=hrow
 have hx:=nJ (ns:=[k]) hv
 subst hx
 obtain⟨r,er,⟨wR,hR⟩,back⟩:=hD.rail
 refine⟨dw.dx,_,dw.rv,hD.ed,rfl,?_⟩
 rw[er]
 refine⟨⟨wR.dx,_,hR.er,rfl⟩,_,_,SqL.of el,bM (j:=0) rfl,r,R,dw.orl,wR,((k:Nat):Int),rfl,hR,fun i S ei eS=>?_,fun no H' g=>q1 .post (yV (none_of no)) H' g⟩
 have ek:i=k:=by omega
 subst ek
 obtain⟨z1,z2,z3,z4⟩:=hz.ps S (YA eS)
 refine⟨by rw[z2];decide,?_⟩
 exact q2 _ _ _ (uU eS) H o dw hD (Mv.refl)
-- def say_stance
variable (kO:FB P w K mg base (CXR P w) 12 "say_stance" lZ zY ["desk","values"] (spSay K (fun r=>∃k,r= .stance k) dZ bF CA ⟨bA,aY,bI,aZ,bL⟩))
include bJ aV cC cH bK dW cN jG aF aM fQ aL lD in
theorem a3L (F0:GFm K mg "say_stance" zA lZ zY):type_of% kO:=by
 refine fbM ["desk","values","stance"] F0 fun Sc0=>F0.F.okR Sc0 (fun vs H Q E h=>?_) fun cdv A outer s H vs Q E hr h=>?_
 ·obtain⟨d,R,wp,o,dw,l,xs,row,n,rfl,_⟩:=h
  rfl
 obtain⟨d,R,wp,o,dw,l,xs,row,n,rfl,hD,el,nol,hv,hrow,hsm,hz,n8,wp8,q1,q2⟩:=h
 have nd:=Sc0.nd
 refine⟨_,(aD (bZ (i:=2) nd rfl (Or.inl rfl) (eG aF fQ lD.1 hr.mo lD.2 .nil (lN fun _ _ _ z=>z) (fD aM aL (dv 0)) (aA (cD cZ (dv 1) aH (fun _ _=>rfl)) aB))) (aJ (aW (bY yX (bY yX (cD a7R (dv 2) aH (fun _ _=>rfl)) aR) (cP rZ rfl jG tL (aA (cD a7R (dv 2) aH (fun _ _=>rfl)) aB)))))),?_⟩
 obtain⟨k,rfl⟩:=hrow
 have hx:=nJ (ns:=[k]) hv
 subst hx
 obtain⟨r,er,⟨wR,hR⟩,back⟩:=hD.rail
 refine⟨dw.dx,_,dw.rv,hD.ed,rfl,?_⟩
 rw[er]
 refine⟨⟨wR.dx,_,hR.er,rfl⟩,_,_,SqL.of el,bM (j:=0) rfl,r,R,dw.orl,wR,((k:Nat):Int),rfl,hR,fun i S ei eS=>?_,fun no H' g=>q1 .post (yV (none_of no)) H' g⟩
 have ek:i=k:=by omega
 subst ek
 obtain⟨z1,z2,z3,z4⟩:=hz.ps S (YA eS)
 refine⟨0,z1,fun t H1 ht g1 et=>?_⟩
 refine⟨_,_,SqT.of et,bM (j:=0) rfl,?_⟩
 refine⟨by decide +kernel,_,_,SqT.of et,bM (j:=1) rfl,by decide,by decide +kernel,?_⟩
 refine q2 _ _ _ ((uU eS).trans ?_) H1 o dw (hD.same g1) (Mv.of g1)
 rw[z1]
 rfl
-- def say_wrong
variable (lR:FB P w K mg base (CXR P w) 12 "say_wrong" pD a2E ["desk","values"] (spSay K (fun r=>∃k t,r= .wrong k t) dZ bF CA ⟨bA,aY,bI,aZ,bL⟩))
include bJ aV cC cH bK dW cN aF aM fU aL cL lE in
theorem a5O (F0:GFm K mg "say_wrong" a0U pD a2E):type_of% lR:=by
 refine fbM ["desk","values"] F0 fun Sc0=>F0.F.okR Sc0 (fun vs H Q E h=>?_) fun cdv A outer s H vs Q E hr h=>?_
 ·obtain⟨d,R,wp,o,dw,l,xs,row,n,rfl,_⟩:=h
  rfl
 obtain⟨d,R,wp,o,dw,l,xs,row,n,rfl,hD,el,nol,hv,hrow,hsm,hz,n8,wp8,q1,q2⟩:=h
 have nd:=Sc0.nd
 refine⟨_,(aD (jY (eG aF fU lE.1 hr.mo lE.2 .nil (lN fun _ _ _ z=>z) (fD aM aL (dv 0)) (aA (cD cZ (dv 1) aH (fun _ _=>rfl)) aB))) (aD (jY (vQ (fD aM cL (dv 0)) (aA (gC (aA (cD cZ (dv 1) aH (fun _ _=>rfl)) (aA (cD cZ (dv 1) aH (fun _ _=>rfl)) aB))) aB))) (aJ (aW aR)))),?_⟩
 obtain⟨k,t,rfl⟩:=hrow
 have hx:=nJ (ns:=[k,t]) hv
 subst hx
 obtain⟨r,er,⟨wR,hR⟩,back⟩:=hD.rail
 refine⟨dw.dx,_,dw.rv,hD.ed,rfl,?_⟩
 rw[er]
 refine⟨⟨wR.dx,_,hR.er,rfl⟩,_,_,SqL.of el,bM (j:=0) rfl,r,R,dw.orl,wR,((k:Nat):Int),rfl,hR,fun i S ei eS=>?_,fun no H' g=>q1 .post (if_neg (by omega)) H' g⟩
 have ek:i=k:=by omega
 subst ek
 refine⟨dw.dx,_,.ref dw.wl,hD.ed,rfl,⟨_,SqL.of hD.ew⟩,_,_,SqL.of el,bM (j:=0) rfl,_,_,SqL.of el,bM (j:=1) rfl,aN rfl,fun q hq=>?_⟩
 generalize eU:upd H q _=H1
 have g1:=nS hq eU
 have eq:=nE eU
 clear eU
 have hD1:=hD.same g1
 have hl:=hD1.ww.len
 rw[Ya]at hl
 refine⟨_,hD1.ew,nQ (by omega),?_⟩
 obtain⟨hD2,m2⟩:=hD1.mark eq
 exact q2 _ _ _ (if_pos (Yc.mp eS).1) _ o _ hD2 ((Mv.of g1).trans m2)
-- def say_things
variable (kJ:FB P w K mg base (CXR P w) 12 "say_things" lY zX ["desk","values"] (spSay K (fun r=>∃k n,r= .things k n) dZ bF CA ⟨bA,aY,bI,aZ,bL⟩))
include bJ aV cC cH bK oA dW cN aF aM dN aL jV kI in
theorem a3K (F0:GFm K mg "say_things" yZ lY zX):type_of% kJ:=by
 refine fbM ["desk","values"] F0 fun Sc0=>F0.F.okR Sc0 (fun vs H Q E h=>?_) fun cdv A outer s H vs Q E hr h=>?_
 ·obtain⟨d,R,wp,o,dw,l,xs,row,n,rfl,_⟩:=h
  rfl
 obtain⟨d,R,wp,o,dw,l,xs,row,n,rfl,hD,el,nol,hv,hrow,hsm,hz,n8,wp8,q1,q2⟩:=h
 have nd:=Sc0.nd
 refine⟨_,(aJ (aW (a3C aR (aA (rK rfl (ix:=[]) (sI (bB kI.1 hr.mo rfl kI.2.2.2 kI.2.2.1 kI.2.1 .nil bU (aA (eG aF dN jV.1 hr.mo jV.2 .nil (lN fun _ _ _ z=>z) (fD aM aL (dv 0)) (aA (cD cZ (dv 1) aH (fun _ _=>rfl)) aB)) (aA (cD cZ (dv 1) aH (fun _ _=>rfl)) aB)))) (fun C fp s0 H0 at0=>rJ) (fun C fp s0 H0 at0=>b6J) rfl rfl (by rfl) (show ([".0","told"]:List Str).Nodup by decide +kernel)) aB)))),?_⟩
 obtain⟨k,nm,rfl⟩:=hrow
 have hx:=nJ (ns:=[k,nm]) hv
 subst hx
 obtain⟨r,er,⟨wR,hR⟩,back⟩:=hD.rail
 refine⟨dw.dx,_,dw.rv,hD.ed,rfl,?_⟩
 rw[er]
 refine⟨⟨wR.dx,_,hR.er,rfl⟩,_,_,SqL.of el,bM (j:=0) rfl,r,R,dw.orl,wR,((k:Nat):Int),rfl,hR,fun i S ei eS=>?_,fun no H' g=>q1 .post (yV (none_of no)) H' g⟩
 have ek:i=k:=by omega
 subst ek
 obtain⟨z1,z2,z3,z4⟩:=hz.ps S (YA eS)
 refine⟨by rw[z3];exact YO _,fun l2 xs2 H1 hl2 g1 el2 hF=>?_⟩
 rw[z3]at hF
 cases hF
 refine⟨_,_,SqL.of (g1 _ _ el),bM (j:=1) rfl,l2,((nm:Nat):Int),rfl,el2,fun p H2 hp g2 ep=>?_⟩
 have g12:=g1.trans g2
 refine⟨⟨_,SqL.of ep⟩,pZ (xs:=[]) (fun i ys H'=>ys= []/\H'=H2) ?_ ⟨rfl,rfl⟩ ?_ ?_ ?_⟩
 ·rintro i ys H' hi ⟨rfl,_⟩
  exact aN rfl
 ·rintro i ys H' hi ⟨_,rfl⟩
  exact SqL.of ep
 ·rintro i x ys H' hx _
  cases hx
 rintro ys H' ⟨rfl,rfl⟩ p2 hp2
 have g3:=g12.trans (aX hp2 (.lst []))
 refine⟨[],aK,by decide +kernel,?_⟩
 exact q2 _ _ _ (uU eS) _ o dw (hD.same g3) (Mv.of g3)
-- def say_draw
variable (pM:FB P w K mg base (CXR P w) 12 "say_draw" rQ a4Y ["desk","values"] (spSay K (fun r=>∃k s e,r= .draw k s e) dZ bF CA ⟨bA,aY,bI,aZ,bL⟩))
include bJ aV cC cH bK dW cN aF aM iH aL mL tZ gH in
theorem a7U (F0:GFm K mg "say_draw" a4N rQ a4Y):type_of% pM:=by
 refine fbM ["desk","values","heard"] F0 fun Sc0=>F0.F.okR Sc0 (fun vs H Q E h=>?_) fun cdv A outer s H vs Q E hr h=>?_
 ·obtain⟨d,R,wp,o,dw,l,xs,row,n,rfl,_⟩:=h
  rfl
 obtain⟨d,R,wp,o,dw,l,xs,row,n,rfl,hD,el,nol,hv,hrow,hsm,hz,n8,wp8,q1,q2⟩:=h
 have nd:=Sc0.nd
 refine⟨_,(aD (bZ (i:=2) nd rfl (Or.inl rfl) (bB gH.1 hr.mo rfl gH.2.2.2 gH.2.2.1 gH.2.1 .nil bU (aA (eG aF iH mL.1 hr.mo mL.2 .nil (lN fun _ _ _ z=>z) (fD aM aL (dv 0)) (aA (cD cZ (dv 1) aH (fun _ _=>rfl)) aB)) (aA (cD cZ (dv 1) aH (fun _ _=>rfl)) (aA (cD cZ (dv 1) aH (fun _ _=>rfl)) aB))))) (aJ (aW (a3C aR (aA (bB tZ.1 hr.mo rfl tZ.2.2.2 tZ.2.2.1 tZ.2.1 .nil bU (aA (dv 2) (aA (cD cZ (dv 1) aH (fun _ _=>rfl)) aB))) aB))))),?_⟩
 obtain⟨k,s,e,rfl⟩:=hrow
 have hx:=nJ (ns:=[k,s,e]) hv
 subst hx
 obtain⟨r,er,⟨wR,hR⟩,back⟩:=hD.rail
 refine⟨dw.dx,_,dw.rv,hD.ed,rfl,?_⟩
 rw[er]
 refine⟨⟨wR.dx,_,hR.er,rfl⟩,_,_,SqL.of el,bM (j:=0) rfl,r,R,dw.orl,wR,((k:Nat):Int),rfl,hR,fun i xs ei ex l1 hl1=>?_,fun no H' g=>q1 .post (yV (none_of no)) H' g⟩
 have ek:i=k:=by omega
 subst ek
 have x0:=hz.he xs (YA ex)
 subst x0
 generalize eU:upd H l1 _=H1
 have g1:=nS hl1 eU
 have e1:=nE eU
 clear eU
 refine⟨_,_,SqL.of (g1 _ _ el),bM (j:=1) rfl,_,_,SqL.of (g1 _ _ el),bM (j:=2) rfl,l1,((s:Nat):Int),((e:Nat):Int),rfl,e1,fun l2 hl2=>?_⟩
 have g2:=g1.trans (aX hl2 (.lst []))
 have e2:=aK (H:=H1) (a:=l2) (o:= .lst [])
 generalize upd H1 l2 _=H2 at g2 e2
 refine⟨_,_,SqL.of (g2 _ _ el),bM (j:=1) rfl,l2,((s:Nat):Int),rfl,SqL.of e2,fun p H3 hp g3 ep=>?_⟩
 refine⟨[],ep,by decide +kernel,?_⟩
 exact q2 _ _ _ (uU (S:=R.ps[i]'(by have:=hR.l4;have ex':R.he[i]? =some []:=ex;have:=(Yc.mp ex').1;omega)) (Yh _)) H3 o dw (hD.same (g2.trans g3)) (Mv.of (g2.trans g3))
-- def say_thing
variable (lV:FB P w K mg base (CXR P w) 12 "say_thing" pH a2G ["desk","values"] (spSay K (fun r=>∃k n g ds,r= .thing k n g ds) dZ bF CA ⟨bA,aY,bI,aZ,bL⟩))
include bJ aV cC cH bK dW cN cO jG aF aM dG aL iQ a6P in
theorem a5Q (F0:GFm K mg "say_thing" a0W pH a2G):type_of% lV:=by
 refine fbM ["desk","values","pieces","piece"] F0 fun Sc0=>F0.F.okR Sc0 (fun vs H Q E h=>?_) fun cdv A outer s H vs Q E hr h=>?_
 ·obtain⟨d,R,wp,o,dw,l,xs,row,n,rfl,_⟩:=h
  rfl
 obtain⟨d,R,wp,o,dw,l,xs,row,n,rfl,hD,el,nol,hv,hrow,hsm,hz,n8,wp8,q1,q2⟩:=h
 have nd:=Sc0.nd
 refine⟨_,(aD (bZ (i:=2) nd rfl (Or.inl rfl) (bB a6P.1 hr.mo rfl a6P.2.2.2 a6P.2.2.1 a6P.2.1 .nil (lN fun _ _ _ z=>z) (aA (cD cZ (dv 1) aH (fun _ _=>rfl)) (aA (wA a9J (dv 1) (vK aH) a5M) aB)))) (aD (zP PassesOwn.leaving rfl (sI (dv 2)) (vJ (i:=3) nd rfl (Or.inl rfl)) (aJ (jY (eG aF dG iQ.1 hr.mo iQ.2 .nil (lN fun _ _ _ z=>z) (fD aM aL (dv 0)) (aA (cD cZ (dv 1) aH (fun _ _=>rfl)) (aA (cD cZ (dv 1) aH (fun _ _=>rfl)) (aA (dv 3) aB))))))) (aJ (aW (bY yX aR (cP rZ rfl jG tL (aA (bR nH rfl cO iM (aA (dv 2) aB)) aB))))))),?_⟩
 obtain⟨k,nm,g,ds,rfl⟩:=hrow
 have hx:=nJ (ns:=k::nm::g::ds) hv
 subst hx
 have hsm':ds.length<=90:=hsm
 have ec:cutV ((itg (k::nm::g::ds)).map V.int) (some 3) none=(itg ds).map V.int:=(a3D (a:=3) (by simp)).trans rfl
 refine⟨_,_,SqL.of el,bM (j:=2) rfl,_,SqL.of el,fun p hp=>?_⟩
 rw[ec]
 generalize eU:upd H p _=H1
 have g1:=nS hp eU
 have ep:=nE eU
 clear eU
 refine⟨((g:Nat):Int),p,itg ds,rfl,SqL.of ep,by rw[Ya];omega,fun tg pl qs H2 hpl hqs hnd hpq g2 epl lq hpc=>?_,fun no H' g'=>q1 .thing (c1S no) H' (g1.trans g')⟩
 have g12:=g1.trans g2
 have npl:¬ o pl:=fun z=>hD.al pl z (g1.none hpl)
 have nq:∀q∈qs,¬ o q:=fun q hq z=>hD.al q z (g1.none (hqs q hq))
 have hps:pieces ((g:Nat):Int) (itg ds)=(List.range (nP (itg ds))).map fun j=>pc ((g:Nat):Int) (nP (itg ds)) j (itg ds):=rfl
 have pl_:(pieces ((g:Nat):Int) (itg ds)).length=nP (itg ds):=by rw[hps,Ya,List.length_range]
 have n15:nP (itg ds)<=15:=by have:=tg.2.1;unfold nP;omega
 have n1:1<=nP (itg ds):=by unfold nP;omega
 refine⟨⟨_,SqL.of epl⟩,b0I (xs:=qs.map V.ref) (fun i σ H'=>(∃x,σ= [some (.ref d),some (.ref l),some (.ref pl),x])/\∃Ri oi wi,handL k nm ((pieces ((g:Nat):Int) (itg ds)).take i) R= .ok Ri/\DeskAt dZ bF CA H' d (some Ri) wp oi wi/\Mv o H2 oi H'/\Z83 Ri (n+i)/\(0<i->Owns Ri k nm)/\(i=0->H'=H2/\Ri=R)) ⟨⟨_,rfl⟩,R,o,dw,rfl,hD.same g12,Mv.refl,hz,fun z=>absurd z (YW _),fun _=>⟨rfl,rfl⟩⟩ ?_ ?_ ?_⟩
 ·rintro i σ H' hi ⟨_,Ri,oi,wi,_,_,m,_⟩
  exact SqL.of (m.1 _ _ epl (.inl npl))
 ·rintro i v σ H' hv' ⟨⟨x,rfl⟩,Ri,oi,wi,eL,hDi,m,zi,own,zero⟩
  rw[Yq]at hv'
  obtain⟨q,hq,rfl⟩:=Yt.mp hv'
  have hi:i<nP (itg ds):=by rw[<-lq];exact(Yc.mp hq).1
  have eq:=m.1 _ _ (hpc i q hq) (.inl (nq q (YA hq)))
  have el':=m.1 _ _ (g12 _ _ el) (.inl nol)
  obtain⟨r,er,⟨wR,hR⟩,back⟩:=hDi.rail
  refine⟨wi.dx,_,wi.rv,hDi.ed,rfl,?_⟩
  rw[er]
  have pk:(pieces ((g:Nat):Int) (itg ds))[i]? =some (pc ((g:Nat):Int) (nP (itg ds)) i (itg ds)):=by rw[hps,Yq,List.getElem?_range hi];rfl
  have eT:(pieces ((g:Nat):Int) (itg ds)).take (i+1)=(pieces ((g:Nat):Int) (itg ds)).take i++[pc ((g:Nat):Int) (nP (itg ds)) i (itg ds)]:=by
   rw[List.take_succ,pk]
   rfl
  have pl7:=c4Q ((g:Nat):Int) (nP (itg ds)) i (itg ds)
  have pby:=c4R tg hi
  generalize pc ((g:Nat):Int) (nP (itg ds)) i (itg ds)=P0 at eq pk eT pl7 pby
  have eL':handL k nm ((pieces ((g:Nat):Int) (itg ds)).take (i+1)) R=handR Ri k nm P0:=by rw[eT];exact b0H eL
  have bad:∀e,handR Ri k nm P0= .error e->∀H3,Same H' H3->E (.ref (Ex5.at ⟨bA,aY,bI,aZ,bL⟩ e)) none H3:=fun e he H3 g3=>by
   have i0:i=0:=by
    rcases Nat.eq_zero_or_pos i with z | z
    ·exact z
    ·obtain⟨R',e'⟩:=(own z).hand pl7 pby
     cases e'.symm.trans he
   subst i0
   obtain⟨rfl,rfl⟩:=zero rfl
   refine q1 e ((a3E tg).1 e ?_) H3 (g12.trans g3)
   obtain⟨y,ys,ey⟩:∃y ys,pieces ((g:Nat):Int) (itg ds)=y::ys:=by
    cases ez:pieces ((g:Nat):Int) (itg ds) with
    |nil=>rw[ez]at pk;cases pk
    |cons y ys=>exact⟨y,ys,rfl⟩
   rw[ey]at pk ⊢
   cases pk
   exact b8K he
  have z83:=zi.ow
  refine⟨⟨wR.dx,_,hR.er,rfl⟩,_,_,SqL.of el',bM (j:=0) rfl,_,_,SqL.of el',bM (j:=1) rfl,r,Ri,wi.orl,wR,((k:Nat):Int),((nm:Nat):Int),q,P0,rfl,hR,SqL.of eq,by omega,by omega,fun S hS=>by have:=(zi.ps S hS).2.2.2;omega,fun no H3 g3=>?_,fun yes no H3 g3=>?_,fun i' S ei eS ok=>?_⟩
  ·exact bad .post (a4U (none_of no)) H3 g3
  ·obtain⟨S,eS⟩:∃S,Ri.ps[k]? =some S:=⟨_,Yh (by omega)⟩
   exact bad .frame (a2C eS no) H3 g3
  ·have ek:i'=k:=by omega
   subst ek
   obtain⟨j,ej⟩:=zi.owner i' nm
   refine⟨j,ej,fun ne H3 g3=>bad .name (b0G eS ok ej ne) H3 g3,fun e H3 o3 hR3 m3=>?_⟩
   subst e
   have eR:=a2B eS ok ej
   obtain⟨o4,hD4,m4⟩:=back H3 _ o3 hR3 m3
   exact⟨⟨_,rfl⟩,_,o4,_,eL'.trans eR,hD4,m.trans m4,zi.hand eR,fun _=>Owns.of eR,fun z=>by cases z⟩
 rintro σ H' ⟨⟨x,rfl⟩,Ri,oi,wi,eL,hDi,m,zi,own,zero⟩
 rw[Ya,lq,YD (by rw[pl_];exact Ye _)]at eL
 refine⟨_,.inl (SqL.of (m.1 _ _ epl (.inl npl))),?_⟩
 rw[Ya,lq]
 refine⟨?_,?_,?_⟩
 ·exact Xf (Nat.log2_le_self _) (by show nP (itg ds)<1920;omega)
 ·exact szl (Yn (Xe (show ("ok ":Str).length<=3 by decide +kernel) (rM (n:=nP (itg ds)) (by omega))) (by decide))
 exact q2 _ _ _ ((a3E tg).2 _ eL) H' oi wi hDi ((Mv.of g12).trans m)
-- def drawn
variable (vP:FB P w K mg base (CX0) 1 "drawn" a9H b3E ["bits"] (spDrawn0 K))
include jG in
theorem b3Z (F0:GFm K mg "drawn" b2P a9H b3E):type_of% vP:=by
 refine fbK ["bits"] F0 fun H Q nd hr h=>?_
 obtain⟨a,rfl,ea,q⟩:=h
 refine⟨_,(aJ (aW (a3C aR (aA (rK rfl (ix:=[]) (sI (dv 0)) (fun C fp s0 H0 at0=>rJ) (fun C fp s0 H0 at0=>(cP rZ rfl jG tL (aA (dv 0) aB))) rfl rfl (by rfl) (show ([".0","bit"]:List Str).Nodup by decide +kernel)) aB)))),?_⟩
 refine⟨⟨_,SqL.of ea⟩,pZ (xs:=[]) (fun i ys H'=>ys= []/\H'=H) ?_ ⟨rfl,rfl⟩ ?_ ?_ ?_⟩
 ·rintro i ys H' hi ⟨rfl,_⟩
  exact aN rfl
 ·rintro i ys H' hi ⟨_,rfl⟩
  exact SqL.of ea
 ·rintro i x ys H' hx _
  cases hx
 rintro ys H' ⟨rfl,rfl⟩ p hp
 exact⟨[],aK,by decide +kernel,q _ (aX hp _)⟩
-- def say_bits
variable (pN:FB P w K mg base (CXR P w) 12 "say_bits" rR a4Z ["desk","values"] (spSay K (fun r=>∃s e,r= .bits s e) dZ bF CA ⟨bA,aY,bI,aZ,bL⟩))
include bJ aV cC cH bK dW cN aF aM jD aL pP gH vP in
theorem a7V (F0:GFm K mg "say_bits" a4O rR a4Z):type_of% pN:=by
 refine fbM ["desk","values"] F0 fun Sc0=>F0.F.okR Sc0 (fun vs H Q E h=>?_) fun cdv A outer s H vs Q E hr h=>?_
 ·obtain⟨d,R,wp,o,dw,l,xs,row,n,rfl,_⟩:=h
  rfl
 obtain⟨d,R,wp,o,dw,l,xs,row,n,rfl,hD,el,nol,hv,hrow,hsm,hz,n8,wp8,q1,q2⟩:=h
 have nd:=Sc0.nd
 refine⟨_,(aJ (aW (bB vP.1 hr.mo rfl vP.2.2.2 vP.2.2.1 vP.2.1 .nil bU (aA (bB gH.1 hr.mo rfl gH.2.2.2 gH.2.2.1 gH.2.1 .nil bU (aA (qH aF jD pP.1 hr.mo pP.2 .nil bU (fD aM aL (dv 0))) (aA (cD cZ (dv 1) aH (fun _ _=>rfl)) (aA (cD cZ (dv 1) aH (fun _ _=>rfl)) aB)))) aB)))),?_⟩
 obtain⟨s,e,rfl⟩:=hrow
 have hx:=nJ (ns:=[s,e]) hv
 subst hx
 obtain⟨r,er,⟨wR,hR⟩,back⟩:=hD.rail
 refine⟨dw.dx,_,dw.rv,hD.ed,rfl,?_⟩
 rw[er]
 refine⟨⟨wR.dx,_,hR.er,rfl⟩,r,R,dw.orl,wR,rfl,hR,fun l1 hl1=>?_⟩
 rw[hz.bo]
 generalize eU:upd H l1 _=H1
 have g1:=nS hl1 eU
 have e1:=nE eU
 clear eU
 refine⟨_,_,SqL.of (g1 _ _ el),bM (j:=0) rfl,_,_,SqL.of (g1 _ _ el),bM (j:=1) rfl,l1,((s:Nat):Int),((e:Nat):Int),rfl,e1,fun l2 hl2=>?_⟩
 have g2:=g1.trans (aX hl2 (.lst []))
 have e2:=aK (H:=H1) (a:=l2) (o:= .lst [])
 generalize upd H1 l2 _=H2 at g2 e2
 exact⟨l2,rfl,e2,fun H3 g3=>q2 _ _ _ rfl H3 o dw (hD.same (g2.trans g3)) (Mv.of (g2.trans g3))⟩
-- def Desk_init
variable (pW:MB P w K mg base (CX0) 1 vC a2S ["self"] (spDkInit dZ))
include dW aM aL cL in
theorem a6C (F0:Fun K "__init__" "Desk.__init__" a1H vC a2S):type_of% pW:=by
 refine mbK ["self"] F0 fun H Q nd hr h=>?_
 obtain⟨d,dx,rfl,e,q⟩:=h
 refine⟨_,(aD (jF aM aL (dv 0) lW) (aJ (jF aM cL (dv 0) (jL aB)))),?_⟩
 refine⟨dx,_,e,by decide,?_⟩
 refine⟨aN rfl,fun wl hwl=>?_⟩
 have nj:d≠wl:=fun z=>by rw[z,aK]at hwl;cases hwl
 refine⟨dx,_,(aQ nj).trans aK,(show 1<1000 by decide),?_⟩
 have hwl':H wl=none:=by rw[aQ (Ne.symm nj)]at hwl;exact hwl
 refine q _ wl hwl' aK (by rw[aQ (Ne.symm nj),aK]) fun x u hx ex=>?_
 rw[aQ hx,aQ (fun z=>by rw[z,hwl']at ex;cases ex),aQ hx]
 exact ex
-- def Desk_put_up
variable (lL:MB P w K mg base (CXR P w) 11 rH yQ ["self","values"] (spPutUp dZ bF CA bA))
include aV cC dW aM sX aL cL pO in
theorem a1X (F0:Fun K "put_up" "Desk.put_up" xZ rH yQ):type_of% lL:=by
 refine mbM ["self","values"] F0 fun Sc0=>F0.okR Sc0 (fun vs H Q E h=>?_) fun cdv A outer s H vs Q E hr h=>?_
 ·obtain⟨d,st,wp,o,w,l,xs,v,cs,rfl,_⟩:=h
  rfl
 obtain⟨d,st,wp,o,dw,l,xs,v,cs,rfl,hD,el,hv,hcs,q1,q2⟩:=h
 have nd:=Sc0.nd
 refine⟨_,(aD (jF aM aL (dv 0) (b2T sX pO.1 hr.mo rfl cC pO.2 .nil (lN fun _ _ _ z=>z) (aA (wA a9J (dv 1) (vK aH) a5M) (aA (cD cZ (dv 1) aH (fun _ _=>rfl)) aB)))) (aD (jF aM cL (dv 0) (jL aB)) (aJ (aW aR)))),?_⟩
 have hv':VlsAt H xs (.num v::cs.map fun c=> .cho c.1 c.2):=hv
 cases hv' with
 |num hv2=>
 rename_i xs
 obtain⟨ts,ets,tl,tt⟩:=b6E (cl:=l) hv2
 subst ets
 have ec:cutV (V.int ((v:Nat):Int)::ts.map V.ref) (some 1) none=ts.map V.ref:=(a3D (a:=1) (by simp)).trans rfl
 refine⟨_,SqL.of el,fun p hp=>?_⟩
 rw[ec]
 generalize eU:upd H p _=H1
 have g1:=nS hp eU
 have ep:=nE eU
 clear eU
 refine⟨_,_,SqL.of (g1 _ _ el),bM (j:=0) rfl,fun y dx hy hdx hne=>?_⟩
 have gm:Same H1 (upd (upd H1 dx (.own y)) y (.ins bF dx [])):=fun z u e=>by rw[aQ (bO e hy),aQ (bO e hdx)];exact e
 have ey:=aK (H:=upd H1 dx (.own y)) (a:=y) (o:= .ins bF dx [])
 generalize upd (upd H1 dx (.own y)) y _=Hm at gm ey
 have g1m:=g1.trans gm
 refine⟨y,dx,p,((v:Nat):Int),chI cs,rfl,ey,⟨ts,gm _ _ ep,tl,fun i t m h1 h2=>g1m _ _ (tt i t m h1 h2)⟩,by rw[Ya];omega,fun ok H2 ol hR ho k2=>?_,fun no H2 k2=>q1 (fun z=>no (c3J.mpr z)) H2 fun x u e=>k2 x u (bO (g1 _ _ e) hy) (g1m _ _ e)⟩
 have keep:∀x u,H x=some u->H2 x=some u:=fun x u e=>k2 x u (bO (g1 _ _ e) hy) (g1m _ _ e)
 have ed2:=keep _ _ hD.ed
 refine⟨rfl,dw.dx,_,ed2,(show 2<1000 by decide),?_⟩
 have hy0:H y=none:=g1.none hy
 have fresh:∀x,ol x->H x=none:=fun x hx=>(ho x hx).elim (fun z=>z▸hy0) fun z=>g1m.none z
 have nd:¬ ol d:=fun z=>by have:=fresh d z;rw[hD.ed]at this;cases this
 refine⟨aN rfl,fun wl hwl=>?_⟩
 have hwd:wl≠d:=fun z=>by rw[z,aK]at hwl;cases hwl
 have hwl2:H2 wl=none:=by rw[aQ hwd]at hwl;exact hwl
 have hwl0:H wl=none:=by
  cases e:H wl with
  |none=>rfl
  |some u=>rw[keep _ _ e]at hwl2;cases hwl2
 refine⟨dw.dx,_,(aQ (Ne.symm hwd)).trans aK,(show 2<1000 by decide),?_⟩
 obtain⟨wR,hR⟩:=hR
 have nwl:¬ ol wl:=fun z=>hR.al wl z hwl2
 refine q2 (c3J.mp ok) _ (fun x=>ol x\/x=d\/x=wl) ⟨dw.dx,wl,.ref y, [],ol⟩ ⟨aK,by rw[aQ hwd,aK],.nil,⟨y,rfl,wR,hR.move fun x u e z=>?_⟩,fun x hx=>⟨fun z=>nd (z▸hx),fun z=>nwl ((show x=wl from z)▸hx)⟩,.inr (.inl rfl),.inr (.inr rfl),fun x hx=> .inl hx,fun x hx=>?_⟩ ⟨fun x u e z=>?_,fun x hx=>?_⟩
 ·have xd:x≠d:=fun c=>by
   rcases z with z | ⟨_,rfl⟩
   ·exact nd (c▸z)
   ·rw[c,ed2]at e;cases e
  rw[aQ xd,aQ (bO e hwl2),aQ xd]
  exact e
 ·rcases hx with hx | rfl | rfl
  ·have xd:x≠d:=fun c=>nd (c▸hx)
   have xw:x≠wl:=fun c=>nwl (c▸hx)
   rw[aQ xd,aQ xw,aQ xd]
   exact hR.al x hx
  ·rw[aK];simp
  ·rw[aQ hwd,aK];simp
 ·have xd:x≠d:=fun c=>by
   rcases z with z | ⟨_,rfl⟩
   ·exact z (c▸hD.od)
   ·rw[c,hD.ed]at e;cases e
  rw[aQ xd,aQ (bO e hwl0),aQ xd]
  exact keep _ _ e
 ·rcases hx with hx | rfl | rfl
  ·exact .inr (fresh x hx)
  ·exact .inl hD.od
  ·exact .inr hwl0
-- def Desk_say
variable (cV:MB P w K mg base (CXR P w) 13 wU a5F ["self","row"] (spAsk82 K dZ bF CA ⟨bA,aY,bI,aZ,bL⟩ cG))
include lM bJ aV cC cH bK vM dW cN pY aM fZ tK aL nF mH pL rY lU kW kO lR kJ pM lV pN lL in
theorem a8B (F0:Fun K "say" "Desk.say" a4T wU a5F):type_of% cV:=by
 refine mbM ["self","row","words","values","answer"] F0 fun Sc0=>F0.okR Sc0 (fun vs H Q E h=>?_) fun cdv A outer s H vs Q E hr h=>?_
 ·obtain⟨d,st,wp,o,w,x,r,n,rfl,_⟩:=h
  rfl
 obtain⟨d,st,wp,o,dw,x,r,nb,rfl,hD,hln,hbl,hz,n8,wp8,qn,qr⟩:=h
 have nd:=Sc0.nd
 refine⟨_,(aD (bZ (i:=2) nd rfl (Or.inl rfl) (a6E (dv 1) (aA aR aB))) (aD (bZ (i:=3) nd rfl (Or.inl rfl) (bB mH.1 hr.mo rfl mH.2.2.2 mH.2.2.1 mH.2.1 .nil (lN fun _ _ _ z=>z) (aA (dv 2) aB))) (aD (cM (bH uP (cD cZ (dv 2) aH (fun _ _=>rfl)) aR (bG _)) (aJ (aW (eG aM fZ lL.1 hr.mo lL.2 .nil (lN fun _ _ _ z=>z) (dv 0) (aA (dv 3) aB)))) bC) (aD (cM (bH b1F (fD aM aL (dv 0)) lW (bG _)) (aJ (mW YF cN nF (aA aR aB))) bC) (aD (bZ (i:=4) nd rfl (Or.inl rfl) (b2U tK (dH (v:= .ref a3I) rfl pY rfl) (cD cZ (dv 2) aH (fun _ _=>rfl)) (fun _ _=>rfl))) (aJ (aW (c0D (RunsG.or (RunsG.one (n:=12) pL.1 pL.2.1 (by decide)) (RunsG.or (RunsG.one (n:=12) lV.1 lV.2.1 (by decide)) (RunsG.or (RunsG.one (n:=12) lR.1 lR.2.1 (by decide)) (RunsG.or (RunsG.one (n:=12) pM.1 pM.2.1 (by decide)) (RunsG.or (RunsG.one (n:=12) rY.1 rY.2.1 (by decide)) (RunsG.or (RunsG.one (n:=12) lU.1 lU.2.1 (by decide)) (RunsG.or (RunsG.one (n:=12) kJ.1 kJ.2.1 (by decide)) (RunsG.or (RunsG.one (n:=12) kO.1 kO.2.1 (by decide)) (RunsG.or (RunsG.one (n:=12) kW.1 kW.2.1 (by decide)) (RunsG.one (n:=12) pN.1 pN.2.1 (by decide))))))))))) hr.mo (lN fun _ _ _ z=>z) (pv 4) (aA (dv 0) (aA (dv 3) aB)))))))))),?_⟩
 have e32:(" ":Str)=sepC 32:=by decide +kernel
 have hsp:Txt.split (Txt.join " " (x::r)) " "=x::r:=by
  rw[e32]
  exact a9O (by simp) hbl
 have spl:(Txt.split (Txt.join " " (x::r)) " ").length<=(Txt.join " " (x::r)).length+1:=by rw[e32];exact split_len _ _
 have spm:∀y∈Txt.split (Txt.join " " (x::r)) " ",y.length<=(Txt.join " " (x::r)).length:=by rw[e32];exact fun y hy=>a7B hy
 generalize Txt.join " " (x::r)=tx at hln hsp spl spm
 refine⟨by decide +kernel,szl (by omega),szl (by omega),fun p hp=>?_⟩
 rw[hsp]at spl spm ⊢
 generalize eU:upd H p _=H1
 have g1:=nS hp eU
 have ep:=nE eU
 clear eU
 refine⟨p,x::r,rfl,SqL.of ep,by simp,by omega,fun y hy=>Yn (spm y hy) (by omega),fun vl hvl l xs H2 hl g2 el hv=>?_,fun pl hpl od H' g' hod=>qn pl hpl od H' (g1.trans g') hod⟩
 have g12:=g1.trans g2
 have hD2:=hD.same g12
 have nol:¬ o l:=fun z=>hD.al l z (g1.none hl)
 have h0:atI ((x::r).map V.str) 0=some (.str x):=bM (j:=0) rfl
 obtain⟨row,rfl,rfl⟩:=b9R hvl
 obtain⟨hsm0,q1,q2⟩:=qr row rfl hvl
 refine⟨_,_,SqL.of (g2 _ _ ep),h0,?_⟩
 rcases hsm0.symm with ⟨rfl,n0,rfl⟩ | hsm
 ·refine⟨dw.dx,_,dw.rv,hD2.ed,rfl,?_⟩
  have er:dw.rv= .non:=hD2.rl
  rw[er]
  exact⟨aN rfl,q1 .rail rfl _ g12⟩
 have sayN:∀(R:RS),st=some R->∀(fa:Addr)(pr:Row8->Prop)(Q':VK),pr row->(∀x H',Q x H'->Q' x H')->(∀s,deskP st wp row=ansP R wp row)->spSay K pr dZ bF CA ⟨bA,aY,bI,aZ,bL⟩ [.ref d,.ref l] H2 Q E:=fun R hs fa pr Q' hp _ hq=>by
  subst hs
  refine⟨d,R,wp,o,dw,l,xs,row,nb,rfl,hD2,el,nol,hv,hp,hsm,hz R rfl,n8,wp8,fun e he H' g=>q1 e ((hq "").trans he) H' (g12.trans g),fun s st' wp' he H' o' w' hD' m=>q2 s st' wp' ((hq "").trans he) H' o' w' hD' ((Mv.of g12).trans m)⟩
 cases row with
 |run n=>exact False.elim hsm
 | rail v cs=>
  refine⟨⟨dw.dx,_,hD2.ed,rfl⟩,d,st,wp,o,dw,l,xs,v,cs,rfl,hD2,el,hv,hsm,fun no H' g=>q1 .post ?_ H' (g12.trans g),fun ok H' o' w' hD' m=>q2 _ _ _ ?_ H' o' w' hD' ((Mv.of g12).trans m)⟩
  ·cases st <;> exact if_neg no
  ·cases st <;> exact if_pos ok
 | hand k n ds=>
  refine⟨dw.dx,_,dw.rv,hD2.ed,rfl,?_⟩
  cases st with
  | none=>
   have er:dw.rv= .non:=hD2.rl
   rw[er]
   exact⟨aN rfl,q1 .rail rfl _ g12⟩
  | some R=>
   obtain⟨r,er,_⟩:=hD2.rl
   rw[er]
   exact⟨_,_,SqL.of (g2 _ _ ep),h0,.inr "hand",_,rfl,rfl,rfl,rP,rfl,pL.2.2.1,.inl ⟨rfl,sayN R rfl rP _ Q ⟨_,_,_,rfl⟩ (fun _ _ z=>z) fun _=>rfl⟩⟩
 | thing k n g ds=>
  refine⟨dw.dx,_,dw.rv,hD2.ed,rfl,?_⟩
  cases st with
  | none=>
   have er:dw.rv= .non:=hD2.rl
   rw[er]
   exact⟨aN rfl,q1 .rail rfl _ g12⟩
  | some R=>
   obtain⟨r,er,_⟩:=hD2.rl
   rw[er]
   exact⟨_,_,SqL.of (g2 _ _ ep),h0,.inr "thing",_,rfl,rfl,rfl,pH,rfl,lV.2.2.1,.inr (.inl ⟨rfl,sayN R rfl pH _ Q ⟨_,_,_,_,rfl⟩ (fun _ _ z=>z) fun _=>rfl⟩)⟩
 | wrong k t=>
  refine⟨dw.dx,_,dw.rv,hD2.ed,rfl,?_⟩
  cases st with
  | none=>
   have er:dw.rv= .non:=hD2.rl
   rw[er]
   exact⟨aN rfl,q1 .rail rfl _ g12⟩
  | some R=>
   obtain⟨r,er,_⟩:=hD2.rl
   rw[er]
   exact⟨_,_,SqL.of (g2 _ _ ep),h0,.inr "wrong",_,rfl,rfl,rfl,pD,rfl,lR.2.2.1,.inr (.inr (.inl ⟨rfl,sayN R rfl pD _ Q ⟨_,_,rfl⟩ (fun _ _ z=>z) fun _=>rfl⟩))⟩
 | draw k s e=>
  refine⟨dw.dx,_,dw.rv,hD2.ed,rfl,?_⟩
  cases st with
  | none=>
   have er:dw.rv= .non:=hD2.rl
   rw[er]
   exact⟨aN rfl,q1 .rail rfl _ g12⟩
  | some R=>
   obtain⟨r,er,_⟩:=hD2.rl
   rw[er]
   exact⟨_,_,SqL.of (g2 _ _ ep),h0,.inr "draw",_,rfl,rfl,rfl,rQ,rfl,pM.2.2.1,.inr (.inr (.inr (.inl ⟨rfl,sayN R rfl rQ _ Q ⟨_,_,_,rfl⟩ (fun _ _ z=>z) fun _=>rfl⟩)))⟩
 | got k=>
  refine⟨dw.dx,_,dw.rv,hD2.ed,rfl,?_⟩
  cases st with
  | none=>
   have er:dw.rv= .non:=hD2.rl
   rw[er]
   exact⟨aN rfl,q1 .rail rfl _ g12⟩
  | some R=>
   obtain⟨r,er,_⟩:=hD2.rl
   rw[er]
   exact⟨_,_,SqL.of (g2 _ _ ep),h0,.inr "got",_,rfl,rfl,rfl,uG,rfl,rY.2.2.1,.inr (.inr (.inr (.inr (.inl ⟨rfl,sayN R rfl uG _ Q ⟨_,rfl⟩ (fun _ _ z=>z) fun _=>rfl⟩))))⟩
 | waits k=>
  refine⟨dw.dx,_,dw.rv,hD2.ed,rfl,?_⟩
  cases st with
  | none=>
   have er:dw.rv= .non:=hD2.rl
   rw[er]
   exact⟨aN rfl,q1 .rail rfl _ g12⟩
  | some R=>
   obtain⟨r,er,_⟩:=hD2.rl
   rw[er]
   exact⟨_,_,SqL.of (g2 _ _ ep),h0,.inr "waits",_,rfl,rfl,rfl,pG,rfl,lU.2.2.1,.inr (.inr (.inr (.inr (.inr (.inl ⟨rfl,sayN R rfl pG _ Q ⟨_,rfl⟩ (fun _ _ z=>z) fun _=>rfl⟩)))))⟩
 | things k n=>
  refine⟨dw.dx,_,dw.rv,hD2.ed,rfl,?_⟩
  cases st with
  | none=>
   have er:dw.rv= .non:=hD2.rl
   rw[er]
   exact⟨aN rfl,q1 .rail rfl _ g12⟩
  | some R=>
   obtain⟨r,er,_⟩:=hD2.rl
   rw[er]
   exact⟨_,_,SqL.of (g2 _ _ ep),h0,.inr "things",_,rfl,rfl,rfl,lY,rfl,kJ.2.2.1,.inr (.inr (.inr (.inr (.inr (.inr (.inl ⟨rfl,sayN R rfl lY _ Q ⟨_,_,rfl⟩ (fun _ _ z=>z) fun _=>rfl⟩))))))⟩
 | stance k=>
  refine⟨dw.dx,_,dw.rv,hD2.ed,rfl,?_⟩
  cases st with
  | none=>
   have er:dw.rv= .non:=hD2.rl
   rw[er]
   exact⟨aN rfl,q1 .rail rfl _ g12⟩
  | some R=>
   obtain⟨r,er,_⟩:=hD2.rl
   rw[er]
   exact⟨_,_,SqL.of (g2 _ _ ep),h0,.inr "stance",_,rfl,rfl,rfl,lZ,rfl,kO.2.2.1,.inr (.inr (.inr (.inr (.inr (.inr (.inr (.inl ⟨rfl,sayN R rfl lZ _ Q ⟨_,rfl⟩ (fun _ _ z=>z) fun _=>rfl⟩)))))))⟩
 | faults k=>
  refine⟨dw.dx,_,dw.rv,hD2.ed,rfl,?_⟩
  cases st with
  | none=>
   have er:dw.rv= .non:=hD2.rl
   rw[er]
   exact⟨aN rfl,q1 .rail rfl _ g12⟩
  | some R=>
   obtain⟨r,er,_⟩:=hD2.rl
   rw[er]
   exact⟨_,_,SqL.of (g2 _ _ ep),h0,.inr "faults",_,rfl,rfl,rfl,mD,rfl,kW.2.2.1,.inr (.inr (.inr (.inr (.inr (.inr (.inr (.inr (.inl ⟨rfl,sayN R rfl mD _ Q ⟨_,rfl⟩ (fun _ _ z=>z) fun _=>rfl⟩))))))))⟩
 | bits s e=>
  refine⟨dw.dx,_,dw.rv,hD2.ed,rfl,?_⟩
  cases st with
  | none=>
   have er:dw.rv= .non:=hD2.rl
   rw[er]
   exact⟨aN rfl,q1 .rail rfl _ g12⟩
  | some R=>
   obtain⟨r,er,_⟩:=hD2.rl
   rw[er]
   exact⟨_,_,SqL.of (g2 _ _ ep),h0,.inr "bits",_,rfl,rfl,rfl,rR,rfl,pN.2.2.1,.inr (.inr (.inr (.inr (.inr (.inr (.inr (.inr (.inr (⟨rfl,sayN R rfl rR _ Q ⟨_,_,rfl⟩ (fun _ _ z=>z) fun _=>rfl⟩)))))))))⟩
-- def _law_draw
variable (aG:FB P w K mg base (CX0) 1 "_law_draw" xJ a2L ["_law_script","_law_k","_law_many"] (spDraw K))
include cO in
theorem a5V (F0:GFm K mg "_law_draw" a1A xJ a2L):type_of% aG:=by
 refine fbK ["_law_script","_law_k","_law_many","_law_cell","_law_seed"] F0 fun H Q nd hr h=>?_
 obtain⟨a,ns,k,m,rfl,hS,h63,k0,k1,m0,q⟩:=h
 refine⟨_,(aD (bZ (i:=3) nd rfl (Or.inl rfl) (gD (nU (bH a4K (bR nH rfl cO iM (aA (dv 0) aB)) aH (bG _)) (cD cZ (dv 0) (bY b3O (dv 1) (bR nH rfl cO iM (aA (dv 0) aB))) (fun _ _=>rfl)) aH))) (aD (bZ (i:=4) nd rfl (Or.inl rfl) (bY jK (bY jK (bY b3O (dv 3) aH) (bY uB (bY uB aH (dv 1)) (dv 1))) aH)) (aJ (aW (bY b3O (bY b3O (bY uB (bY b3O (bY uB (dv 4) aH) aH) aH) aH) (dv 2)))))),?_⟩
 refine⟨fun x H'=>(∃v,x= .int v)/\H'=H,?_,?_⟩
 ·have hlen:(ns.map V.int).length=ns.length:=Ya _
  refine⟨_,.inl hS,?_⟩
  conv=>whnf
  refine oG (fun c=>?_) (fun c=>⟨⟨_,rfl⟩,rfl⟩)
  have c1:(0:Int)<(((ns.map V.int).length:Nat):Int):=dec_true c
  obtain⟨v,hv⟩:=c5U (ns:=ns) (k:=k) (by rw[hlen]at c1;omega)
  exact⟨_,.inl hS,c1,_,_,hS,hv,⟨v,rfl⟩,rfl⟩
 rintro x H' ⟨⟨v,rfl⟩,rfl⟩
  
 have k2:31*k*k<=31*100000*100000:=Int.mul_le_mul (by omega) k1 k0 (by decide)
 have k3:0<=31*k*k:=Int.mul_nonneg (by omega) k0
 refine⟨(by show (0:Int)<_;decide),⟨iR (by decide) (by decide),iR (by omega) (by omega)⟩,⟨iR (by omega) (by omega),iR (by omega) (by omega)⟩,?_⟩
 have s0:0<=v % 1000003:=Int.emod_nonneg _ (by decide)
 have s1:v % 1000003<1000003:=XO _ (by decide)
 refine⟨⟨iR (by omega) (by omega),iR (by decide) (by decide)⟩,(by show (0:Int)<_;decide),?_⟩
 have t0:0<=(v % 1000003+31*k*k+1)*48271 % 999983:=Int.emod_nonneg _ (by decide)
 have t1:(v % 1000003+31*k*k+1)*48271 % 999983<999983:=XO _ (by decide)
 refine⟨⟨iR (by omega) (by omega),iR (by decide) (by decide)⟩,(by show (0:Int)<_;decide),m0,?_⟩
 exact q _ (Int.emod_nonneg _ (by omega)) (XO _ m0)
-- def _law_number
variable (bW:FB P w K mg base (CX0) 2 "_law_number" uN yH ["_law_script","_law_k"] (spNum82 K))
include aG in
theorem a1O (F0:GFm K mg "_law_number" xP uN yH):type_of% bW:=by
 refine fbK ["_law_script","_law_k"] F0 fun H Q nd hr h=>?_
 obtain⟨a,ns,k,rfl,hS,h63,k0,k9,q⟩:=h
 refine⟨_,(aD (cM (bH uP (bB aG.1 hr.mo rfl aG.2.2.2 aG.2.2.1 aG.2.1 .nil bU (aA (dv 0) (aA (dv 1) (aA aH aB)))) aH (bG _)) (aJ (aW (bY jK (bY uB aH (bB aG.1 hr.mo rfl aG.2.2.2 aG.2.2.1 aG.2.1 .nil bU (aA (dv 0) (aA (bY jK (dv 1) aH) (aA aH aB))))) (bB aG.1 hr.mo rfl aG.2.2.2 aG.2.2.1 aG.2.1 .nil bU (aA (dv 0) (aA (bY jK (dv 1) aH) (aA aH aB))))))) bC) (aJ (aW (bB aG.1 hr.mo rfl aG.2.2.2 aG.2.2.1 aG.2.1 .nil bU (aA (dv 0) (aA (bY jK (dv 1) aH) (aA aH aB))))))),?_⟩
 refine⟨a,ns,k,5,rfl,hS,h63,by omega,by omega,by decide,fun r r0 r1=>?_⟩
 conv=>whnf
 refine oG (fun c=>?_) (fun c=>?_)
 ·refine⟨a,ns,k+1,500000,rfl,hS,h63,by omega,by omega,by decide,fun s s0 s1=>?_⟩
  refine⟨⟨iR (by decide) (by decide),iR (by omega) (by omega)⟩,a,ns,k+2,2,rfl,hS,h63,by omega,by omega,by decide,fun t t0 t1=>?_⟩
  obtain⟨n,en⟩:=Yr (show 0<=2*s+t by omega)
  have:=q n (by omega)
  rw[<-en]at this
  exact this
 ·refine⟨a,ns,k+1,301,rfl,hS,h63,by omega,by omega,by decide,fun s s0 s1=>?_⟩
  obtain⟨n,rfl⟩:=Yr s0
  exact q n (by omega)
-- def _law_is_number
variable (bN:FB P w K mg base (CX0) 1 "_law_is_number" qC uF ["_law_word"] (spIsNum))
include cO in
theorem wX (F0:GFm K mg "_law_is_number" uD qC uF):type_of% bN:=by
 refine fbK ["_law_word","_law_sign"] F0 fun H Q nd hr h=>?_
 obtain⟨l,rfl,hl,q⟩:=h
 refine⟨_,(aD (zP Xj rfl (b4C (dv 0)) (vJ (i:=1) nd rfl (Or.inl rfl)) (aJ (cM (bH b8Z (dv 1) aR rfl) (aJ (aW wW)) bC))) (aJ (aW (c3M (pX uP (dv 0) aR (bG _)) (a7H (b0A (a9Z b2L b2L aH (bR b5G rfl cO iM (aA (dv 0) aB)) aH) (a7H (pX b1A (cD c3F (dv 0) aH (fun _ _=>rfl)) aR (bG _))))))))),?_⟩
 refine⟨trivial,c0Z (z:=txt l) (fun i σ H'=>(∃x,σ= [some (.str (txt l)),x])/\H'=H/\(l.take i).all isDg=true) ⟨⟨_,rfl⟩,rfl,rfl⟩ ?_ ?_⟩
 ·rintro i c σ H' hc ⟨⟨x,rfl⟩,rfl,hg⟩
  have hc':l[i]? =some c:=by
   have:(l.toArray)[i]? =some c:=hc
   rwa [List.getElem?_toArray]at this
  obtain⟨hi,hci⟩:=Yc.mp hc'
  have e:=c3S c
  have key:∀(bb:Bool),bb=isDg c->if (!bb)=true then Q (.bl false) H' else ((∃y, [some (V.str (txt l)),some (V.str ⟨#[c]⟩)]= [some (.str (txt l)),y])/\H'=H'/\(l.take (i+1)).all isDg=true):=fun bb hb=>by
   subst hb
   cases hd:isDg c with
   | true=>
    refine⟨⟨_,rfl⟩,rfl,?_⟩
    rw[YJ hi,List.all_append,hg,hci,Y3,hd]
    rfl
   | false=>
    have:numIn l=none:=by
     unfold numIn
     rw[if_neg fun z=>?_]
     have:=YH.mp z.2.1 c (hci▸Y7 hi)
     rw[hd]at this
     cases this
    rw[this]at q
    exact q
  exact key _ e
 rintro σ H' ⟨⟨x,rfl⟩,rfl,hg⟩
 have esz:(txt l).cps.size=l.length:=by show (l.toArray).size=_;rw[Yl]
 rw[esz,YD (Ye _)]at hg
 by_cases c0:l= [48]
 ·subst c0
  have e1:(numIn [48]).isSome=true:=by decide +kernel
  rw[e1]at q
  exact q
 have c1:¬ txt l="0":=fun z=>c0 (by
  have:(txt l).cps.toList=("0":Str).cps.toList:=Yy (fun x:Str=>x.cps.toList) z
  rw[vH]at this
  exact this.trans (by decide +kernel))
 obtain⟨w,ew⟩:∃w,w=txt l:=⟨_,rfl⟩
 have sl:(txt l).length<=sizeLine:=by rw[uH];exact szl (by omega)
 have tl:=uH l
 rw[<-ew]at c1 sl tl ⊢
 conv=>whnf
 refine oG (fun c=>absurd (dec_true c) c1) (fun c=>?_)
 have no:¬ ((1<=l.length/\l.length<=6)/\l.all isDg=true/\¬ (l.headD 0=48/\1<l.length))->Q (.bl false) H':=fun z=>by
  have:numIn l=none:=if_neg z
  rw[this]at q
  exact q
 refine⟨sl,?_⟩
 obtain⟨L,eL⟩:∃L,L=w.length:=⟨_,rfl⟩
 rw[<-eL]at tl sl ⊢
 conv=>whnf
 refine oG (fun c2=>?_) (fun c2=>no fun z=>dec_false c2 (by omega))
 have c3:(0:Int)<((L:Nat):Int):=dec_true c2
 conv=>whnf
 refine oG (fun c4=>?_) (fun c4=>no fun z=>dec_false c4 (by omega))
 have c5:((L:Nat):Int)<7:=dec_true c4
 obtain⟨c_,lr,el⟩:∃c_ lr,l=c_::lr:=by
  cases l with
  |nil=>exact absurd tl (by show ¬ L=0;omega)
  |cons c_ lr=>exact⟨c_,lr,rfl⟩
 refine⟨c_,by rw[<-eL];exact sl,by rw[ew,vH,el];exact bM (j:=0) (xs:=c_::lr) rfl,?_⟩
 have e48:(⟨#[c_]⟩:Str)=("0":Str)↔c_=48:=⟨fun w'=>by
  have:[c_]= [48]:=Yy (fun x:Str=>x.cps.toList) w'
  exact(XC this).1,fun y=>by subst y;decide +kernel⟩
 by_cases y:c_=48
 ·have e5:decide ((⟨#[c_]⟩:Str)=("0":Str))=true:=Yk (e48.mpr y)
  have ln:1<l.length:=by
   rcases Nat.lt_or_ge 1 l.length with z | z
   ·exact z
   ·exact absurd (show l= [48] by
     rw[el,y]
     rw[el]at z
     have:lr= []:=List.eq_nil_of_length_eq_zero (by have:lr.length+1<=1:=z;omega)
     rw[this]) c0
  have:=no fun z=>z.2.2 ⟨by rw[el];exact y,ln⟩
  show Q (.bl (!decide ((⟨#[c_]⟩:Str)=("0":Str)))) H'
  rw[e5]
  exact this
 ·have e5:decide ((⟨#[c_]⟩:Str)=("0":Str))=false:=Yi fun z=>y (e48.mp z)
  have:numIn l=some (PySem.NumText.digitsVal l):=if_pos ⟨⟨by omega,by omega⟩,hg,fun z=>y (by rw[el]at z;exact z.1)⟩
  rw[this]at q
  show Q (.bl (!decide ((⟨#[c_]⟩:Str)=("0":Str)))) H'
  rw[e5]
  exact q
-- def _law_least
variable (bD:FB P w K mg base (CX0) 1 "_law_least" vO a0A ["_law_head"] (spLeast))
theorem a3N (F0:GFm K mg "_law_least" zE vO a0A):type_of% bD:=by
 refine fbK ["_law_head"] F0 fun H Q nd hr h=>?_
 obtain⟨x,rfl,q⟩:=h
 refine⟨_,(aD (cM (bH rW (dv 0) (gC (aA aR (aA aR (aA aR (aA aR (aA aR aB)))))) rfl) (aJ (aW aH)) bC) (aD (cM (bH rW (dv 0) (gC (aA aR (aA aR aB))) rfl) (aJ (aW aH)) bC) (aJ (aW (gD (nU (bH rW (dv 0) (gC (aA aR (aA aR (aA aR (aA aR (aA aR aB)))))) rfl) aH (b9Y b9B aH))))))),?_⟩
 refine⟨aN rfl,fun t ht=>⟨t,hd1.map V.str,rfl,.inr (SqT.of aK),rfl,rfl,?_⟩⟩
 have g1:=aX ht (.tup (hd1.map V.str))
 have bb:∀L:List Str,(if false=true then !inV (.str x) (L.map V.str) else inV (.str x) (L.map V.str))=decide (x∈L):=fun L=>(if_neg Yg).trans a9G
 rw[bb]
 by_cases c1:x∈hd1
 ·rw[Yk c1]
  have:=q _ g1
  unfold leastI at this
  rw[if_pos c1]at this
  exact this
 rw[Yi c1]
 refine⟨aN rfl,fun t2 ht2=>⟨t2,hd3.map V.str,rfl,.inr (SqT.of aK),rfl,rfl,?_⟩⟩
 have g2:=g1.trans (aX ht2 (.tup (hd3.map V.str)))
 rw[bb]
 by_cases c2:x∈hd3
 ·rw[Yk c2]
  have:=q _ g2
  unfold leastI at this
  rw[if_neg c1,if_pos c2]at this
  exact this
 rw[Yi c2]
 refine⟨fun v H'=>v= .int (leastI x)/\Same H H',?_,?_⟩
 ·refine⟨aN rfl,fun t3 ht3=>⟨t3,hd2.map V.str,rfl,.inr (SqT.of aK),rfl,rfl,?_⟩⟩
  have g3:=g2.trans (aX ht3 (.tup (hd2.map V.str)))
  rw[bb]
  unfold leastI
  rw[if_neg c1,if_neg c2]
  by_cases c3:x∈hd2
  ·rw[Yk c3,if_pos c3]
   exact⟨rfl,g3⟩
  ·rw[Yi c3,if_neg c3]
   exact⟨rfl,g3⟩
 rintro v H' ⟨rfl,g3⟩
 exact q _ g3
-- def _law_odd
variable (dO:FB P w K mg base (CX0) 3 "_law_odd" a0M a5C ["_law_script","_law_k"] (spOdd82 K))
include jG aG bW in
theorem a7Y (F0:GFm K mg "_law_odd" uC a0M a5C):type_of% dO:=by
 refine fbK ["_law_script","_law_k","_law_some","_law_at"] F0 fun H Q nd hr h=>?_
 obtain⟨a,ns,k,rfl,hS,h63,k0,k8,q⟩:=h
 obtain⟨ks,k2,k3,p1,p2,p3,p4,p5,p6,p7,p8,p9,q1,q2,q3,q4,hb,ev,ok1,ok2,ok3⟩:∃(ks k2 k3:List TxI)(p1 p2 p3 p4 p5 p6 p7 p8 p9 q1 q2 q3 q4:Pos),defBody uC= [.Assign [.Name "_law_some" p1] (.List (ks.map TxI.mk) p2) p3,.Assign [.Name "_law_some" p4] (.BinOp (.Name "_law_some" p5) .Add (.List (k2.map TxI.mk) p6) p7) p8,.Assign [.Name "_law_some" p9] (.BinOp (.Name "_law_some" q1) .Add (.List (k3.map TxI.mk) q2) q3) q4,stB uC 3,stB uC 4]/\(ks.map TxI.val++k2.map TxI.val++k3.map TxI.val)=odds/\(∀k∈ks,k.ok)/\(∀k∈k2,k.ok)/\∀k∈k3,k.ok:=by
  refine⟨[.s _ _ _,.s _ _ _,.s _ _ _,.s _ _ _,.s _ _ _,.s _ _ _,.s _ _ _,.s _ _ _,.s _ _ _,.s _ _ _,.s _ _ _,.s _ _ _,.s _ _ _,.m _ _ _ _ _ _ _,.s _ _ _], [.s _ _ _,.s _ _ _,.s _ _ _,.s _ _ _,.s _ _ _,.s _ _ _,.s _ _ _,.s _ _ _,.s _ _ _,.s _ _ _], [.s _ _ _,.s _ _ _,.s _ _ _,.s _ _ _,.s _ _ _],_,_,_,_,_,_,_,_,_,_,_,_,_,rfl,rfl,?_,?_,?_⟩
  ·intro k hk
   simp only[Yv,XB,or_false]at hk
   rcases hk with rfl | rfl | rfl | rfl | rfl | rfl | rfl | rfl | rfl | rfl | rfl | rfl | rfl | rfl | rfl <;> first | trivial | exact mul_9
  ·intro k hk
   simp only[Yv,XB,or_false]at hk
   rcases hk with rfl | rfl | rfl | rfl | rfl | rfl | rfl | rfl | rfl | rfl <;> trivial
  ·intro k hk
   simp only[Yv,XB,or_false]at hk
   rcases hk with rfl | rfl | rfl | rfl | rfl <;> trivial
 rw[hb]
 refine⟨_,(aD (bZ (i:=2) nd rfl (Or.inl rfl) (jL (a3A ok1))) (aD (bZ (i:=2) nd rfl (Or.inl rfl) (bY b3P (dv 2) (jL (a3A ok2)))) (aD (bZ (i:=2) nd rfl (Or.inl rfl) (bY b3P (dv 2) (jL (a3A ok3)))) (aD (bZ (i:=3) nd rfl (Or.inl rfl) (bB aG.1 hr.mo rfl aG.2.2.2 aG.2.2.1 aG.2.1 .nil bU (aA (dv 0) (aA (dv 1) (aA aH aB))))) (aJ (aW (gD (nU (bH b2L (dv 3) aH (bG _)) (cD cZ (dv 2) (dv 3) (fun _ _=>rfl)) (cP rZ rfl jG tL (aA (bB bW.1 hr.mo rfl bW.2.2.2 bW.2.2.1 bW.2.1 .nil bU (aA (dv 0) (aA (bY jK (dv 1) aH) aB))) aB)))))))))),?_⟩
 obtain⟨us,eu⟩:∃us,us=ks.map TxI.val:=⟨_,rfl⟩
 obtain⟨u2,eu2⟩:∃us,us=k2.map TxI.val:=⟨_,rfl⟩
 obtain⟨u3,eu3⟩:∃us,us=k3.map TxI.val:=⟨_,rfl⟩
 rw[<-eu,<-eu2,<-eu3]at ev
 have hl:us.length+u2.length+u3.length=30:=by
  have:=Yy List.length ev
  rw[Yj,Yj]at this
  exact this.trans (by decide +kernel)
 refine⟨by rw[<-eu,Ya];exact a2Z (by omega),fun l1 h1=>?_⟩
 rw[<-eu]
 generalize eU:upd H l1 _=H1
 have g1:=nS h1 eU
 have e1:=nE eU
 clear eU
 refine⟨by rw[<-eu2,Ya];exact a2Z (by omega),fun l2 h2=>?_⟩
 rw[<-eu2]
 generalize eU:upd H1 l2 _=H2
 have g2:=nS h2 eU
 have e2:=nE eU
 clear eU
 refine⟨_,_,g2 _ _ e1,e2,by rw[Ya,Ya];exact a2Z (by omega),fun l3 h3=>?_⟩
 generalize eU:upd H2 l3 _=H3
 have g3:=nS h3 eU
 have e3:=nE eU
 clear eU
 refine⟨by rw[<-eu3,Ya];exact a2Z (by omega),fun l4 h4=>?_⟩
 rw[<-eu3]
 generalize eU:upd H3 l4 _=H4
 have g4:=nS h4 eU
 have e4:=nE eU
 clear eU
 refine⟨_,_,g4 _ _ e3,e4,by rw[Yj,Ya,Ya,Ya];exact a2Z (by omega),fun l5 h5=>?_⟩
 generalize eU:upd H4 l5 _=H5
 have g5:=nS h5 eU
 have e5:=nE eU
 clear eU
 rw[<-Yu,<-Yu,ev]at e5
 have g:=g1.trans (g2.trans (g3.trans (g4.trans g5)))
 have hS5:=g.seq hS
 refine⟨a,ns,k,36,rfl,hS5,h63,by omega,by omega,by decide,fun r r0 r1=>?_⟩
 refine⟨fun v H'=>∃x,v= .str x/\Wd x/\Same H H',?_,?_⟩
 ·conv=>whnf
  refine oG (fun c=>?_) (fun c=>?_)
  ·have c1:r<30:=dec_true c
   obtain⟨n,rfl⟩:=Yr r0
   have hn:n<odds.length:=by rw[show odds.length=30 by decide +kernel];omega
   exact⟨_,.str odds[n],SqL.of e5,bM (j:=n) (by rw[Yq,Yh hn];rfl),_,rfl,c2T _ (Y7 hn),g⟩
  ·refine⟨a,ns,k+1,rfl,hS5,h63,by omega,by omega,fun n hn=>?_⟩
   exact⟨b4K hn,_,rfl,c4A hn,g⟩
 rintro v H' ⟨x,rfl,hw,g'⟩
 exact q x H' hw g'
-- def _law_good
variable (kZ:FB P w K mg base (CX0) 3 "_law_good" xH a2K ["_law_script"] (spGood82 K))
include fG uR jG b4D aG bW bD in
theorem a5U (F0:GFm K mg "_law_good" uQ xH a2K):type_of% kZ:=by
 refine fbK ["_law_script","_law_heads","_law_head","_law_many","_law_words","_law_k","_law_near","_law_more"] F0 fun H Q nd hr h=>?_
 obtain⟨a,ns,rfl,hS,h63,q⟩:=h
 obtain⟨ks,p1,p2,p3,hb,ev,ok1⟩:∃(ks:List TxI)(p1 p2 p3:Pos),defBody uQ= .Assign [.Name "_law_heads" p1] (.List (ks.map TxI.mk) p2) p3::(defBody uQ).tail/\(ks.map TxI.val++(["run","run","bits"]:List Str))=hd15/\∀k∈ks,k.ok:=by
  refine⟨[.s _ _ _,.s _ _ _,.s _ _ _,.s _ _ _,.s _ _ _,.s _ _ _,.s _ _ _,.s _ _ _,.s _ _ _,.s _ _ _,.s _ _ _,.s _ _ _],_,_,_,rfl,rfl,?_⟩
  intro k hk
  simp only[Yv,XB,or_false]at hk
  rcases hk with rfl | rfl | rfl | rfl | rfl | rfl | rfl | rfl | rfl | rfl | rfl | rfl <;> trivial
 rw[hb]
 refine⟨_,(aD (bZ (i:=1) nd rfl (Or.inl rfl) (jL (a3A ok1))) (aD (bZ (i:=2) nd rfl (Or.inl rfl) (cD cZ (bY b3P (dv 1) (jL (aA aR (aA aR (aA aR aB))))) (bB aG.1 hr.mo rfl aG.2.2.2 aG.2.2.1 aG.2.1 .nil bU (aA (dv 0) (aA aH (aA aH aB)))) (fun _ _=>rfl))) (aD (bZ (i:=3) nd rfl (Or.inl rfl) (bB bD.1 hr.mo rfl bD.2.2.2 bD.2.2.1 bD.2.1 .nil bU (aA (dv 2) aB))) (aD (nR (cM (bH rW (dv 2) (gC (aA aR (aA aR (aA aR aB)))) rfl) (aJ (bZ (i:=3) nd rfl (Or.inl rfl) (bY jK (dv 3) (bB aG.1 hr.mo rfl aG.2.2.2 aG.2.2.1 aG.2.1 .nil bU (aA (dv 0) (aA aH (aA aH aB))))))) bC)) (aD (bZ (i:=4) nd rfl (Or.inl rfl) (jL (aA (dv 2) aB))) (aD (zP Xj rfl (a3B rfl fG (aA (dv 3) aB)) (vJ (i:=5) nd rfl (Or.inl rfl)) (aD (jY (vQ (dv 4) (aA (cP rZ rfl jG tL (aA (bB bW.1 hr.mo rfl bW.2.2.2 bW.2.2.1 bW.2.1 .nil bU (aA (dv 0) (aA (bY jK aH (bY uB aH (dv 5))) aB))) aB)) aB))) (aJ (nR (cM (PW.pt (vD (bH uP (dv 2) aR (bG _)) (sG (bH a4K (dv 5) aH (bG _))))) (aJ (b2R (bY yX (bY yX (cD cZ (dv 4) (bY jK (dv 5) aH) (fun _ _=>rfl)) aR) (cP rZ rfl jG tL (aA (bB bW.1 hr.mo rfl bW.2.2.2 bW.2.2.1 bW.2.1 .nil bU (aA (dv 0) (aA (bY jK aH (bY uB aH (dv 5))) aB))) aB))) (b2S (dv 4) (bY jK (dv 5) aH) b2K))) bC))))) (aD (bZ (i:=6) nd rfl (Or.inl rfl) (bY uB (bB aG.1 hr.mo rfl aG.2.2.2 aG.2.2.1 aG.2.1 .nil bU (aA (dv 0) (aA aH (aA aH aB)))) aH)) (aD (bZ (i:=7) nd rfl (Or.inl rfl) (bY jK (dv 6) (bB aG.1 hr.mo rfl aG.2.2.2 aG.2.2.1 aG.2.1 .nil bU (aA (dv 0) (aA aH (aA (gD (nU (bH a4K (dv 6) aH (bG _)) aH aH)) aB)))))) (aD (nR (cM (bH uP (dv 2) aR (bG _)) (aJ (b2R (cP rZ rfl jG tL (aA (gD (nU (bH uP (dv 6) aH (bG _)) (bY uB aH (dv 7)) (bY jK aH (dv 7)))) aB)) (b2S (dv 4) aH b2K))) bC)) (aD (nR (cM (bH rW (dv 2) (gC (aA aR (aA aR aB))) rfl) (aJ (b2R (cP rZ rfl jG tL (aA (bR (c3X rfl) rfl b4D c5Q (aA aH (aA (bY jK (cP a4J rfl uR a5G (aA (cD cZ (dv 4) (bY b8Y (dv 3) aH) (fun _ _=>rfl)) aB)) (dv 7)) aB))) aB)) (b2S (dv 4) (dv 3) b2K))) bC)) (aD (nR (cM (PW.pt (vD (bH uP (dv 2) aR (bG _)) (sG (bH uP (bB aG.1 hr.mo rfl aG.2.2.2 aG.2.2.1 aG.2.1 .nil bU (aA (dv 0) (aA aH (aA aH aB)))) aH (bG _))))) (aD (bZ (i:=4) nd rfl (Or.inl rfl) (jL (aA aR (aA (cP rZ rfl jG tL (aA (bY jK aH (bY uB aH (bB aG.1 hr.mo rfl aG.2.2.2 aG.2.2.1 aG.2.1 .nil bU (aA (dv 0) (aA aH (aA aH aB)))))) aB)) aB)))) (aJ (zP Xj rfl (a3B rfl fG (aA (bY jK aH (bB aG.1 hr.mo rfl aG.2.2.2 aG.2.2.1 aG.2.1 .nil bU (aA (dv 0) (aA aH (aA aH aB))))) aB)) (vJ (i:=5) nd rfl (Or.inl rfl)) (aJ (jY (vQ (dv 4) (aA (bY yX (bY yX (cP rZ rfl jG tL (aA (bB aG.1 hr.mo rfl aG.2.2.2 aG.2.2.1 aG.2.1 .nil bU (aA (dv 0) (aA (bY jK aH (dv 5)) (aA aH aB)))) aB)) aR) (cP rZ rfl jG tL (aA (bB aG.1 hr.mo rfl aG.2.2.2 aG.2.2.1 aG.2.1 .nil bU (aA (dv 0) (aA (bY jK aH (dv 5)) (aA aH aB)))) aB))) aB))))))) bC)) (aJ (aW (dv 4)))))))))))))),?_⟩
 obtain⟨us,eu⟩:∃us,us=ks.map TxI.val:=⟨_,rfl⟩
 rw[<-eu]at ev
 have hl:us.length=12:=by
  have:=Yy List.length ev
  rw[Yj]at this
  have:us.length+3=15:=this
  omega
 refine⟨by rw[<-eu,Ya];exact a2Z (by omega),fun l1 h1=>?_⟩
 rw[<-eu]
 generalize eU:upd H l1 _=H1
 have g1:=nS h1 eU
 have e1:=nE eU
 clear eU
 refine⟨aN rfl,fun l2 h2=>?_⟩
 generalize eU:upd H1 l2 _=H2
 have g2:=nS h2 eU
 have e2:=nE eU
 clear eU
 refine⟨_,_,g2 _ _ e1,e2,by rw[Ya,hl];exact aN rfl,fun l3 h3=>?_⟩
 generalize eU:upd H2 l3 _=H3
 have g3:=nS h3 eU
 have e3:=nE eU
 clear eU
 have ev':us.map V.str++[V.str "run",.str "run",.str "bits"]=hd15.map V.str:=by rw[<-ev,Yu];rfl
 rw[ev']at e3
 have g:=g1.trans (g2.trans g3)
 refine⟨a,ns,0,15,rfl,g.seq hS,h63,by decide,by decide,by decide,fun r r0 r1=>?_⟩
 obtain⟨rn,rfl⟩:=Yr r0
 have hrn:rn<hd15.length:=by rw[show hd15.length=15 by decide +kernel];omega
 obtain⟨x,ex⟩:∃x,hd15[rn]? =some x:=⟨_,Yh hrn⟩
 obtain⟨⟨lx1,lx2⟩,hxE,hxw⟩:=b6T x (YA ex)
 refine⟨_,.str x,SqL.of e3,bM (j:=rn) (by rw[Yq,ex];rfl),x,rfl,fun H4 g4=>?_⟩
 have gA:=g.trans g4
 clear g4 e3 e2 e1 h1 h2 h3 g1 g2 g3 g
 obtain⟨lm,elm⟩:=Yr (show 0<=leastI x by omega)
 rw[elm]at lx1 lx2 hxE
 refine⟨fun σ H'=>(∃many:Nat,1<=many/\many<=9/\(x∈hdE->many=lm)/\σ= [some (.ref a),some (.ref l1),some (.str x),some (.int ((many:Nat):Int)),none,none,none,none])/\Same H H',?_,?_⟩
 ·refine⟨aN rfl,fun t ht=>⟨t,hdM.map V.str,rfl,.inr (SqT.of aK),rfl,rfl,?_⟩⟩
  have gt:=gA.trans (aX ht (.tup (hdM.map V.str)))
  rw[c2Z,elm]
  by_cases c:x∈hdM
  ·rw[Yk c]
   refine⟨a,ns,1,7,rfl,gt.seq hS,h63,by decide,by decide,by decide,fun s s0 s1=>?_⟩
   obtain⟨sn,rfl⟩:=Yr s0
   exact⟨⟨lm+sn,by omega,by omega,fun z=>absurd c (hxE z).2.1,rfl⟩,gt⟩
  ·rw[Yi c]
   exact⟨⟨lm,by omega,by omega,fun _=>rfl,rfl⟩,gt⟩
 rintro σ H5 ⟨⟨many,hm1,hm2,hmE,rfl⟩,gB⟩
 refine⟨aN rfl,fun wl hwl=>?_⟩
 have M0:Mk82 H (upd H5 wl (.lst [.str x])) wl x [] 0:=⟨gB.none hwl,gB.trans (aX hwl _),aK,rfl,fun v hv=>(by cases hv),fun _ v hv=>(by cases hv)⟩
 generalize upd H5 wl _=H6 at M0
 have em:((many:Nat):Int).toNat=many:=Xi many
 refine⟨⟨by omega,by omega⟩,?_⟩
 rw[em]
 refine yU (lo:=0) (n:=many) (fun i σ H'=>(∃x1,σ= [some (.ref a),some (.ref l1),some (.str x),some (.int ((many:Nat):Int)),some (.ref wl),x1,none,none])/\∃vs,Mk82 H H' wl x vs i) ⟨⟨_,rfl⟩, [],M0⟩ ?_ ?_
 ·rintro i σ H' hi ⟨⟨x1,rfl⟩,vs,M⟩
  refine⟨⟨_,SqL.of M.at_⟩,⟨iR (by decide) (by decide),iR (by omega) (by omega)⟩,a,ns,20+6*(0+((i:Nat):Int)),rfl,M.same.seq hS,h63,by omega,by omega,fun n hn=>?_⟩
  refine⟨b4K hn,_,M.at_,nQ (by rw[Ya,Ys,Ya,M.len];omega),?_⟩
  have M1:=M.snoc hn
  generalize upd H' wl _=H7 at M1
  refine⟨fun σ H'=>(∃x1,σ= [some (.ref a),some (.ref l1),some (.str x),some (.int ((many:Nat):Int)),some (.ref wl),x1,none,none])/\∃vs,Mk82 H H' wl x vs (i+1),?_,?_⟩
  ·by_cases c:x="rail"
   ·subst c
    by_cases ci:(0:Int)<0+((i:Nat):Int)
    ·refine mX (by exact ci) ?_
     have ei:atI ((("rail":Str)::(vs++[Vl.num n]).map vlT).map V.str) (0+((i:Nat):Int)+1)=some (.str (num n)):=by
      rw[show (0:Int)+((i:Nat):Int)+1=(((i+1:Nat)):Int) from by omega]
      refine bM ?_
      rw[Yo,Y4,Yq,Yq,YM (by rw[M.len];exact Ye _),M.len,Nat.sub_self]
      rfl
     have l1:=rM hn
     refine⟨_,_,SqL.of M1.at_,ei,szl (Yn (Xe l1 (show ("/":Str).length<=1 by decide +kernel)) (by decide)),⟨iR (by decide) (by decide),iR (by omega) (by omega)⟩,a,ns,23+6*(0+((i:Nat):Int)),rfl,M1.same.seq hS,h63,by omega,by omega,fun n2 hn2=>?_⟩
     refine⟨b4K hn2,?_,?_⟩
     ·have l2:=rM hn2
      rw[YV]
      exact szl (Yn (Xe (Xe l1 (show ("/":Str).length<=1 by decide +kernel)) l2) (by decide))
     refine⟨_,i+1,M1.at_,?_,⟨_,rfl⟩,_,M1.set (i:=i) (v:= .cho n n2) ⟨hn,hn2⟩ fun z=>absurd rfl z⟩
     rw[Ya,Ys,Ya,M1.len,show (0:Int)+((i:Nat):Int)+1=(((i+1:Nat)):Int) from by omega]
     exact a9E (by omega)
    ·refine jM (by exact ci) ?_
     exact⟨⟨_,rfl⟩,_,M1⟩
   ·refine jM c ?_
    exact⟨⟨_,rfl⟩,_,M1⟩
  rintro σ H8 ⟨⟨x1,rfl⟩,vs2,M2⟩
  exact⟨⟨_,rfl⟩,vs2,M2⟩
 rintro σ H7 ⟨⟨x1,rfl⟩,vs,M⟩
 refine⟨a,ns,4,2,rfl,M.same.seq hS,h63,by decide,by decide,by decide,fun t t0 t1=>?_⟩
 refine⟨⟨iR (by omega) (by omega),iR (by decide) (by decide)⟩,?_⟩
 obtain⟨tn,rfl⟩:=Yr t0
 obtain⟨near,enr⟩:∃z:Nat,((tn:Nat):Int)*395=((z:Nat):Int):=⟨tn*395,by omega⟩
 have hnr:near<=395:=by omega
 rw[show ((fun i j:Int=>V.int (i*j)) ((tn:Nat):Int) 395)=V.int ((near:Nat):Int) from Yy V.int enr]
 refine⟨fun v H'=>(∃z:Int,v= .int z/\0<z/\z<=400)/\H'=H7,?_,?_⟩
 ·conv=>whnf
  refine oG (fun c=>⟨⟨12,rfl,by decide,by decide⟩,rfl⟩) (fun c=>⟨⟨400,rfl,by decide,by decide⟩,rfl⟩)
 rintro v H' ⟨⟨z,rfl,z0,z1⟩,rfl⟩
 refine⟨a,ns,2,z,rfl,M.same.seq hS,h63,by decide,by decide,z0,fun m m0 m1=>?_⟩
 obtain⟨mn,rfl⟩:=Yr m0
 have hmr:near+mn<=800:=by omega
 refine⟨fun σ H'=>(∃x1,σ= [some (.ref a),some (.ref l1),some (.str x),some (.int ((many:Nat):Int)),some (.ref wl),x1,some (.int ((near:Nat):Int)),some (.int (((near:Nat):Int)+((mn:Nat):Int)))])/\∃vs,Mk82 H H' wl x vs many,?_,?_⟩
 ·by_cases c:x="run"
  ·refine mX c ?_
   refine⟨fun v H2=>(∃k:Nat,k<10 ^ 6/\v= .int ((k:Nat):Int))/\H2=H',?_,?_⟩
   ·conv=>whnf
    refine oG (fun c=>?_) (fun c=>?_)
    ·refine⟨⟨iR (by decide) (by decide),iR (by omega) (by omega)⟩,⟨5*(near+mn),by omega,?_⟩,rfl⟩
     rw[show ((5*(near+mn):Nat):Int)=5*(((near:Nat):Int)+((mn:Nat):Int)) from by omega]
    ·refine⟨⟨1600+(near+mn),by omega,?_⟩,rfl⟩
     rw[show ((1600+(near+mn):Nat):Int)=1600+(((near:Nat):Int)+((mn:Nat):Int)) from by omega]
   rintro v H2 ⟨⟨k,hk,rfl⟩,rfl⟩
   refine⟨b4K hk,_,1,M.at_,?_,⟨_,rfl⟩,_,M.set (i:=0) (v:= .num k) hk fun _=>⟨k,rfl⟩⟩
   rw[Ya,Ys,Ya,M.len]
   exact a9E (k:=1) (by omega)
  ·refine jM c ?_
   exact⟨⟨_,rfl⟩,_,M⟩
 clear M
 rintro σ H8 ⟨⟨x1,rfl⟩,vs,M⟩
 refine⟨fun σ H'=>(∃x1,σ= [some (.ref a),some (.ref l1),some (.str x),some (.int ((many:Nat):Int)),some (.ref wl),x1,some (.int ((near:Nat):Int)),some (.int (((near:Nat):Int)+((mn:Nat):Int)))])/\∃vs,Mk82 H H' wl x vs many,?_,?_⟩
 ·refine⟨aN rfl,fun t ht=>⟨t,hdE.map V.str,rfl,.inr (SqT.of aK),rfl,rfl,?_⟩⟩
  have kt:=aX ht (.tup (hdE.map V.str))
  have M1:Mk82 H (upd H8 t (.tup (hdE.map V.str))) wl x vs many:=⟨M.new,M.same.trans kt,kt _ _ M.at_,M.len,M.lt,M.nm⟩
  rw[c2Z]
  by_cases c:x∈hdE
  ·rw [Yk c]
   obtain⟨c2,_,c3⟩:=hxE c
   have cm:=hmE c
   have hvi:many-2<vs.length:=by rw[M.len];omega
   obtain⟨k,ek⟩:=M.nm c3 _ (Y7 hvi)
   have hk:=M.lt _ (Y7 hvi)
   rw[ek]at hk
   have ei:atI ((x::vs.map vlT).map V.str) (((many:Nat):Int)-1)=some (.str (num k)):=by
    rw[show ((many:Nat):Int)-1=(((many-2+1:Nat)):Int) from by omega]
    refine bM ?_
    rw[Yo,Y4,Yq,Yq,Yh hvi,ek]
    rfl
   obtain⟨i1,i2⟩:=a1Y (b5N hk)
   refine⟨_,_,SqL.of M1.at_,ei,_,i1,i2,?_⟩
   obtain⟨j,ej⟩:∃j:Nat,min (999999:Int) (((k:Nat):Int)+(((near:Nat):Int)+((mn:Nat):Int)))=((j:Nat):Int):=⟨min 999999 (k+(near+mn)),by omega⟩
   have hj:j<10 ^ 6:=by omega
   have e5:V.str (toString (min (999999:Int) (((k:Nat):Int)+(((near:Nat):Int)+((mn:Nat):Int)))))= .str (vlT (.num j)):=by rw[ej];rfl
   refine⟨by rw[ej];exact b4K hj,_,many,M1.at_,?_,⟨_,rfl⟩,vs.set (many-1) (.num j),?_⟩
   ·rw[Ya,Ys,Ya,M1.len]
    exact a9E (by omega)
   ·have:=M1.set (i:=many-1) (v:= .num j) hj fun _=>⟨j,rfl⟩
    rw[show many-1+1=many from by omega,<-e5]at this
    exact this
  ·rw[Yi c]
   exact⟨⟨_,rfl⟩,_,M1⟩
 clear M
 rintro σ H9 ⟨⟨x1,rfl⟩,vs,M⟩
 refine⟨fun σ H'=>∃l ws x2,σ= [some (.ref a),some (.ref l1),some (.str x),some (.int ((many:Nat):Int)),some (.ref l),x2,some (.int ((near:Nat):Int)),some (.int (((near:Nat):Int)+((mn:Nat):Int)))]/\H l=none/\Same H H'/\WdsAt H' l ws 12,?_,?_⟩
 ·by_cases c:x="rail"
  ·refine mX c ?_
   refine⟨a,ns,3,2,rfl,M.same.seq hS,h63,by decide,by decide,by decide,fun b b0 b1=>?_⟩
   conv=>whnf
   refine oG (fun c=>?_) (fun c=>⟨wl,_,_,rfl,M.new,M.same,M.wds hxw (by omega)⟩)
   refine⟨a,ns,4,3,rfl,M.same.seq hS,h63,by decide,by decide,by decide,fun d d0 d1=>?_⟩
   obtain⟨dn,rfl⟩:=Yr d0
   refine⟨⟨iR (by decide) (by decide),iR (by omega) (by omega)⟩,?_⟩
   obtain⟨vt,evt⟩:∃z:Nat,(1:Int)+2*((dn:Nat):Int)=((z:Nat):Int):=⟨1+2*dn,by omega⟩
   have hvt:vt<10 ^ 6:=by omega
   refine⟨by rw[evt];exact b4K hvt,aN rfl,fun l hl2=>?_⟩
   have M0:Mk82 H (upd H9 l (.lst [.str "rail",.str (toString ((1:Int)+2*((dn:Nat):Int)))])) l "rail" [.num vt] 1:=⟨M.same.none hl2,M.same.trans (aX hl2 _),by rw[aK,evt];rfl,rfl,fun v hv=>(by rw[Yx.mp hv];exact hvt),fun z=>absurd rfl z⟩
   generalize upd H9 l _=J0 at M0
   refine⟨a,ns,5,6,rfl,M0.same.seq hS,h63,by decide,by decide,by decide,fun e e0 e1=>?_⟩
   obtain⟨en,rfl⟩:=Yr e0
   refine⟨⟨by omega,by omega⟩,?_⟩
   rw[show ((1:Int)+((en:Nat):Int)).toNat=en+1 from by omega]
   refine yU (lo:=0) (n:=en+1) (fun i σ H'=>(∃x1,σ= [some (.ref a),some (.ref l1),some (.str x),some (.int ((many:Nat):Int)),some (.ref l),x1,some (.int ((near:Nat):Int)),some (.int (((near:Nat):Int)+((mn:Nat):Int)))])/\∃vs,Mk82 H H' l "rail" vs (i+1)) ⟨⟨_,rfl⟩,_,M0⟩ ?_ ?_
   ·rintro i σ J hi ⟨⟨x1,rfl⟩,vs,M⟩
    refine⟨⟨_,SqL.of M.at_⟩,a,ns,6+(0+((i:Nat):Int)),257,rfl,M.same.seq hS,h63,by omega,by omega,by decide,fun f f0 f1=>?_⟩
    obtain⟨fn,rfl⟩:=Yr f0
    have hf:fn<10 ^ 6:=by omega
    have l1:=rM hf
    refine⟨b4K hf,szl (Yn (Xe l1 (show ("/":Str).length<=1 by decide +kernel)) (by decide)),a,ns,13+(0+((i:Nat):Int)),257,rfl,M.same.seq hS,h63,by omega,by omega,by decide,fun g g0 g1=>?_⟩
    obtain⟨gn,rfl⟩:=Yr g0
    have hg:gn<10 ^ 6:=by omega
    refine⟨b4K hg,?_,?_⟩
    ·have l2:=rM hg
     rw[YV]
     exact szl (Yn (Xe (Xe l1 (show ("/":Str).length<=1 by decide +kernel)) l2) (by decide))
    refine⟨_,M.at_,nQ (by rw[Ya,Ys,Ya,M.len];omega),⟨_,rfl⟩,_,M.snocV (v:= .cho fn gn) ⟨hf,hg⟩ fun z=>absurd rfl z⟩
   rintro σ J ⟨⟨x1,rfl⟩,vs,M⟩
   exact⟨l,_,_,rfl,M.new,M.same,M.wds (b6T "rail" (by decide +kernel)).2.2 (by omega)⟩
  ·refine jM c ?_
   exact⟨wl,_,_,rfl,M.new,M.same,M.wds hxw (by omega)⟩
 rintro σ J ⟨l,ws,x2,rfl,h1,h2,h3⟩
 exact q l ws J h1 h2 h3
-- def _law_is_word
variable (eZ:FB P w K mg base (CX0) 2 "_law_is_word" tO wI ["_law_words","_law_at"] (spIsWord K))
include cO uR bN bD in
theorem a0O (F0:GFm K mg "_law_is_word" vV tO wI):type_of% eZ:=by
 refine fbK ["_law_words","_law_at","_law_head","_law_halves"] F0 fun H Q nd hr h=>?_
 obtain⟨l,x,r,i,wd,nf,m,us,rfl,hS,hwd,hlen,hf,hend,q⟩:=h
 refine⟨_,(aD (bZ (i:=2) nd rfl (Or.inl rfl) (cD cZ (dv 0) aH (fun _ _=>rfl))) (aD (nR (cM (PW.pt (vD (bH a4K (dv 1) (bB bD.1 hr.mo rfl bD.2.2.2 bD.2.2.1 bD.2.1 .nil bU (aA (dv 2) aB)) (bG _)) (sG (bH zR (dv 2) (gC (aA aR (aA aR (aA aR aB)))) rfl)))) (aJ (aW wW)) bC)) (aD (nR (cM (PW.pt (vD (bH uP (dv 2) aR (bG _)) (sG (bH a4K (dv 1) aH (bG _))))) (aD (bZ (i:=3) nd rfl (Or.inl rfl) (a6E (cD cZ (dv 0) (dv 1) (fun _ _=>rfl)) (aA aR aB))) (aJ (aW (b0A (pX uP (bR nH rfl cO iM (aA (dv 3) aB)) aH (bG _)) (b0A (bB bN.1 hr.mo rfl bN.2.2.2 bN.2.2.1 bN.2.1 .nil bU (aA (cD cZ (dv 3) aH (fun _ _=>rfl)) aB)) (a7H (bB bN.1 hr.mo rfl bN.2.2.2 bN.2.2.1 bN.2.1 .nil bU (aA (cD cZ (dv 3) aH (fun _ _=>rfl)) aB)))))))) bC)) (aD (cM (sH (lX (bB bN.1 hr.mo rfl bN.2.2.2 bN.2.2.1 bN.2.1 .nil bU (aA (cD cZ (dv 0) (dv 1) (fun _ _=>rfl)) aB)))) (aJ (aW wW)) bC) (aD (cM (bH uP (dv 2) aR (bG _)) (aJ (aW (pX a8Y (cP a4J rfl uR a5G (aA (cD cZ (dv 0) (dv 1) (fun _ _=>rfl)) aB)) aH (bG _)))) bC) (aD (nR (cM (PW.pt (vD (bH rW (dv 2) (gC (aA aR (aA aR aB))) rfl) (sG (bH uP (dv 1) (bB bD.1 hr.mo rfl bD.2.2.2 bD.2.2.1 bD.2.1 .nil bU (aA (dv 2) aB)) (bG _))))) (aJ (aW (pX a8Y (cP a4J rfl uR a5G (aA (cD cZ (dv 0) (dv 1) (fun _ _=>rfl)) aB)) (bY jK (cP a4J rfl uR a5G (aA (cD cZ (dv 0) (bY b8Y (dv 1) aH) (fun _ _=>rfl)) aB)) aH) (bG _)))) bC)) (aJ (aW wW)))))))),?_⟩
 obtain⟨hle,hki⟩:=b6R hf
 have hk:nf.getD i m=kindOf x (i+1):=hki (i+1) (by omega)
 rw[hk]at hend q
 have h0:atI ((x::r).map V.str) 0=some (.str x):=bM (j:=0) rfl
 have hat:atI ((x::r).map V.str) (1+((i:Nat):Int))=some (.str wd):=by
  rw[show (1:Int)+((i:Nat):Int)=(((i+1:Nat)):Int) from by omega]
  exact bM (by rw[Yq,Y4,hwd];rfl)
 refine⟨_,_,hS,h0,?_⟩
 refine⟨fun σ H'=>σ= [some (.ref l),some (.int (1+((i:Nat):Int))),some (.str x),none]/\Same H H'/\¬ (leastI x<((i+1:Nat):Int)/\x∉hdM),?_,?_⟩
 ·refine⟨x,rfl,fun H1 g1=>?_⟩
  by_cases c1:leastI x<1+((i:Nat):Int)
  ·refine mX c1 ?_
   refine⟨aN rfl,fun t ht=>⟨t,hdM.map V.str,rfl,.inr (SqT.of aK),rfl,rfl,?_⟩⟩
   have gt:=g1.trans (aX ht (.tup (hdM.map V.str)))
   rw[c7C]
   by_cases c2:x∈hdM
   ·rw[Yk c2]
    exact⟨rfl,gt,fun z=>z.2 c2⟩
   ·rw[Yi c2]
    have:=q _ gt
    have ek:kindOf x (i+1)="":=if_pos ⟨by omega,c2⟩
    rw[ek]at this
    exact this
  ·refine jM c1 ?_
   exact⟨rfl,g1,fun z=>c1 (by omega)⟩
 rintro σ H1 ⟨rfl,g1,n1⟩
 have e47:("/":Str)=sepC 47:=by decide +kernel
 refine⟨fun σ H'=>σ= [some (.ref l),some (.int (1+((i:Nat):Int))),some (.str x),none]/\H'=H1/\¬ (x="rail"/\1<i+1),?_,?_⟩
 ·by_cases c1:x="rail"
  ·refine mX c1 ?_
   by_cases c2:(1:Int)<1+((i:Nat):Int)
   ·refine mX c2 ?_
    have ek:kindOf x (i+1)="choice":=(if_neg n1).trans (if_pos ⟨c1,by omega⟩)
    have ev:(valIn wd.cps.toList (kindOf x (i+1)) us).isSome=(choIn wd.cps.toList).isSome:=by
     rw[ek]
     unfold valIn
     rw[if_neg (by decide),if_pos rfl,Option.isSome_map]
    rw[ev]at q
    have sl:wd.length<=900:=hlen
    refine⟨_,_,g1.seq hS,hat,by decide +kernel,szl (by omega),by rw[e47];have:=split_len wd 47;exact szl (by omega),fun pl hpl=>?_⟩
    rw[e47]
    generalize eU:upd H1 pl _=H2
    have k1:=nS hpl eU
    have e1:=nE eU
    clear eU
    have hm:=fun w=>a7B (x:=wd) (c:=47) (w:=w)
    unfold choIn at q
    rw[<-sE]at q
    generalize Txt.split wd (sepC 47)=ws at e1 hm q
    refine⟨_,.inl (SqL.of e1),?_⟩
    rw[Ya]
    by_cases c3:((ws.length:Nat):Int)=2
    ·refine mX c3 ?_
     obtain⟨y,z,rfl⟩:∃y z,ws= [y,z]:=by
      match ws,c3 with
      |[],c3=>exact absurd c3 (by decide)
      |[_],c3=>exact absurd c3 (by show ¬ ((1:Int)=2);decide)
      |[y,z],_=>exact⟨y,z,rfl⟩
      |_::_::_::r,c3=>exact absurd c3 (by show ¬ (((r.length+1+1+1:Nat):Int)=2);omega)
     have ly:y.cps.toList.length<=900:=Yn (hm y (by simp)) sl
     have lz:z.cps.toList.length<=900:=Yn (hm z (by simp)) sl
     dsimp only at q
     refine⟨_,V.str y,SqL.of e1,rfl,y.cps.toList,Yy (fun z=>[V.str z]) (sE y),ly,?_⟩
     cases ey:numIn y.cps.toList with
     | none=>
      rw[ey]at q
      exact q _ (g1.trans k1)
     | some n1=>
      rw[ey]at q
      refine⟨_,V.str z,SqL.of e1,rfl,z.cps.toList,Yy (fun z=>[V.str z]) (sE z),lz,?_⟩
      have:=q _ (g1.trans k1)
      cases ez:numIn z.cps.toList with
      |none=>rw[ez]at this;exact this
      |some n2=>rw[ez]at this;exact this
    ·refine jM c3 ?_
     have:=q _ (g1.trans k1)
     match ws,c3,this with
     |[],_,this=>exact this
     |[_],_,this=>exact this
     |[y,z],c3,_=>exact absurd rfl c3
     |_::_::_::r,_,this=>exact this
   ·refine jM c2 ?_
    exact⟨rfl,rfl,fun z=>c2 (by omega)⟩
  ·refine jM c1 ?_
   exact⟨rfl,rfl,fun z=>c1 z.1⟩
 rintro σ H2 ⟨rfl,rfl,n2⟩
 refine⟨_,_,g1.seq hS,hat,wd.cps.toList,Yy (fun z=>[V.str z]) (sE wd),hlen,?_⟩
 have k3:kindOf x (i+1)≠""/\kindOf x (i+1)≠"choice":=by
  unfold kindOf
  rw[if_neg n1,if_neg n2]
  by_cases c3:x="run"
  ·rw[if_pos c3];decide
  ·rw[if_neg c3]
   by_cases c4:x∈hdE/\((i+1:Nat):Int)=leastI x
   ·rw[if_pos c4];decide
   ·rw[if_neg c4];decide
 cases en:numIn wd.cps.toList with
 | none=>
  have ev:(valIn wd.cps.toList (kindOf x (i+1)) us).isSome=false:=by
   unfold valIn
   rw[if_neg k3.1,if_neg k3.2]
   unfold capN
   rw[en]
   split
   ·rfl
   ·split <;> rfl
  rw[ev]at q
  exact q _ g1
 |some n=>
 obtain⟨i1,i2⟩:=a1Y en
 have cap:∀m,(Option.map Vl.num (capN wd.cps.toList m)).isSome=decide (((n:Nat):Int)<=((m:Nat):Int)):=fun m=>by
  rw[Option.isSome_map]
  unfold capN
  rw[en]
  show (if n<=m then some n else none).isSome=_
  by_cases c:n<=m
  ·rw[if_pos c,Yk (by omega)];rfl
  ·rw[if_neg c,Yi (by omega)];rfl
 by_cases c3:x="run"
 ·refine mX c3 ?_
  have ek:kindOf x (i+1)="turns":=(if_neg n1).trans ((if_neg n2).trans (if_pos c3))
  rw[ek]at q
  have ev:(valIn wd.cps.toList "turns" us).isSome=decide (((n:Nat):Int)<=2000):=cap 2000
  rw[ev]at q
  exact⟨_,_,g1.seq hS,hat,_,i1,i2,q _ g1⟩
 refine jM c3 ?_
 refine⟨fun σ H'=>σ= [some (.ref l),some (.int (1+((i:Nat):Int))),some (.str x),none]/\Same H H'/\¬ (x∈hdE/\((i+1:Nat):Int)=leastI x),?_,?_⟩
 ·refine ⟨aN rfl,fun t ht=>⟨t,hdE.map V.str,rfl,.inr (SqT.of aK),rfl,rfl,?_⟩⟩
  have gt:=g1.trans (aX ht (.tup (hdE.map V.str)))
  rw[c2Z]
  by_cases c4:x∈hdE
  ·rw [Yk c4]
   refine⟨x,rfl,fun H3 g3=>?_⟩
   have gu:=gt.trans g3
   by_cases c5:(1:Int)+((i:Nat):Int)=leastI x
   ·refine mX c5 ?_
    have ek:kindOf x (i+1)="end":=(if_neg n1).trans ((if_neg n2).trans ((if_neg c3).trans (if_pos ⟨c4,by omega⟩)))
    rw[ek]at q
    obtain⟨pw,pn,i0,hpw,epn,eln⟩:=hend ek
    have ev:(valIn wd.cps.toList "end" us).isSome=decide (((n:Nat):Int)<=((pn+400:Nat):Int)):=by rw[<-eln];exact cap (lastN us+400)
    rw[ev]at q
    obtain⟨j1,j2⟩:=a1Y epn
    refine⟨_,_,gu.seq hS,hat,_,i1,i2,_,.str pw,gu.seq hS,?_,_,j1,j2,?_⟩
    ·rw[show (1:Int)+((i:Nat):Int)-1=(((i-1+1:Nat)):Int) from by omega]
     exact bM (by rw[Yq,Y4,hpw];rfl)
    ·have:=q _ gu
     rw[show ((pn+400:Nat):Int)=((pn:Nat):Int)+400 from by omega]at this
     exact this
   ·refine jM c5 ?_
    exact⟨rfl,gu,fun z=>c5 (by omega)⟩
  ·rw[Yi c4]
   exact⟨rfl,gt,fun z=>c4 z.1⟩
 rintro σ H3 ⟨rfl,g3,n4⟩
 have ek:kindOf x (i+1)="number":=(if_neg n1).trans ((if_neg n2).trans ((if_neg c3).trans (if_neg n4)))
 rw[ek]at q
 have ev:(valIn wd.cps.toList "number" us).isSome=true:=by
  unfold valIn
  rw[if_neg (by decide),if_neg (by decide),if_pos rfl,en]
  rfl
 rw[ev]at q
 exact q _ g3
-- def _law_first_wrong
variable (dD:FB P w K mg base (CX0) 3 "_law_first_wrong" mF rO ["_law_words"] (spFirst K))
include cO fG bD eZ in
theorem vG (F0:GFm K mg "_law_first_wrong" rN mF rO):type_of% dD:=by
 refine fbK ["_law_words","_law_at"] F0 fun H Q nd hr h=>?_
 obtain⟨l,x,r,rfl,hS,hl,hw,q⟩:=h
 refine⟨_,(aD (cM (bH b2L (bB bD.1 hr.mo rfl bD.2.2.2 bD.2.2.1 bD.2.1 .nil bU (aA (cD cZ (dv 0) aH (fun _ _=>rfl)) aB)) aH (bG _)) (aJ (aW aH)) bC) (aD (zP Xj rfl (b1Q rfl fG (aA aH (aA (bR nH rfl cO iM (aA (dv 0) aB)) aB))) (vJ (i:=1) nd rfl (Or.inl rfl)) (aJ (cM (sH (lX (bB eZ.1 hr.mo rfl eZ.2.2.2 eZ.2.2.1 eZ.2.1 .nil bU (aA (dv 0) (aA (dv 1) aB))))) (aJ (aW (dv 1))) bC))) (aJ (aW (gD (nU (bH a4K (bR nH rfl cO iM (aA (dv 0) aB)) (bB bD.1 hr.mo rfl bD.2.2.2 bD.2.2.1 bD.2.1 .nil bU (aA (cD cZ (dv 0) aH (fun _ _=>rfl)) aB)) (bG _)) (b9Y b9B aH) (bR nH rfl cO iM (aA (dv 0) aB)))))))),?_⟩
 have h0:atI ((x::r).map V.str) 0=some (.str x):=bM (j:=0) rfl
 refine⟨_,_,hS,h0,x,rfl,fun H1 g1=>?_⟩
 cases ef:formsL.lookup x with
 | none=>
  have el:=b5U ef
  have:=q H1 g1
  rw[yR (zN ef)]at this
  rw[el]
  exact this
 |some f=>
 obtain⟨nf,m⟩:=f
 obtain⟨hle,hki⟩:=b6R ef
 obtain⟨L,hL0,eL⟩:∃L:Int,¬ L<0/\((nf.length:Nat):Int)=L:=⟨_,by omega,rfl⟩
 rw[hle,eL]
 refine jM hL0 ?_
 refine⟨_,.inl (g1.seq hS),⟨by decide,by decide,by omega,by rw[Ya,Ys];omega⟩,?_⟩
 rw[show ((((((x::r).map V.str).length:Nat):Int)-1).toNat)=r.length from by rw[Ya];show ((((r.length+1:Nat):Int))-1).toNat=_;omega]
 refine yU (lo:=1) (n:=r.length) (fun i σ H'=>(∃x1,σ= [some (.ref l),x1])/\Same H H'/\∃vs,vs.length=i/\rowGo nf m (r.drop i) vs=rowIn (x::r)/\NumsOk nf m vs/\NumW nf m r vs) ⟨⟨_,rfl⟩,g1, [],rfl,(lA ef).symm,fun i hi=>absurd hi (Nat.not_lt_zero _),fun j n hj=>by cases hj⟩ ?_ ?_
 ·rintro i σ H' hi ⟨⟨x1,rfl⟩,g,vs,lv,eg,no,nw⟩
  subst lv
  have hri:r[vs.length]? =some r[vs.length]:=Yh hi
  rw[List.drop_eq_getElem_cons hi]at eg
  have hl9:=hw _ (Y7 hi)
  generalize r[vs.length]=wd at hri eg hl9
  refine⟨l,x,r,vs.length,wd,nf,m,vs,rfl,g.seq hS,hri,hl9,ef,fun he=>?_,fun H2 g2=>?_⟩
  ·rcases b1Y ef vs.length with z | ⟨_,z2,z3⟩
   ·rw[he]at z;exact absurd z (by decide)
   ·obtain⟨n,z4,z5⟩:=no.last z2 z3
    obtain⟨w,z6,z7⟩:=nw (vs.length-1) n (by rw[<-List.getLast?_eq_getElem?];exact z4) z3
    exact⟨w,n,z2,z6,z7,z5⟩
  cases ev:valIn wd.cps.toList (nf.getD vs.length m) vs with
  | none=>
   rw[zO ev]at eg
   have:=q _ (g.trans g2)
   rw[yR eg.symm,show ((vs.length+1:Nat):Int)=1+((vs.length:Nat):Int) from by omega]at this
   exact this
  | some v=>
   rw[eO ev]at eg
   exact⟨⟨_,rfl⟩,g.trans g2,vs++[v],by rw[Yj];rfl,eg,no.snoc ev,nw.snoc hri ev⟩
 rintro σ H' ⟨⟨x1,rfl⟩,g,vs,lv,eg,no,nw⟩
 rw[List.drop_length]at eg
 have eg':(if vs.length<nf.length then Except.error (vs.length+1) else .ok vs)=rowIn (x::r):=eg
 have e0:(((x::r).map V.str).length)=vs.length+1:=by rw[Ya,lv];rfl
 refine⟨fun v H2=>v= .int (wrongI (x::r))/\Same H H2,?_,?_⟩
 ·refine⟨_,.inl (g.seq hS),_,_,g.seq hS,h0,x,rfl,fun H2 g2=>?_⟩
  rw[e0,hle]
  by_cases c:vs.length<nf.length
  ·rw[if_pos c]at eg'
   refine jM (by omega) ?_
   refine⟨_,.inl ((g.trans g2).seq hS),?_,g.trans g2⟩
   rw[e0,yR eg'.symm]
  ·rw[if_neg c]at eg'
   refine mX (by omega) ?_
   exact⟨by rw[b3Q eg'.symm],g.trans g2⟩
 rintro v H2 ⟨rfl,g2⟩
 exact q _ g2
-- def _law_is_rail
variable (fB:FB P w K mg base (CX0) 2 "_law_is_rail" tQ wJ ["_law_words"] (spIsRail K))
include cO uR in
theorem a0P (F0:GFm K mg "_law_is_rail" vW tQ wJ):type_of% fB:=by
 refine fbK ["_law_words","_law_word","_law_halves"] F0 fun H Q nd hr h=>?_
 obtain⟨l,x,r,v,cs,rfl,hS,hR,hl,hw,q1,q2⟩:=h
 refine⟨_,(aD (cM (PW.pt (a5L (bH zR (cD cZ (dv 0) aH (fun _ _=>rfl)) (gC (aA aR (aA aR (aA aR aB)))) rfl) (a1J (bH a4K (bR nH rfl cO iM (aA (dv 0) aB)) aH (bG _))))) (aJ (aW wW)) bC) (aD (zP Xj rfl (sI (wA a9J (dv 0) (vK aH) a5M)) (vJ (i:=1) nd rfl (Or.inl rfl)) (aD (bZ (i:=2) nd rfl (Or.inl rfl) (a6E (dv 1) (aA aR aB))) (aJ (cM (PW.pt (a5L (bH a4K (cP a4J rfl uR a5G (aA (cD cZ (dv 2) aH (fun _ _=>rfl)) aB)) aH (bG _)) (a1J (bH a4K (cP a4J rfl uR a5G (aA (cD cZ (dv 2) aH (fun _ _=>rfl)) aB)) aH (bG _))))) (aJ (aW wW)) bC)))) (aJ (aW wW)))),?_⟩
 obtain⟨w0,rs,rfl,hv,hlc,hc1,hcs⟩:=hR
 have h1:atI ((x::w0::rs).map V.str) 1=some (.str w0):=bM (j:=1) rfl
 refine⟨_,_,hS,h1,?_⟩
 refine⟨aN rfl,fun t ht=>⟨t,vt3.map V.str,rfl,.inr (SqT.of aK),rfl,rfl,?_⟩⟩
 have gt:=aX ht (.tup [V.str "1",.str "3",.str "5"])
 have vi:=b9D hv
 rw[c7C]
 by_cases c1:w0∈vt3
 case neg=>
  rw[Yi c1]
  exact q2 (fun z=>c1 (vi.mpr (b9W z hc1))) _ gt
 rw[Yk c1]
 refine⟨_,.inl (gt.seq hS),?_⟩
 have e0:(((x::w0::rs).map V.str).length)=rs.length+2:=by rw[Ya];rfl
 rw[e0]
 by_cases c2:(7:Int)<((rs.length+2:Nat):Int)
 ·refine mX c2 ?_
  exact q2 (fun z=>by have:=z.1.2;omega) _ gt
 refine jM c2 ?_
 have ecut:cutV ((x::w0::rs).map V.str) (some 2) none=rs.map V.str:=(a3D (a:=2) (by simp)).trans rfl
 refine⟨_,gt.seq hS,fun p hp=>?_⟩
 rw[ecut]
 have k1:=aX hp (.lst (rs.map V.str))
 have ep:=aK (H:=upd H t (.tup [V.str "1",.str "3",.str "5"])) (a:=p) (o:= .lst (rs.map V.str))
 have g1:=gt.trans k1
 generalize upd (upd H t _) p _=H1 at ep g1
 have e47:("/":Str)=sepC 47:=by decide +kernel
 refine⟨⟨_,SqL.of ep⟩,b0I (xs:=rs.map V.str) (fun i σ H'=>(∃x1 x2,σ= [some (.ref l),x1,x2])/\Same H1 H'/\∀j c,j<i->cs[j]? =some c->c.1<256/\c.2<256) ⟨⟨_,_,rfl⟩,Same.refl _,fun j c hj=>absurd hj (Nat.not_lt_zero _)⟩ ?_ ?_ ?_⟩
 ·rintro i σ H' hi ⟨_,g,_⟩
  exact SqL.of (g _ _ ep)
 ·rintro i y σ H' hy ⟨⟨x1,x2,rfl⟩,g,hall⟩
  rw[Yq]at hy
  obtain⟨wd,hwd,rfl⟩:=Yt.mp hy
  have hi:i<rs.length:=(Yc.mp hwd).1
  obtain⟨c,hc⟩:∃c,cs[i]? =some c:=⟨_,Yh (by omega)⟩
  have hch:=hcs i wd c hwd hc
  have sl:wd.length<=900:=hw wd (Yf _ (YA hwd))
  refine⟨by decide +kernel,szl (by omega),by rw[e47];have:=split_len wd 47;exact szl (by omega),fun pl hpl=>?_⟩
  rw[e47]
  generalize eU:upd H' pl _=H2
  have k2:=nS hpl eU
  have e2:=nE eU
  clear eU
  unfold choIn at hch
  rw[<-sE]at hch
  obtain⟨y,z,ews,n1,n2,ey,ez,ec⟩:∃y z,Txt.split wd (sepC 47)= [y,z]/\∃n1 n2,numIn y.cps.toList=some n1/\numIn z.cps.toList=some n2/\c=(n1,n2):=by
   split at hch
   ·rename_i y z e
    obtain⟨n1,h1,h2⟩:=Option.bind_eq_some_iff.mp hch
    obtain⟨n2,h3,h4⟩:=Yt.mp h2
    exact⟨y,z,e,n1,n2,h1,h3,h4.symm⟩
   ·cases hch
  subst ec
  rw[ews]at e2
  obtain⟨i1,i2⟩:=a1Y ey
  obtain⟨j1,j2⟩:=a1Y ez
  have bad:¬ (n1<256/\n2<256)->Q (.bl false) H2:=fun no=>q2 (fun z=>no (by
   have:=z.2 _ (YA hc)
   exact⟨by have:=(uI.mp this.1).2;omega,by have:=(uI.mp this.2.1).2;omega⟩)) _ (g1.trans (g.trans k2))
  refine⟨_,_,SqL.of e2,rfl,_,i1,i2,?_⟩
  by_cases c3:(255:Int)<((n1:Nat):Int)
  ·refine mX c3 ?_
   exact bad fun z=>by omega
  refine jM c3 ?_
  refine⟨_,_,SqL.of e2,rfl,_,j1,j2,?_⟩
  by_cases c4:(255:Int)<((n2:Nat):Int)
  ·refine mX c4 ?_
   exact bad fun z=>by omega
  refine jM c4 ?_
  refine⟨⟨_,_,rfl⟩,g.trans k2,fun j c' hj hc'=>?_⟩
  by_cases z:j<i
  ·exact hall j c' z hc'
  ·have:j=i:=by omega
   subst this
   rw[hc]at hc'
   cases hc'
   exact⟨by show n1<256;omega,by show n2<256;omega⟩
 rintro σ H' ⟨⟨x1,x2,rfl⟩,g,hall⟩
 refine q1 ⟨⟨hc1,by omega⟩,fun c hc=>?_⟩ _ (g1.trans g)
 obtain⟨j,hj⟩:=List.getElem?_of_mem hc
 have:=hall j c (by rw[Ya,hlc];exact(Yc.mp hj).1) hj
 exact c6I (vi.mp c1) this.1 this.2
-- def _law_answer
variable (gP:FB P w K mg base (CX0) 14 "_law_answer" uO yI ["_law_desk","_law_row"] (spAns82 K dZ bF CA))
include lM bJ aV cC cH bK dW cN pY nY wD uE zU wF dR sJ tH qU qW pC qX pB aM bT jH qT sW jQ iY iZ qM qL qI jA gU gW oR oM qJ jB gY gZ oU oN oJ iD fO fP nD mZ qK jC iB iC oW oO oH gR fK fM nC mY tG qP qQ oZ qR oY cV in
theorem a1P (F0:GFm K mg "_law_answer" xQ uO yI):type_of% gP:=by
 refine fbK ["_law_desk","_law_row","_law_told","_law_caught","e","_law_marks"] F0 fun H Q nd hr h=>?_
 obtain⟨d,st,wp,o,dw,x,r,nb,tx,rfl,etx,hD,hln,hbl,hz,n8,wp8,qn,qr⟩:=h
 refine⟨_,(aD (bZ (i:=2) nd rfl (Or.inl rfl) aR) (aD (bZ (i:=3) nd rfl (Or.inl rfl) lW) (aD (nR (c2G (fun pins0 σ0 EX=>(aJ (bZ (i:=2) nd rfl (Or.inl rfl) (c0N aM bT cV.1 hr.mo cV.2 .nil (dv 0) (aA (dv 1) aB))))) (c6J (i:=4) rfl nY nd rfl rfl (fun ev=>(aJ (bZ (i:=3) nd rfl (Or.inl rfl) (dv 4)))) c4N) rfl rfl)) (aD (cM (bH b1F (dv 3) lW (bG _)) (aJ (aW (gC (aA aR (aA (dv 2) aB))))) bC) (aD (bZ (i:=5) nd rfl (Or.inl rfl) (jL (aA (bR (a0I (K:=K)) rfl dR lC (aA (dv 3) (aA (dH (v:= .ref cG) rfl lM rfl) aB))) (aA (bR (a0I (K:=K)) rfl dR lC (aA (dv 3) (aA (dH (v:= .ref bL) rfl cN rfl) aB))) (aA (bR (a0I (K:=K)) rfl dR lC (aA (dv 3) (aA (dH (v:= .ref bA) rfl aV rfl) aB))) aB))))) (aD (cM (PW.pt (a5L (lX (bR b0O rfl dR lC (aA (dv 3) (aA (gC (aA (dH (v:= .ref lQ) rfl wF rfl) (aA (dH (v:= .ref aY) rfl bJ rfl) (aA (dH (v:= .ref qF) rfl zU rfl) (aA (dH (v:= .ref bI) rfl cH rfl) aB))))) aB)))) (a1J (lX (bR b0O rfl dR lC (aA (dv 3) (aA (gC (aA (dH (v:= .ref jJ) rfl uE rfl) (aA (dH (v:= .ref aZ) rfl bK rfl) (aA (dH (v:= .ref lO) rfl wD rfl) aB)))) aB))))))) (aJ (aW (gD (nU (bH rW wW (dv 5) rfl) (gC (aA aR (aA aH aB))) (gC (aA aR (aA aH aB))))))) bC) (aD (cM (PW.pt (a5L (bH b1A (b8C (dv 5) (aA wW aB)) aH (bG _)) (a1J (sH (lX (bR (a0I (K:=K)) rfl dR lC (aA (dv 3) (aA (b6K (v:= .ty "ValueError") rfl sJ b1E rfl) aB)))))))) (aJ (aW (gC (aA aR (aA aH aB))))) bC) (aD (cM (lX (cD cZ (dv 5) aH (fun _ _=>rfl))) (aJ (aW (gC (aA aR (aA (c2N (dv 3) rfl) aB))))) bC) (aJ (aW (gD (nU (lX (cD cZ (dv 5) aH (fun _ _=>rfl))) (gC (aA aR (aA aH aB))) (gC (aA aR (aA aH aB))))))))))))))),?_⟩
 subst etx
 refine⟨fun σ H'=>(∃row s st' wp' o' w',row.key=x/\rowIn (x::r)= .ok row.vals/\deskP st wp row= .ok (s,st',wp')/\DeskAt dZ bF CA H' d st' wp' o' w'/\Mv o H o' H'/\∃x4,σ= [some (.ref d),some (.str (Txt.join " " (x::r))),some (.str s),some .non,x4,none])\/∃(e6:Option Rf)(y:Addr)(od:Option Addr),H' y=some (excO (.ref ((X6 cG ⟨bA,aY,bI,aZ,bL⟩) e6)) y od)/\Same H H'/\(e6=none->∃p,rowIn (x::r)= .error p/\NoRowOk p od H')/\(∀e,e6=some e->∃row:Row8,row.key=x/\rowIn (x::r)= .ok row.vals/\deskP st wp row= .error e)/\∃x4,σ= [some (.ref d),some (.str (Txt.join " " (x::r))),some (.str ""),some (.ref y),x4,none],?_,?_⟩
 ·have hm:∀e6:Option Rf,W.exmOne K (.ref ((X6 cG ⟨bA,aY,bI,aZ,bL⟩) e6)) (.ref kE)=some true:=fun e6=>by
   rcases e6 with _ | e
   ·exact tG
   ·cases e
    ·exact qQ
    ·exact oZ
    ·exact qR
    ·exact oY
    ·exact qP
  refine⟨⟨dw.dx,_,hD.ed,rfl⟩,rfl,d,st,wp,o,dw,x,r,nb,rfl,hD,hln,hbl,hz,n8,wp8,fun p hp od H1 g1 hod=>?_,fun row hrk hrow=>⟨(qr row hrk hrow).1,fun e he H1 g1=>?_,fun s st' wp' he H1 o1 w1 hD1 m1=>?_⟩⟩
  ·refine .inl ⟨hm none,fun y hy=>?_⟩
   have g2:=aX hy (excO (.ref cG) y od)
   obtain⟨dx,e1,e2⟩:=hod
   exact .inr ⟨none,y,od,aK,g1.trans g2,fun _=>⟨p,hp,dx,e1,g2 _ _ e2⟩,fun e z=>(by cases z),_,rfl⟩
  ·refine .inl ⟨hm (some e),fun y hy=>?_⟩
   have g2:=aX hy (excO (.ref ((X6 cG ⟨bA,aY,bI,aZ,bL⟩) (some e))) y none)
   exact .inr ⟨some e,y,none,aK,g1.trans g2,fun z=>(by cases z),fun e' z=>by cases z;exact⟨row,hrk,hrow,he⟩,_,rfl⟩
  ·exact .inl ⟨row,s,st',wp',o1,w1,hrk,hrow,he,hD1,m1,_,rfl⟩
 rintro σ H1 (⟨row,s,st',wp',o1,w1,hrk,hrow,he,hD1,m1,x4,rfl⟩ | ⟨e6,y,od,ey,g1,hrw,hre,x4,rfl⟩)
 ·refine⟨aN rfl,fun t ht=>?_⟩
  have g2:=aX ht (.tup [.str "told",.str s])
  exact(qr row hrk hrow).2.2 s st' wp' he t _ o1 w1 (hD1.same g2) (m1.trans (Mv.of g2)) aK
 have hx:ExcC K ((X6 cG ⟨bA,aY,bI,aZ,bL⟩) e6):=by
  rcases e6 with _ | e
  ·exact tH
  ·cases e
   ·exact qW
   ·exact pC
   ·exact qX
   ·exact pB
   ·exact qU
 have hk:W.kitOne K (.ref ((X6 cG ⟨bA,aY,bI,aZ,bL⟩) e6)) (.ref cG)=some (decide (e6=none))/\W.kitOne K (.ref ((X6 cG ⟨bA,aY,bI,aZ,bL⟩) e6)) (.ref bL)=some (decide (e6=some .rail))/\W.kitOne K (.ref ((X6 cG ⟨bA,aY,bI,aZ,bL⟩) e6)) (.ref bA)=some (decide (e6=some .post))/\W.kitAny K (.ref ((X6 cG ⟨bA,aY,bI,aZ,bL⟩) e6)) [.ref lQ,.ref aY,.ref qF,.ref bI]=some (decide (e6=some .frame) || decide (e6=some .name))/\W.kitAny K (.ref ((X6 cG ⟨bA,aY,bI,aZ,bL⟩) e6)) [.ref jJ,.ref aZ,.ref lO]=some (decide (e6=some .thing))/\W.kitOne K (.ref ((X6 cG ⟨bA,aY,bI,aZ,bL⟩) e6)) (.type "ValueError")=some true:=by
  rcases e6 with _ | e
  ·exact⟨jQ,iY,iZ,qM,qL,sW⟩
  ·cases e
   ·exact⟨jB,gY,gZ,oU,oN,qJ⟩
   ·exact⟨iD,fO,fP,nD,mZ,oJ⟩
   ·exact⟨jC,iB,iC,oW,oO,qK⟩
   ·exact⟨gR,fK,fM,nC,mY,oH⟩
   ·exact⟨jA,gU,gW,oR,oM,qI⟩
 obtain⟨hk0,hk1,hk2,hk3,hk4,hk5⟩:=hk
 refine⟨y,_,_,_,_,rfl,rfl,⟨od,ey⟩,hx,hk0,y,_,_,_,_,rfl,rfl,⟨od,ey⟩,hx,hk1,y,_,_,_,_,rfl,rfl,⟨od,ey⟩,hx,hk2,aN rfl,fun ml hml=>?_⟩
 generalize eU:upd H1 ml _=H2
 have g2:=nS hml eU
 have em:=nE eU
 clear eU
 refine⟨aN rfl,fun p1 hp1=>⟨y,p1,_, [.ref lQ,.ref aY,.ref qF,.ref bI],_,_,rfl,aK,rfl,⟨od,aX hp1 _ _ _ (g2 _ _ ey)⟩,hx,hk3,?_⟩⟩
 have g3:=g2.trans (aX hp1 (.tup [V.ref lQ,V.ref aY,V.ref qF,V.ref bI]))
 have k3:=aX hp1 (.tup [V.ref lQ,V.ref aY,V.ref qF,V.ref bI])
 generalize upd H2 p1 _=H3 at g3 k3
 have em3:=k3 _ _ em
 have oth:∀J,Same H3 J->(∀e,e6=some e->rfT e="other")->(∃e,e6=some e)->∀t,J t=none->Q (.ref t) (upd J t (.tup [.str "other",.int 0])):=fun J gJ h1 h2 t ht=>by
  obtain⟨e,he⟩:=h2
  obtain⟨row,a1,a2,a3⟩:=hre e he
  have:=(qr row a1 a2).2.1 e a3 t (upd J t (.tup [.str "other",.int 0])) ((g1.trans (g3.trans gJ)).none ht) ((g1.trans (g3.trans gJ)).trans (aX ht _))
  rw[h1 e he]at this
  exact this aK
 by_cases c1:(decide (e6=some .frame) || decide (e6=some .name))=true
 ·rw [c1]
  have c2:e6=some .frame\/e6=some .name:=by simpa using c1
  refine⟨fun v H'=>∃t,v= .ref t/\H3 t=none/\H'=upd H3 t (.tup [.str "other",.int 0]),?_,?_⟩
  ·refine⟨ml,_,rfl,.inl (SqL.of em3),rfl,rfl,?_⟩
   rcases c2 with rfl | rfl
   ·exact⟨aN rfl,fun t ht=>⟨t,rfl,ht,rfl⟩⟩
   ·exact⟨aN rfl,fun t ht=>⟨t,rfl,ht,rfl⟩⟩
  rintro v H' ⟨t,rfl,ht,rfl⟩
  refine oth H3 (Same.refl _) (fun e he=>?_) ?_ t ht
  ·rcases c2 with rfl | rfl <;> (cases he;rfl)
  ·rcases c2 with rfl | rfl <;> exact⟨_,rfl⟩
 rw[Bool.not_eq_true]at c1
 rw[c1]
 refine⟨aN rfl,fun p2 hp2=>⟨y,p2,_, [.ref jJ,.ref aZ,.ref lO],_,_,rfl,aK,rfl,⟨od,aX hp2 _ _ _ (g3 _ _ ey)⟩,hx,hk4,?_⟩⟩
 have g4:=g3.trans (aX hp2 (.tup [V.ref jJ,V.ref aZ,V.ref lO]))
 have k4:=aX hp2 (.tup [V.ref jJ,V.ref aZ,V.ref lO])
 generalize upd H3 p2 _=H4 at g4 k4
 have em4:=k4 _ _ em3
 have ey4:=g4 _ _ ey
 have g14:=g1.trans g4
 have fin:∀e,e6=some e->∀z,rfT e=z->∀t,H4 t=none->Q (.ref t) (upd H4 t (.tup [.str z,.int 0])):=fun e he z hz t ht=>by
  obtain⟨row,a1,a2,a3⟩:=hre e he
  subst hz
  exact(qr row a1 a2).2.1 e a3 t (upd H4 t _) (g14.none ht) (g14.trans (aX ht _)) aK
 rcases e6 with _ | e
 ·obtain⟨p,hp,dx,rfl,edx⟩:=hrw rfl
  have edx4:=g4 _ _ edx
  refine⟨⟨_,em4⟩, [true,false,false],em4,y,_,_,_,_,rfl,rfl,⟨_,ey4⟩,hx,hk5,_,_,SqL.of em4,rfl,y,cG,dx,_,_,rfl,ey4,edx4,⟨hx.ga,hx.hk,hx.ba,qT,jH⟩,rfl,aN rfl,fun t ht=>?_⟩
  exact qn p hp t _ (g14.none ht) (g14.trans (aX ht _)) aK
 ·cases e with
  |frame=>cases c1
  |name=>cases c1
  | thing=>
   refine⟨fun v H'=>∃t,v= .ref t/\H4 t=none/\H'=upd H4 t (.tup [.str "other",.int 0]),?_,?_⟩
   ·exact⟨ml,_,rfl,.inl (SqL.of em4),rfl,rfl,aN rfl,fun t ht=>⟨t,rfl,ht,rfl⟩⟩
   rintro v H' ⟨t,rfl,ht,rfl⟩
   exact fin .thing rfl _ rfl t ht
  | post=>
   refine⟨⟨_,em4⟩, [false,false,true],em4,y,_,_,_,_,rfl,rfl,⟨_,ey4⟩,hx,hk5,_,_,SqL.of em4,rfl,?_⟩
   refine⟨fun v H'=>∃t,v= .ref t/\H4 t=none/\H'=upd H4 t (.tup [.str "post",.int 0]),⟨_,_,SqL.of em4,rfl,aN rfl,fun t ht=>⟨t,rfl,ht,rfl⟩⟩,?_⟩
   rintro v H' ⟨t,rfl,ht,rfl⟩
   exact fin .post rfl _ rfl t ht
  | rail=>
   refine⟨⟨_,em4⟩, [false,true,false],em4,y,_,_,_,_,rfl,rfl,⟨_,ey4⟩,hx,hk5,_,_,SqL.of em4,rfl,?_⟩
   refine⟨fun v H'=>∃t,v= .ref t/\H4 t=none/\H'=upd H4 t (.tup [.str "rail",.int 0]),⟨_,_,SqL.of em4,rfl,aN rfl,fun t ht=>⟨t,rfl,ht,rfl⟩⟩,?_⟩
   rintro v H' ⟨t,rfl,ht,rfl⟩
   exact fin .rail rfl _ rfl t ht
-- def law
variable (c3U:FB P w K mg base (CX0) 15 "law" b7E c1L ["_law_script"] (spLaw82 K))
include lM bJ aV cC cH bK dW cN pY nY wD uE zU wF cO fG dR b0B aM tD bT pW cV aG dO kZ dD fB gP in
theorem c0E (F0:GFm K mg "law" b9P b7E c1L):type_of% c3U:=by
 refine fbK ["_law_script","_law_words","_law_k","_law_at","_law_way","_law_wrong","_law_due","_law_desk","_law_ahead","_law_found"] F0 fun H Q nd hr h=>?_
 obtain⟨a,ns,rfl,hS,h63,q⟩:=h
 refine⟨_,(aD (bZ (i:=1) nd rfl (Or.inl rfl) (bB kZ.1 hr.mo rfl kZ.2.2.2 kZ.2.2.1 kZ.2.1 .nil bU (aA (dv 0) aB))) (aD (nR (zP Xj rfl (a3B rfl fG (aA (bB aG.1 hr.mo rfl aG.2.2.2 aG.2.2.1 aG.2.1 .nil bU (aA (dv 0) (aA aH (aA aH aB)))) aB)) (vJ (i:=2) nd rfl (Or.inl rfl)) (aD (bZ (i:=3) nd rfl (Or.inl rfl) (bB aG.1 hr.mo rfl aG.2.2.2 aG.2.2.1 aG.2.1 .nil bU (aA (dv 0) (aA (bY jK aH (bY uB aH (dv 2))) (aA (bR nH rfl cO iM (aA (dv 1) aB)) aB))))) (aD (bZ (i:=4) nd rfl (Or.inl rfl) (bB aG.1 hr.mo rfl aG.2.2.2 aG.2.2.1 aG.2.1 .nil bU (aA (dv 0) (aA (bY jK aH (bY uB aH (dv 2))) (aA aH aB))))) (aD (nR (cM (bH uP (dv 4) aH (bG _)) (aJ (jY (b8B (dv 1) (aA (bY jK (dv 3) (bB aG.1 hr.mo rfl aG.2.2.2 aG.2.2.1 aG.2.1 .nil bU (aA (dv 0) (aA (bY jK aH (bY uB aH (dv 2))) (aA aH aB))))) (aA (bB dO.1 hr.mo rfl dO.2.2.2 dO.2.2.1 dO.2.1 .nil bU (aA (dv 0) (aA (bY jK aH (bY uB aH (dv 2))) aB))) aB))))) bC)) (aD (nR (cM (bH uP (dv 4) aH (bG _)) (aJ (b2R (bB dO.1 hr.mo rfl dO.2.2.2 dO.2.2.1 dO.2.1 .nil bU (aA (dv 0) (aA (bY jK aH (bY uB aH (dv 2))) aB))) (b2S (dv 1) (dv 3) b2K))) bC)) (aD (nR (cM (PW.pt (vD (bH uP (dv 4) aH (bG _)) (sG (bH a4K (bR nH rfl cO iM (aA (dv 1) aB)) aH (bG _))))) (aJ (jY (c0M (dv 1) (aA (dv 3) aB)))) bC)) (aD (nR (cM (bH uP (dv 4) aH (bG _)) (aJ (bZ (i:=1) nd rfl (Or.inl rfl) (wA a9J (dv 1) a5M (vK (bY jK (dv 3) aH))))) bC)) (aJ (nR (cM (bH uP (dv 4) aH (bG _)) (aJ (jY (vQ (dv 1) (aA (bB dO.1 hr.mo rfl dO.2.2.2 dO.2.2.1 dO.2.1 .nil bU (aA (dv 0) (aA (bY jK aH (bY uB aH (dv 2))) aB))) aB)))) bC))))))))))) (aD (bZ (i:=5) nd rfl (Or.inl rfl) (bB dD.1 hr.mo rfl dD.2.2.2 dD.2.2.1 dD.2.1 .nil bU (aA (dv 1) aB))) (aD (bZ (i:=6) nd rfl (Or.inl rfl) (gC (aA aR (aA aH aB)))) (aD (nR (cM (bH c3Z (dv 5) aH (bG _)) (aJ (bZ (i:=6) nd rfl (Or.inl rfl) (gC (aA aR (aA (dv 5) aB))))) (aJ (cM (bH uP (cD cZ (dv 1) aH (fun _ _=>rfl)) aR (bG _)) (aJ (bZ (i:=6) nd rfl (Or.inl rfl) (gD (nU (lX (bB fB.1 hr.mo rfl fB.2.2.2 fB.2.2.1 fB.2.1 .nil bU (aA (dv 1) aB))) (gC (aA aR (aA aR aB))) (gC (aA aR (aA aH aB))))))) bC)))) (aD (bZ (i:=7) nd rfl (Or.inl rfl) (a9T tD pW.1 hr.mo rfl dW pW.2 .nil bU)) (aD (bZ (i:=8) nd rfl (Or.inl rfl) (gD (b0A (pX uP (bB aG.1 hr.mo rfl aG.2.2.2 aG.2.2.1 aG.2.1 .nil bU (aA (dv 0) (aA aH (aA aH aB)))) aH (bG _)) (a7H (c3M (pX c3Z (dv 5) aH (bG _)) (a7H (pX b1A (cD cZ (dv 1) aH (fun _ _=>rfl)) aR (bG _)))))))) (aD (nR (cM (PW.pt (vD (lX (dv 8)) (sG (bH b1A (eG aM bT cV.1 hr.mo cV.2 .nil a7I (dv 7) (aA aR aB)) aR (bG _))))) (aJ (aW wW)) bC)) (aD (bZ (i:=9) nd rfl (Or.inl rfl) (gD (bB gP.1 hr.mo rfl gP.2.2.2 gP.2.2.1 gP.2.1 .nil bU (aA (dv 7) (aA (a3C aR (aA (dv 1) aB)) aB))))) (aD (cM (PW.pt (vD (lX (dv 8)) (vD (bH b2L (dv 5) aH (bG _)) (sG (bH b1A (cD cZ (dv 1) aH (fun _ _=>rfl)) aR (bG _)))))) (aJ (aW (pX rW (cD a7R (dv 9) aH (fun _ _=>rfl)) (gC (aA aR (aA aR (aA aR aB)))) rfl))) bC) (aD (cM (PW.pt (a5L (bH (c6B hr.units) (dv 9) (dv 6) (bG _)) (a1J (lX (bR b9C rfl dR lC (aA (cD a7R (dv 9) aH (fun _ _=>rfl)) (aA (b6K (v:= .ty "bool") rfl b0B c3E rfl) aB))))))) (aJ (aW wW)) bC) (aD (cM (PW.pt (a5L (sH (lX (dv 8))) (a1J (bH b2L (dv 5) aH (bG _))))) (aJ (aW wW)) bC) (aD (cM (PW.pt (a5L (bH b1A (eG aM bT cV.1 hr.mo cV.2 .nil a7I (dv 7) (aA aR aB)) aR (bG _)) (a5L (bH b1A (eG aM bT cV.1 hr.mo cV.2 .nil a7I (dv 7) (aA aR aB)) aR (bG _)) (a1J (bH b1A (eG aM bT cV.1 hr.mo cV.2 .nil a7I (dv 7) (aA aR aB)) aR (bG _)))))) (aJ (aW wW)) bC) (aJ (aW (b0A (pX uP (eG aM bT cV.1 hr.mo cV.2 .nil a7I (dv 7) (aA aR aB)) aR (bG _)) (a7H (pX uP (eG aM bT cV.1 hr.mo cV.2 .nil a7I (dv 7) (aA aR aB)) aR (bG _))))))))))))))))))),?_⟩
 refine⟨a,ns,rfl,hS,h63,fun l0 ws0 H0 hl0 g0 hW0=>?_⟩
 refine⟨fun σ H'=>∃l ws x2 x3 x4,σ= [some (.ref a),some (.ref l),x2,x3,x4,none,none,none,none,none]/\Same H H'/\H l=none/\WdsAt H' l ws 14,?_,?_⟩
 ·refine ⟨a, ns,7,3,rfl,g0.seq hS,h63,by decide,by decide,by decide,fun m m0 m1=>?_⟩
  obtain⟨mn,rfl⟩:=Yr m0
  refine⟨⟨by omega,by omega⟩,?_⟩
  rw[Xi]
  refine yU (lo:=0) (n:=mn) (fun i σ H'=>∃l ws x2 x3 x4,σ= [some (.ref a),some (.ref l),x2,x3,x4,none,none,none,none,none]/\Same H H'/\H l=none/\WdsAt H' l ws (12+i)) ⟨l0,ws0,_,_,_,rfl,g0,hl0,hW0⟩ ?_ ?_
  ·rintro i σ H1 hi ⟨l,ws,x2,x3,x4,rfl,g,hl,hW⟩
   have hW1:=hW.1
   have hWp:0<ws.length:=List.length_pos_iff.mpr hW.2.1
   have hWl:=hW.2.2.1
   refine⟨⟨iR (by decide) (by decide),iR (by omega) (by omega)⟩,_,.inl (SqL.of hW1),?_⟩
   rw[Ya]
   refine⟨a,ns,100+5*(0+((i:Nat):Int)),((ws.length:Nat):Int),rfl,g.seq hS,h63,by omega,by omega,by omega,fun p p0 p1=>?_⟩
   obtain⟨pn,rfl⟩:=Yr p0
   have hpn:pn<ws.length:=by omega
   refine⟨⟨iR (by decide) (by decide),iR (by omega) (by omega)⟩,a,ns,101+5*(0+((i:Nat):Int)),5,rfl,g.seq hS,h63,by omega,by omega,by decide,fun wy w0 w1=>?_⟩
   refine⟨fun σ H'=>(0<wy/\H'=H1/\σ= [some (.ref a),some (.ref l),some (.int (0+((i:Nat):Int))),some (.int ((pn:Nat):Int)),some (.int wy),none,none,none,none,none])\/(wy<=0/\∃l' ws',σ= [some (.ref a),some (.ref l'),some (.int (0+((i:Nat):Int))),some (.int ((pn:Nat):Int)),some (.int wy),none,none,none,none,none]/\Same H H'/\H l'=none/\WdsAt H' l' ws' (13+i)),?_,?_⟩
   ·by_cases c:wy=0
    ·refine mX c ?_
     refine⟨⟨_,SqL.of hW1⟩,⟨iR (by decide) (by decide),iR (by omega) (by omega)⟩,a,ns,102+5*(0+((i:Nat):Int)),2,rfl,g.seq hS,h63,by omega,by omega,by decide,fun b b0 b1=>?_⟩
     obtain⟨bn,rfl⟩:=Yr b0
     refine⟨⟨iR (by decide) (by decide),iR (by omega) (by omega)⟩,a,ns,103+5*(0+((i:Nat):Int)),rfl,g.seq hS,h63,by omega,by omega,fun x J wx gJ=>?_⟩
     refine⟨pn+bn,_,Yy V.int (by omega),gJ _ _ hW1,by rw[Ya];omega,nQ (by rw[Ya];omega),by omega,.inr ⟨by omega,l,ws.take (pn+bn)++x::ws.drop (pn+bn),rfl,(g.trans gJ).put hl,hl,?_,by simp,?_,fun y hy=>?_⟩⟩
     ·rw[aK,Yu,Yo,List.map_take,List.map_drop]
     ·rw[Yj,Ys,YT,Xm];omega
     ·rcases YX.mp hy with hy | hy
      ·exact hW.2.2.2 y (List.mem_of_mem_take hy)
      ·rcases Yv.mp hy with rfl | hy
       ·exact wx
       ·exact hW.2.2.2 y (List.mem_of_mem_drop hy)
    ·refine jM c ?_
     exact .inl ⟨by omega,rfl,rfl⟩
   rintro σ H' h
   refine⟨fun σ H'=>(1<wy/\H'=H1/\σ= [some (.ref a),some (.ref l),some (.int (0+((i:Nat):Int))),some (.int ((pn:Nat):Int)),some (.int wy),none,none,none,none,none])\/(wy<=1/\∃l' ws',σ= [some (.ref a),some (.ref l'),some (.int (0+((i:Nat):Int))),some (.int ((pn:Nat):Int)),some (.int wy),none,none,none,none,none]/\Same H H'/\H l'=none/\WdsAt H' l' ws' (13+i)),?_,?_⟩
   ·rcases h with ⟨cw,rfl,rfl⟩ | ⟨cw,l',ws',rfl,g',hl',hW'⟩
    ·by_cases c:wy=1
     ·refine mX c ?_
      refine⟨⟨iR (by decide) (by decide),iR (by omega) (by omega)⟩,a,ns,103+5*(0+((i:Nat):Int)),rfl,g.seq hS,h63,by omega,by omega,fun x J wx gJ=>?_⟩
      refine⟨_,pn,gJ _ _ hW1,by rw[Ya];exact a9E hpn,.inr ⟨by omega,l,ws.set pn x,rfl,(g.trans gJ).put hl,hl,?_,?_,?_,fun y hy=>?_⟩⟩
      ·rw[aK,List.map_set]
      ·intro z
       have:=Yy List.length z
       rw[Xa]at this
       have:ws.length=0:=this
       omega
      ·rw[Xa];omega
      ·rcases Xo hy with hy | rfl
       ·exact hW.2.2.2 y hy
       ·exact wx
     ·refine jM c ?_
      exact .inl ⟨by omega,rfl,rfl⟩
    ·refine jM (by omega) ?_
     exact .inr ⟨by omega,l',ws',rfl,g',hl',hW'⟩
   rintro σ H' h
   refine⟨fun σ H'=>(2<wy/\H'=H1/\σ= [some (.ref a),some (.ref l),some (.int (0+((i:Nat):Int))),some (.int ((pn:Nat):Int)),some (.int wy),none,none,none,none,none])\/(wy<=2/\∃l' ws',σ= [some (.ref a),some (.ref l'),some (.int (0+((i:Nat):Int))),some (.int ((pn:Nat):Int)),some (.int wy),none,none,none,none,none]/\Same H H'/\H l'=none/\WdsAt H' l' ws' (13+i)),?_,?_⟩
   ·rcases h with ⟨cw,rfl,rfl⟩ | ⟨cw,l',ws',rfl,g',hl',hW'⟩
    ·by_cases c:wy=2
     ·refine mX c ?_
      refine⟨_,.inl (SqL.of hW1),?_⟩
      rw[Ya]
      by_cases c3:(1:Int)<((ws.length:Nat):Int)
      ·refine mX c3 ?_
       refine⟨⟨_,hW1⟩,_,pn,.str ws[pn],hW1,⟨by omega,by omega⟩,?_,by rw[Yq,Yh hpn];rfl,.inr ⟨by omega,l,ws.eraseIdx pn,rfl,g.put hl,hl,?_,?_,?_,fun y hy=>hW.2.2.2 y (List.mem_of_mem_eraseIdx hy)⟩⟩
       ·rw[Ya]
        exact c2C hpn
       ·rw[aK,b8N]
       ·intro z
        have:=Yy List.length z
        rw[List.length_eraseIdx,if_pos hpn]at this
        have:ws.length-1=0:=this
        omega
       ·rw[List.length_eraseIdx,if_pos hpn];omega
      ·refine jM c3 ?_
       exact .inr ⟨by omega,l,ws,rfl,g,hl,hW.1,hW.2.1,by omega,hW.2.2.2⟩
     ·refine jM c ?_
      exact .inl ⟨by omega,rfl,rfl⟩
    ·refine jM (by omega) ?_
     exact .inr ⟨by omega,l',ws',rfl,g',hl',hW'⟩
   rintro σ H' h
   refine⟨fun σ H'=>(3<wy/\H'=H1/\σ= [some (.ref a),some (.ref l),some (.int (0+((i:Nat):Int))),some (.int ((pn:Nat):Int)),some (.int wy),none,none,none,none,none])\/(wy<=3/\∃l' ws',σ= [some (.ref a),some (.ref l'),some (.int (0+((i:Nat):Int))),some (.int ((pn:Nat):Int)),some (.int wy),none,none,none,none,none]/\Same H H'/\H l'=none/\WdsAt H' l' ws' (13+i)),?_,?_⟩
   ·rcases h with ⟨cw,rfl,rfl⟩ | ⟨cw,l',ws',rfl,g',hl',hW'⟩
    ·by_cases c:wy=3
     ·refine mX c ?_
      refine⟨_,SqL.of hW1,fun p hp=>?_⟩
      rw[show ((pn:Nat):Int)+1=(((pn+1:Nat)):Int) from by omega,b8S]
      refine .inr ⟨by omega,p,ws.take (pn+1),rfl,g.trans (aX hp _),g.none hp,?_,?_,?_,fun y hy=>hW.2.2.2 y (List.mem_of_mem_take hy)⟩
      ·rw[aK,List.map_take]
      ·intro z
       have:=Yy List.length z
       rw[YT]at this
       have:min (pn+1) ws.length=0:=this
       omega
      ·rw[YT];omega
     ·refine jM c ?_
      exact .inl ⟨by omega,rfl,rfl⟩
    ·refine jM (by omega) ?_
     exact .inr ⟨by omega,l',ws',rfl,g',hl',hW'⟩
   rintro σ H' h
   refine⟨fun σ H'=>(4<wy/\H'=H1/\σ= [some (.ref a),some (.ref l),some (.int (0+((i:Nat):Int))),some (.int ((pn:Nat):Int)),some (.int wy),none,none,none,none,none])\/(wy<=4/\∃l' ws',σ= [some (.ref a),some (.ref l'),some (.int (0+((i:Nat):Int))),some (.int ((pn:Nat):Int)),some (.int wy),none,none,none,none,none]/\Same H H'/\H l'=none/\WdsAt H' l' ws' (13+i)),?_,?_⟩
   ·rcases h with ⟨cw,rfl,rfl⟩ | ⟨cw,l',ws',rfl,g',hl',hW'⟩
    ·by_cases c:wy=4
     ·refine mX c ?_
      refine⟨⟨_,SqL.of hW1⟩,⟨iR (by decide) (by decide),iR (by omega) (by omega)⟩,a,ns,103+5*(0+((i:Nat):Int)),rfl,g.seq hS,h63,by omega,by omega,fun x J wx gJ=>?_⟩
      refine⟨_,gJ _ _ hW1,nQ (by rw[Ya];omega),.inr ⟨by omega,l,ws++[x],rfl,(g.trans gJ).put hl,hl,?_,by simp,?_,fun y hy=>?_⟩⟩
      ·rw[aK,Yu];rfl
      ·rw[Yj];show ws.length+1<=_;omega
      ·rcases YX.mp hy with hy | hy
       ·exact hW.2.2.2 y hy
       ·rw[Yx.mp hy];exact wx
     ·refine jM c ?_
      exact .inl ⟨by omega,rfl,rfl⟩
    ·refine jM (by omega) ?_
     exact .inr ⟨by omega,l',ws',rfl,g',hl',hW'⟩
   rintro σ H' (⟨cw,rfl,rfl⟩ | ⟨cw,l',ws',rfl,g',hl',hW'⟩)
   ·exact absurd cw (by omega)
   ·exact⟨l',ws',_,_,_,rfl,g',hl',by rw[show 12+(i+1)=13+i from by omega];exact hW'⟩
  rintro σ H1 ⟨l,ws,x2,x3,x4,rfl,g,hl,hW⟩
  exact⟨l,ws,x2,x3,x4,rfl,g,hl,hW.1,hW.2.1,Yn hW.2.2.1 (by omega),hW.2.2.2⟩
 rintro σ H1 ⟨l,ws,x2,x3,x4,rfl,g1,hl,hW⟩
 obtain⟨x,r,rfl⟩:∃x r,ws=x::r:=by
  cases ws with
  |nil=>exact absurd rfl hW.2.1
  |cons x r=>exact⟨x,r,rfl⟩
 have hrl:r.length<=13:=by have:=hW.2.2.1;rw[Ys]at this;omega
 have hwd:=hW.2.2.2
 have h0:atI ((x::r).map V.str) 0=some (.str x):=bM (j:=0) rfl
 refine⟨l,x,r,rfl,SqL.of hW.1,by omega,fun y hy=>Yn (hwd y (Yf _ hy)).1 (by decide),fun H2 g2=>?_⟩
 have el2:=g2 _ _ hW.1
 have g12:=g1.trans g2
 obtain⟨wv,ewv⟩:∃wv,wv=wrongI (x::r):=⟨_,rfl⟩
 have hwE:∀p,rowIn (x::r)= .error p->0<=wv:=fun p hp=>by rw[ewv,yR hp];omega
 have hwO:∀vl,rowIn (x::r)= .ok vl->wv<0:=fun vl hv=>by rw[ewv,b3Q hv];omega
 rw[<-ewv]
 refine⟨aN rfl,fun t0 ht0=>?_⟩
 generalize eU:upd H2 t0 _=H3
 have k0:=nS ht0 eU
 have et0:=nE eU
 clear eU
 have el3:=k0 _ _ el2
 refine⟨fun σ H'=>∃td da db,σ= [some (.ref a),some (.ref l),x2,x3,x4,some (.int wv),some (.ref td),none,none,none]/\H' td=some (.tup [.str da,db])/\Same H3 H'/\Due82 x r da db,?_,?_⟩
 ·cases er:rowIn (x::r) with
  | error p=>
   refine mX (hwE p er) ?_
   refine⟨aN rfl,fun t ht=>⟨t,_,_,rfl,aK,aX ht _,fun p' hp'=>?_,fun vl hv=>(by cases er.symm.trans hv),fun v cs hv=>(by cases er.symm.trans hv),fun v cs hv=>(by cases er.symm.trans hv)⟩⟩
   cases er.symm.trans hp'
   rw[ewv,yR er]
   exact⟨rfl,rfl⟩
  | ok vl=>
   refine jM (by have:=hwO vl er;omega) ?_
   refine⟨_,_,SqL.of el3,h0,?_⟩
   by_cases c:x="rail"
   ·refine mX c ?_
    obtain⟨row,hrk,hrv⟩:=b9R er
    obtain⟨v,cs,rfl⟩:=a5K (hrk.trans c)
    subst hrv
    have uq:∀v' cs',rowIn (x::r)= .ok (Row8.rail v' cs').vals->v'=v/\cs'=cs:=fun v' cs' h=>by
     have e:=Except.ok.inj (er.symm.trans h)
     have e':Vl.num v::cs.map (fun c=>Vl.cho c.1 c.2)= .num v'::cs'.map fun c=>Vl.cho c.1 c.2:=e
     injection e' with e1 e2
     injection e1 with e1
     refine⟨e1.symm,(b2X e2).symm⟩
    refine⟨fun v2 H'=>∃t da db,v2= .ref t/\H' t=some (.tup [.str da,db])/\Same H3 H'/\(RlOk v cs->da="told"/\db= .str "ok")/\(¬ RlOk v cs->da="post"/\db= .int 0),?_,?_⟩
    ·refine⟨l,x,r,v,cs,rfl,SqL.of el3,c2E (c▸er),by omega,fun y hy=>Yn (hwd y (Yf _ hy)).1 (by decide),fun ok H' g'=>?_,fun no H' g'=>?_⟩
     ·exact⟨aN rfl,fun t ht=>⟨t,_,_,rfl,aK,g'.trans (aX ht _),fun _=>⟨rfl,rfl⟩,fun z=>absurd ok z⟩⟩
     ·exact⟨aN rfl,fun t ht=>⟨t,_,_,rfl,aK,g'.trans (aX ht _),fun z=>absurd z no,fun _=>⟨rfl,rfl⟩⟩⟩
    rintro v2 H' ⟨t,da,db,rfl,et,gt,h1,h2⟩
    refine⟨t,da,db,rfl,et,gt,fun p hp=>(by cases er.symm.trans hp),fun vl hv z=>absurd c z,fun v' cs' h _=>?_,fun v' cs' h _=>?_⟩
    ·obtain⟨rfl,rfl⟩:=uq v' cs' h;exact h1
    ·obtain⟨rfl,rfl⟩:=uq v' cs' h;exact h2
   ·refine jM c ?_
    exact⟨t0,_,_,rfl,et0,Same.refl _,fun p hp=>(by cases er.symm.trans hp),fun vl hv z=>⟨rfl,rfl⟩,fun v' cs' h z=>absurd z c,fun v' cs' h z=>absurd z c⟩
 rintro σ H4 ⟨td,da,db,rfl,etd,g4,due⟩
 have el4:=g4 _ _ el3
 have gH4:=g12.trans (k0.trans g4)
 refine fun d dx hd hdx hne=>⟨d,dx,rfl,aK,fun H5 wl hwl ed ew k1=>⟨rfl,?_⟩⟩
 have gm:Same H4 (upd (upd H4 dx (.own d)) d (.ins dZ dx [])):=fun z u e=>by rw[aQ (bO e hd),aQ (bO e hdx)];exact e
 have g5:Same H4 H5:=fun z u e=>k1 z u (bO e hd) (gm z u e)
 have hwl0:H4 wl=none:=gm.none hwl
 have hD5:DeskAt dZ bF CA H5 d none [] (fun x=>x=d\/x=wl) ⟨dx,wl,.non, [],fun _=>False⟩:=⟨ed,ew,.nil,rfl,fun x hx=>hx.elim,.inl rfl,.inr rfl,fun x hx=>hx.elim,fun x hx=>by
  rcases hx with rfl | rfl
  ·rw[ed];simp
  ·rw[ew];simp⟩
 have no5:∀z u,H4 z=some u->¬ (z=d\/z=wl):=fun z u e h=>by
  rcases h with rfl | rfl
  ·rw[hd]at e;cases e
  ·rw[hwl0]at e;cases e
 have el5:=g5 _ _ el4
 refine⟨fun v H'=>∃b:Bool,v= .bl b/\H'=H5/\(b=true->∀vl,rowIn (x::r)= .ok vl->x≠"run"),?_,?_⟩
 ·refine⟨a,ns,8,2,rfl,(gH4.trans g5).seq hS,h63,by decide,by decide,by decide,fun b b0 b1=>?_⟩
  conv=>whnf
  refine oG (fun c=>?_) (fun c=>⟨false,rfl,rfl,fun z=>(by cases z)⟩)
  conv=>whnf
  refine oG (fun c2=>⟨true,rfl,rfl,fun _ vl hv=>?_⟩) (fun c2=>?_)
  ·have c3:0<=wv:=dec_true c2
   have:=hwO vl hv
   omega
  ·refine⟨_,_,SqL.of el5,h0,_,rfl,rfl,fun hb vl hv z=>?_⟩
   have hb':(!decide (x=("run":Str)))=true:=hb
   rw[Yk z]at hb'
   cases hb'
 rintro v H' ⟨b,rfl,rfl,hb⟩
 refine⟨fun σ H6=>∃st o w,σ= [some (.ref a),some (.ref l),x2,x3,x4,some (.int wv),some (.ref td),some (.ref d),some (.bl b),none]/\DeskAt dZ bF CA H6 d st [] o w/\(b=false->st=none)/\(b=true->st=some R82)/\(∀z u,H4 z=some u->¬ o z/\H6 z=some u),?_,?_⟩
 ·cases b with
  |false=>exact⟨none,_,_,rfl,hD5,fun _=>rfl,fun z=>(by cases z),fun z u e=>⟨no5 z u e,g5 _ _ e⟩⟩
  | true=>
   refine⟨⟨dx,_,ed,rfl⟩,?_⟩
   dsimp only[tCons,tC,tNil,Yz]
   refine b0P (n:=0) (row:= .rail 1 cs82) (x:="rail") (r:=["1","0/0","0/0"]) hD5 (by decide +kernel) (by decide +kernel) (by decide +kernel) c4J b9F (by show 2<=90;decide) (fun R z=>(by cases z)) (by decide) (a7N.trans (if_pos c7T)) fun H6 o6 w6 hD6 m6=>?_
   exact⟨some R82,o6,w6,rfl,hD6,fun z=>(by cases z),fun _=>rfl,fun z u e=>⟨m6.out (g5 _ _ e) (no5 z u e),m6.1 _ _ (g5 _ _ e) (.inl (no5 z u e))⟩⟩
 rintro σ H6 ⟨st,o,w,rfl,hD6,hbF,hbT,keep⟩
 have el6:=(keep _ _ el4).2
 have etd6:=(keep _ _ etd).2
 have hz:∀R,st=some R->Z83 R 0:=fun R z=>by
  cases b with
  |false=>rw[hbF rfl]at z;cases z
  |true=>rw[hbT rfl]at z;cases z;exact z82
 have hbl:∀y∈x::r,32∉y.cps.toList:=fun y hy=>(hwd y hy).2
 have hjl:(Txt.join " " (x::r)).length<=899:=by
  have h2:=StrLaws.join_length_le " " (x::r)
  have h3:=b9I (ts:=x::r) fun y hy=>(hwd y hy).1
  have e2:(" ":Str).length=1:=by decide +kernel
  rw[<-a7M,e2]at h2
  rw[Ys]at h2 h3
  omega
 refine⟨fun v H7=>∃t fa fb,v= .ref t/\H7 t=some (.tup [.str fa,fb])/\Fd82 st x r fa fb/\(∀p,rowIn (x::r)= .error p->Same H6 H7)/\∀z u,H4 z=some u->H7 z=some u,?_,?_⟩
 ·refine⟨_,el6,b2Z (B:=40) (fun y hy=>(hwd y hy).1) ?_,?_⟩
  ·have e2:(" ":Str).length=1:=by decide +kernel
   rw[Ys,e2]
   omega
  refine⟨d,st, [],o,w,x,r,0,_,rfl,rfl,hD6,hjl,hbl,hz,by decide,YO _,fun p hp t H7 ht g7 et=>?_,fun row hk hr=>⟨?_,fun e he t H7 ht g7 et=>?_,fun s st' wp' he t H7 o' w' hD' m et=>?_⟩⟩
  ·exact⟨t,_,_,rfl,et,.row p hp,fun _ _=>g7,fun z u e=>g7 _ _ (keep z u e).2⟩
  ·cases row with
   | run n=>
    refine .inr ⟨?_,n,rfl⟩
    cases b with
    |false=>exact hbF rfl
    |true=>exact absurd hk.symm (hb rfl _ hr)
   |_=>exact .inl (b9M hr hrl fun n z=>(by cases z))
  ·exact⟨t,_,_,rfl,et,.err row e hk hr he,fun p hp=>(by cases hr.symm.trans hp),fun z u e=>g7 _ _ (keep z u e).2⟩
  ·exact⟨t,_,_,rfl,et,.ok row s st' wp' hk hr he,fun p hp=>(by cases hr.symm.trans hp),fun z u e=>m.1 _ _ (keep z u e).2 (.inl (keep z u e).1)⟩
 rintro v H7 ⟨tf,fa,fb,rfl,etf,fd,gE,keep7⟩
 have el7:=keep7 _ _ el4
 have etd7:=keep7 _ _ etd
 have cmp:(∀vl,rowIn (x::r)= .ok vl->x≠"rail"->st=none)->(∃D,DV K H7 (.ref tf) D/\DV K H7 (.ref td) D/\SeqAt.shaped D=true)/\((∃n,fb= .int n)\/∃s,fb= .str s):=fun hs=>by
  obtain⟨e1,e2,e3⟩:=c5J fd due hs
  subst e1
  subst e2
  rcases e3 with ⟨⟨n,rfl⟩,ok⟩ | ⟨rfl,rfl⟩
  ·exact⟨⟨_,c3Q etf,c3Q etd7,b7L ok⟩,.inl ⟨_,rfl⟩⟩
  ·exact⟨⟨_,c3R etf,c3R etd7,b7M⟩,.inr ⟨_,rfl⟩⟩
 cases b with
 | false=>
  obtain⟨⟨D,d1,d2,d3⟩,hfb⟩:=cmp fun vl hv z=>hbF rfl
  refine⟨D,d1,d2,d3,_,_,SqT.of etf,bM (j:=1) rfl,?_⟩
  rcases hfb with ⟨n,rfl⟩ | ⟨s,rfl⟩
  ·exact⟨rfl,q _⟩
  ·exact⟨rfl,q _⟩
 |true=>
 have est:=hbT rfl
 subst est
 cases er:rowIn (x::r) with
 | ok vl=>
  refine mX (hwO vl er) ?_
  refine⟨_,_,SqL.of el7,h0,?_⟩
  by_cases c:x="rail"
  ·refine c7A c ?_
   obtain⟨⟨D,d1,d2,d3⟩,hfb⟩:=cmp fun vl hv z=>absurd c z
   refine⟨D,d1,d2,d3,_,_,SqT.of etf,bM (j:=1) rfl,?_⟩
   rcases hfb with ⟨n,rfl⟩ | ⟨s,rfl⟩
   ·refine⟨rfl,?_⟩
    refine mX (hwO vl er) ?_
    exact q _
   ·refine⟨rfl,?_⟩
    refine mX (hwO vl er) ?_
    exact q _
  ·refine c6Y c ?_
   have hin:=c7E fd ⟨vl,er⟩ c (hb rfl vl er)
   refine⟨_,_,SqT.of etf,bM (j:=0) rfl,aN rfl,fun t ht=>⟨t,fd3.map V.str,rfl,.inr (SqT.of aK),rfl,rfl,?_⟩⟩
   rw[c2Z,Yk hin]
   exact q _
 | error p=>
  refine jM (by have:=hwE p er;omega) ?_
  have g67:=gE p er
  obtain⟨⟨D,d1,d2,d3⟩,hfb⟩:=cmp fun vl hv=>(by cases er.symm.trans hv)
  refine⟨D,d1,d2,d3,_,_,SqT.of etf,bM (j:=1) rfl,?_⟩
  have hD7:=hD6.same g67
  obtain⟨R5,h5a,h5b,h5c⟩:=c7H
  rcases hfb with ⟨n,rfl⟩ | ⟨s,rfl⟩
  ·refine⟨rfl,?_⟩
   refine jM (by have:=hwE p er;omega) ?_
   refine⟨⟨w.dx,_,hD7.ed,rfl⟩,?_⟩
   dsimp only[tCons,tC,tNil,Yz]
   refine b0P (n:=0) (row:= .waits 0) (x:="waits") (r:=["0"]) hD7 (by decide +kernel) (by decide +kernel) (by decide +kernel) (a9B 0 "0" (by decide +kernel)) a9A trivial (fun R z=>by cases z;exact z82) (by decide) (s:="") rfl fun H8 o8 w8 hD8 m8=>?_
   refine⟨⟨w8.dx,_,hD8.ed,rfl⟩,?_⟩
   dsimp only[tCons,tC,tNil,Yz]
   refine b0P (n:=0) (row:= .stance 1) (x:="stance") (r:=["1"]) hD8 (by decide +kernel) (by decide +kernel) (by decide +kernel) (b3Y 1 "1" (by decide +kernel)) b3U trivial (fun R z=>by cases z;exact z82) (by decide) (s:="free 0") c6H fun H9 o9 w9 hD9 m9=>?_
   refine⟨⟨w9.dx,_,hD9.ed,rfl⟩,?_⟩
   dsimp only[tCons,tC,tNil,Yz]
   refine b0P (n:=0) (row:= .bits 0 400) (x:="bits") (r:=["0","400"]) hD9 (by decide +kernel) (by decide +kernel) (by decide +kernel) b9T b9H trivial (fun R z=>by cases z;exact z82) (by decide) (s:="") rfl fun J1 o1 w1 hE1 n1=>?_
   refine⟨⟨w1.dx,_,hE1.ed,rfl⟩,?_⟩
   dsimp only[tCons,tC,tNil,Yz]
   refine b0P (n:=0) (row:= .hand 1 5 [7]) (x:="hand") (r:=["1","5","7"]) hE1 (by decide +kernel) (by decide +kernel) (by decide +kernel) b9S b9G (by show 1<=90;decide) (fun R z=>by cases z;exact z82) (by decide) h5a fun J2 o2 w2 hE2 n2=>?_
   refine⟨⟨w2.dx,_,hE2.ed,rfl⟩,?_⟩
   dsimp only[tCons,tC,tNil,Yz]
   refine b0P (n:=1) (row:= .waits 1) (x:="waits") (r:=["1"]) hE2 (by decide +kernel) (by decide +kernel) (by decide +kernel) (a9B 1 "1" (by decide +kernel)) a9A trivial (fun R z=>by cases z;exact h5b) (by decide) h5c fun J3 o3 w3 hE3 n3=>?_
   exact q _
  ·refine⟨rfl,?_⟩
   refine jM (by have:=hwE p er;omega) ?_
   refine⟨⟨w.dx,_,hD7.ed,rfl⟩,?_⟩
   dsimp only[tCons,tC,tNil,Yz]
   refine b0P (n:=0) (row:= .waits 0) (x:="waits") (r:=["0"]) hD7 (by decide +kernel) (by decide +kernel) (by decide +kernel) (a9B 0 "0" (by decide +kernel)) a9A trivial (fun R z=>by cases z;exact z82) (by decide) (s:="") rfl fun H8 o8 w8 hD8 m8=>?_
   refine⟨⟨w8.dx,_,hD8.ed,rfl⟩,?_⟩
   dsimp only[tCons,tC,tNil,Yz]
   refine b0P (n:=0) (row:= .stance 1) (x:="stance") (r:=["1"]) hD8 (by decide +kernel) (by decide +kernel) (by decide +kernel) (b3Y 1 "1" (by decide +kernel)) b3U trivial (fun R z=>by cases z;exact z82) (by decide) (s:="free 0") c6H fun H9 o9 w9 hD9 m9=>?_
   refine⟨⟨w9.dx,_,hD9.ed,rfl⟩,?_⟩
   dsimp only[tCons,tC,tNil,Yz]
   refine b0P (n:=0) (row:= .bits 0 400) (x:="bits") (r:=["0","400"]) hD9 (by decide +kernel) (by decide +kernel) (by decide +kernel) b9T b9H trivial (fun R z=>by cases z;exact z82) (by decide) (s:="") rfl fun J1 o1 w1 hE1 n1=>?_
   refine⟨⟨w1.dx,_,hE1.ed,rfl⟩,?_⟩
   dsimp only[tCons,tC,tNil,Yz]
   refine b0P (n:=0) (row:= .hand 1 5 [7]) (x:="hand") (r:=["1","5","7"]) hE1 (by decide +kernel) (by decide +kernel) (by decide +kernel) b9S b9G (by show 1<=90;decide) (fun R z=>by cases z;exact z82) (by decide) h5a fun J2 o2 w2 hE2 n2=>?_
   refine⟨⟨w2.dx,_,hE2.ed,rfl⟩,?_⟩
   dsimp only[tCons,tC,tNil,Yz]
   refine b0P (n:=1) (row:= .waits 1) (x:="waits") (r:=["1"]) hE2 (by decide +kernel) (by decide +kernel) (by decide +kernel) (a9B 1 "1" (by decide +kernel)) a9A trivial (fun R z=>by cases z;exact h5b) (by decide) h5c fun J3 o3 w3 hE3 n3=>?_
   exact q _
-- def all_mk
set_option maxHeartbeats 0 in
include lM oF oE bJ iU wC vL aV a6F b0E sU b0D cC cH gK bK iT nZ sS uT sO vM oA dW cN pY nY wD uE zU wF b4G b6O b4I b0F b1S b6N c3N b4H b4F b0C a8D a8C cO nW b4E fG uR jG b4D dR sJ b0B oK tH qU qW pC qX pB cB dY aO qO sZ aF sY bV oX aM sX tD eV eQ iK aP jE fW iI jR fY fX iJ dG dN iG fV fQ fU iH jD fZ bT pA tK cF dM cJ cA cQ iV jN eE dC cY dJ gQ cW fH cX jO iW jP fJ dU aL cL gG cI nG gF nF qN jH lB qT eN sW jQ iY iZ qM qL qI jA gU gW oR oM qJ jB gY gZ oU oN oJ iD fO fP nD mZ qK jC iB iC oW oO oH gR fK fM nC mY tG qP qQ oZ qR oY in
theorem all_mk {l:W.OpenLaw}{fa:Addr}(hfa:mg "law"=some (.ref fa))
 :GF K mg "are_bytes" a0Z xG->GF K mg "is_name" a7F a3G->GF K mg "check_frame" xO uM->GF K mg "copies" a9R a6O->GF K mg "check_votes" xM uK->GF K mg "check_choice" vU tM->GF K mg "piece_of" a4Q a0L->GF K mg "check_thing" xN uL->GF K mg "cut" b9Q b7F->GF K mg "number_in" a0X wZ->GF K mg "choice_of" a0Y xF->GF K mg "value_of" a4L a0J->GF K mg "strips" a9P a6M->GF K mg "read_row" a4P a0K->GF K mg "dotted" a9Q a6N->GF K mg "frames_text" xK uJ->GF K mg "part_of" a7E a3F->GF K mg "things_of" a0T wY->GF K mg "say_hand" a4M rP->GF K mg "say_got" a7D uG->GF K mg "say_waits" a0V pG->GF K mg "say_faults" zB mD->GF K mg "say_stance" zA lZ->GF K mg "say_wrong" a0U pD->GF K mg "say_things" yZ lY->GF K mg "say_draw" a4N rQ->GF K mg "say_thing" a0W pH->GF K mg "drawn" b2P a9H->GF K mg "say_bits" a4O rR->GF K mg "_law_draw" a1A xJ->GF K mg "_law_number" xP uN->GF K mg "_law_is_number" uD qC->GF K mg "_law_least" zE vO->GF K mg "_law_odd" uC a0M->GF K mg "_law_good" uQ xH->GF K mg "_law_is_word" vV tO->GF K mg "_law_first_wrong" rN mF->GF K mg "_law_is_rail" vW tQ->GF K mg "_law_answer" xQ uO->GF K mg "law" b9P b7E->MF K cG "__init__" "NoRow.__init__" zJ qD->MF K CA.count "__init__" "Count.__init__" zM tY->MF K CA.count "is_off" "Count.is_off" vZ pK->MF K CA.count "number" "Count.number" vY pJ->MF K CA.free "__init__" "Free.__init__" a1G vA->MF K CA.free "shown" "Free.shown" zL tX->MF K CA.post "is_off" "Post.is_off" xW rD->MF K CA.post "faults" "Post.faults" xX rE->MF K CA.post "hand" "Post.hand" a1F uZ->MF K CA.post "waits" "Post.waits" zH tV->MF K CA.post "got" "Post.got" a4S wQ->MF K CA.post "__init__" "Post.__init__" a1E uY->MF K CA.post "stance" "Post.stance" xV rB->MF K bF "__init__" "Rail.__init__" a1B uV->MF K bF "post_at" "Rail.post_at" vX pI->MF K bF "hand" "Rail.hand" a1C uW->MF K bF "stance" "Rail.stance" xR qY->MF K bF "waits" "Rail.waits" zF tR->MF K bF "got" "Rail.got" a4R wO->MF K bF "faults" "Rail.faults" xU rA->MF K bF "is_off" "Rail.is_off" xT qZ->MF K bF "heard" "Rail.heard" zG tU->MF K bF "bits" "Rail.bits" a1D uX->MF K jT "__init__" "Joiner.__init__" xY rG->MF K jT "end" "Joiner.end" zK tW->MF K dZ "__init__" "Desk.__init__" a1H vC->MF K dZ "put_up" "Desk.put_up" xZ rH->MF K dZ "say" "Desk.say" a4T wU->
 ∃fd:FuncData,(∀(s:Shared)(v:Value),BindsTo s fd ⟨[v], []⟩ [("_law_script",v)])/\∀base:Heap,K.In base->base.Ns mainGlobals mg->FnOk l.prog w K mg base CX0 15 fa fd ["_law_script"] (spLaw82 K):=by
 rintro ⟨_,a8O⟩ ⟨_,b2J⟩ ⟨_,a3Y⟩ ⟨_,b5F⟩ ⟨_,a3W⟩ ⟨_,a2T⟩ ⟨_,b0V⟩ ⟨_,a3X⟩ ⟨_,c3V⟩ ⟨_,a8M⟩ ⟨_,a8N⟩ ⟨_,b0Q⟩ ⟨_,b5D⟩ ⟨_,b0U⟩ ⟨_,b5E⟩ ⟨_,a3V⟩ ⟨_,b2I⟩ ⟨_,a8I⟩ ⟨_,b0R⟩ ⟨_,b2H⟩ ⟨_,a8K⟩ ⟨_,a6S⟩ ⟨_,a6R⟩ ⟨_,a8J⟩ ⟨_,a6Q⟩ ⟨_,b0S⟩ ⟨_,a8L⟩ ⟨_,b7H⟩ ⟨_,b0T⟩ ⟨_,a8Q⟩ ⟨_,a3Z⟩ ⟨_,yW⟩ ⟨_,a6T⟩ ⟨_,b0W⟩ ⟨_,a8P⟩ ⟨_,a2U⟩ ⟨_,wV⟩ ⟨_,a2V⟩ ⟨_,a4A⟩ ⟨d0,b7G⟩ ⟨_,_,a6X⟩ ⟨_,_,a7A⟩ ⟨_,_,a2Y⟩ ⟨_,_,a2X⟩ ⟨_,_,a8W⟩ ⟨_,_,a6Z⟩ ⟨_,_,a4F⟩ ⟨_,_,a4G⟩ ⟨_,_,a8V⟩ ⟨_,_,a6W⟩ ⟨_,_,b0Y⟩ ⟨_,_,a8U⟩ ⟨_,_,a4E⟩ ⟨_,_,a8R⟩ ⟨_,_,a2W⟩ ⟨_,_,a8S⟩ ⟨_,_,a4B⟩ ⟨_,_,a6U⟩ ⟨_,_,b0X⟩ ⟨_,_,a4D⟩ ⟨_,_,a4C⟩ ⟨_,_,a6V⟩ ⟨_,_,a8T⟩ ⟨_,_,a4H⟩ ⟨_,_,a6Y⟩ ⟨_,_,a8X⟩ ⟨_,_,a4I⟩ ⟨_,_,b0Z⟩
 cases hfa.symm.trans b7G.m
 refine⟨d0,fun s v=>?_,fun base _ _=>?_⟩
 ·obtain⟨_,_,_,_,_,_,_,_,_,rfl,_⟩:=b7G.F.ex
  exact .of_eq rfl
 have fC:=a3R l.prog w mg base lM qN jH eN a6X
 have bQ:=a5T l.prog w mg base oF a8C a8O
 have qG:=a9W l.prog w mg base oE b2J
 have cU:=a1N _ w mg base bJ iU cO gG bQ qG a3Y
 have mV:=a3U l.prog w mg base CA cB cF a7A
 have jX:=a0S l.prog w mg base CA wC cB cF a2Y
 have jW:=a0R l.prog w mg base CA cB cF a2X
 have pU:=a6B l.prog w mg base CA dY dM a8W
 have mR:=a3T l.prog w mg base CA dY dM a6Z
 have lH:=a1U _ w mg base CA cB aO eV cJ jX a4F
 have lJ:=a1V _ w mg base CA cB aO eQ cJ jW a4G
 have pR:=a6A _ w mg base CA bJ nW aO cA cU a8V
 have jU:=b1O l.prog w mg base nW b5F
 have mO:=a3Q _ w mg base CA aO cA jU a6W
 have rT:=a8A _ w mg base CA aO cQ jU b0Y
 have gM:=a1L l.prog w mg base vL aV oK cI a3W
 have eY:=a0N _ w mg base aV cI bQ a2T
 have pQ:=a5Z _ w mg base CA vL aV a6F b0E aO qO sZ cJ cA cQ iV jN eE mV pU gM eY a8U
 have lG:=a1T _ w mg base CA dY aO iK eE mR a4E
 have pO:=a5W _ w mg base CA vL aV sU b0D cC cO aF sY dC cY dJ gQ cW fH cI pQ a8R
 have aU:=a0Q l.prog w mg base CA aV cC cO aF dC cI a2W
 have iQ:=a5X _ w mg base CA bJ aV cC cH aO aF aP jE cY nG cU pR aU a8S
 have lD:=a1Q _ w mg base CA aV cC aO aF aP fW lG aU a4B
 have mK:=a3O _ w mg base CA aV cC aO aF aP iI mO aU a6U
 have jV:=a7Z _ w mg base CA aV cC aO aF aP jR rT aU b0X
 have lF:=a1S _ w mg base CA aV cC aO aF aP fY lJ aU a4D
 have lE:=a1R _ w mg base CA aV cC aO aF aP fX lH aU a4C
 have mL:=a3P _ w mg base CA aV cC nW aF aP cW aU a6V
 have pP:=a5Y l.prog w mg base CA cC nW aF dJ a8T
 have mJ:=a7X l.prog w mg base gK b0V
 have gO:=a1M _ w mg base bK iT cO gF bQ a3X
 have a6P:=c0F _ w mg base gK bK cO nW b4E fG mJ gO c3V
 have cR:=a5R l.prog w mg base nZ a8C cO uR a8M
 have kY:=a5S _ w mg base cO cR a8N
 have mG:=a7S _ w mg base sS uT cR kY b0Q
 have tZ:=b1M l.prog w mg base sO cO fG b5D
 have mH:=a7W _ w mg base lM vM cO fG pA lB eN fC mG b0U
 have uA:=b1N l.prog w mg base jG b5E
 have cT:=a1K _ w mg base jG uA a3V
 have gH:=a9V l.prog w mg base  b2I
 have lK:=a1W l.prog w mg base oA bV cX jO iW jP fJ dU a4H
 have mQ:=a3S l.prog w mg base oA bV cX a6Y
 have kI:=a5N _ w mg base oA bV oX iJ lK mQ a8I
 have pL:=a7T _ w mg base CA bJ aV cC cH bK dW cN aF aM dG aL iQ b0R
 have rY:=a9U _ w mg base CA bJ aV cC cH bK dW cN aF aM dN aL jV cT b2H
 have lU:=a5P _ w mg base CA bJ aV cC cH bK dW cN aF aM iG aL mK cT a8K
 have kW:=a3M _ w mg base CA bJ aV cC cH bK dW cN jG aF aM fV aL lF a6S
 have kO:=a3L _ w mg base CA bJ aV cC cH bK dW cN jG aF aM fQ aL lD a6R
 have lR:=a5O _ w mg base CA bJ aV cC cH bK dW cN aF aM fU aL cL lE a8J
 have kJ:=a3K _ w mg base CA bJ aV cC cH bK oA dW cN aF aM dN aL jV kI a6Q
 have pM:=a7U _ w mg base CA bJ aV cC cH bK dW cN aF aM iH aL mL tZ gH b0S
 have lV:=a5Q _ w mg base CA bJ aV cC cH bK dW cN cO jG aF aM dG aL iQ a6P a8L
 have vP:=b3Z l.prog w mg base jG b7H
 have pN:=a7V _ w mg base CA bJ aV cC cH bK dW cN aF aM jD aL pP gH vP b0T
 have pW:=a6C l.prog w mg base dW aM aL cL a8X
 have lL:=a1X _ w mg base CA aV cC dW aM sX aL cL pO a4I
 have cV:=a8B _ w mg base CA lM bJ aV cC cH bK vM dW cN pY aM fZ tK aL nF mH pL rY lU kW kO lR kJ pM lV pN lL b0Z
 have aG:=a5V l.prog w mg base cO a8Q
 have bW:=a1O _ w mg base aG a3Z
 have bN:=wX l.prog w mg base cO yW
 have bD:=a3N l.prog w mg base  a6T
 have dO:=a7Y _ w mg base jG aG bW b0W
 have kZ:=a5U _ w mg base fG uR jG b4D aG bW bD a8P
 have eZ:=a0O _ w mg base cO uR bN bD a2U
 have dD:=vG _ w mg base cO fG bD eZ wV
 have fB:=a0P l.prog w mg base cO uR a2V
 have gP:=a1P _ w mg base CA lM bJ aV cC cH bK dW cN pY nY wD uE zU wF dR sJ tH qU qW pC qX pB aM bT jH qT sW jQ iY iZ qM qL qI jA gU gW oR oM qJ jB gY gZ oU oN oJ iD fO fP nD mZ qK jC iB iC oW oO oH gR fK fM nC mY tG qP qQ oZ qR oY cV a4A
 exact(c0E _ w mg base CA lM bJ aV cC cH bK dW cN pY nY wD uE zU wF cO fG dR b0B aM tD bT pW cV aG dO kZ dD fB gP b7G).1
end
theorem tupI_VOTES {K:W.Frag}{a:Addr}{od:Option Addr}{sl:Array (Option Value)}{n:Nat}{t0 t1 t2:Tok}(h:K.lookup a=some ⟨.type "tuple",od,.seq #[.int 1 t0,.int 3 t1,.int 5 t2] n,sl⟩):TupK K a [1,3,5]:=TupK.of h (aN rfl) (.cons ⟨_,rfl⟩ (.cons ⟨_,rfl⟩ (.cons ⟨_,rfl⟩ .nil)))
abbrev csI {x_post x_count x_free x_speaks x_reads x_intail x_flag x_settles x_rests x_off x_reader x_streak x_rtail x_stail:Addr}:Cs:=⟨x_post,x_count,x_free,x_speaks,x_reads,x_intail,x_flag,x_settles,x_rests,x_off,x_reader,x_streak,x_rtail,x_stail⟩
theorem walk {l:W.OpenLaw}{q:Program}{loose:List Str}{XP:(Str->Option Value)->Heap->Prop}{YP:World->Heap->Prop}{d:DefRec}{K:Params->W.Frag}(hn:l.most=some 63)(hdf:d.params.defaults= [])
  (hY:∀(w:World)(h:Heap),YP w h->(K w.params).In h)
  (F :∀(w:World)(mg:Str->Option Value)(fa:Addr)(h:Heap),(K w.params).In h->h.Ns mainGlobals mg->mg d.name=some (.ref fa)->
   ∃fd:FuncData,(∀(s:Shared)(u:Value),BindsTo s fd ⟨[u], []⟩ [("_law_script",u)])/\∀base:Heap,(K w.params).In base->base.Ns mainGlobals mg->FnOk l.prog w (K w.params) mg base CX0 15 fa fd ["_law_script"] (spLaw (K w.params))) :
  W.WalkO q loose XP YP l.row.toRowW d [] (fun f vs=>PySem.call f vs):=
 L2.walk_of (n:=63) (k:=15) (x:="_law_script") (CX:=fun _=>CX0) (sp:=fun w=>spLaw (K w.params)) hn (by decide) hdf ⟨rfl,by decide,by decide⟩ hY F (fun _ _ a ns hl _ hS=>⟨a,ns,rfl,hS,hl,fun _=>rfl⟩) fun _ _ _ _ _ z=>z
end My
open PySem PySem.W PyProof.Rows
set_option maxRecDepth 100000 in
set_option maxHeartbeats 0 in
theorem PySem.Challenge.cw_bitrail_k82_words_of_rows_holds : PySem.Challenge.rw_bitrail_k82_words_of_rows.Holds := by
 w_on;o_law
 refine holds_open (q:=Hd.qv) (loose:=Hd.loose) (XP:=XL Hd.qv []) (YP:=InK Hd.K) (d:=Hd.dl) (kwd:=[]) Hd.left (InK.of Hd.K_as) InK.keeps (fun s e=>xl_of s e) XL.keeps Hd.dl_1 Hd.dl_2 rfl (fun s _=>recFacts_nil rfl) rfl
  (by assumption) (by decide +kernel) ⟨rfl,rfl,rfl,rfl,rfl,by decide +kernel⟩ ?hw ?hc
 case hw=>w_witness2
 k_fill
 refine My.walk (l:=PySem.Challenge.rw_bitrail_k82_words_of_rows) rfl rfl (fun w h Y=>Y) ?F
 case F=>
  intro w mg fa h KX G hmg
  refine' My.all_mk w mg (CA:=My.csI) ?Aa ?Ab ?Ac ?Ad ?Ae ?Af ?Ag ?Ah ?Ai ?Aj ?Ak ?Al ?Am ?An ?Ao ?Ap ?Aq ?Ar ?As ?At ?Au ?Av ?Aw ?Ax ?Ay ?Az ?AA ?AB ?AC ?AD ?AE ?AF ?AG ?AH ?AI ?AJ ?AK ?AL ?AM ?AN ?AO ?AP ?AQ ?AR ?AS ?AT ?AU ?AV ?AW ?AX ?AY ?AZ ?A0 ?A1 ?A2 ?A3 ?A4 ?A5 ?A6 ?A7 ?A8 ?A9 ?Ba ?Bb ?Bc ?Bd ?Be ?Bf ?Bg ?Bh ?Bi ?Bj ?Bk ?Bl ?Bm ?Bn ?Bo ?Bp ?Bq ?Br ?Bs ?Bt ?Bu ?Bv ?Bw ?Bx ?By ?Bz ?BA ?BB ?BC ?BD ?BE ?BF ?BG ?BH ?BI ?BJ ?BK ?BL ?BM ?BN ?BO ?BP ?BQ ?BR ?BS ?BT ?BU ?BV ?BW ?BX ?BY ?BZ ?B0 ?B1 ?B2 ?B3 ?B4 ?B5 ?B6 ?B7 ?B8 ?B9 ?Ca ?Cb ?Cc ?Cd ?Ce ?Cf ?Cg ?Ch ?Ci ?Cj ?Ck ?Cl ?Cm ?Cn ?Co ?Cp ?Cq ?Cr ?Cs ?Ct ?Cu ?Cv ?Cw ?Cx ?Cy ?Cz ?CA ?CB ?CC ?CD ?CE ?CF ?CG ?CH ?CI ?CJ ?CK ?CL ?CM ?CN ?CO ?CP ?CQ ?CR ?CS hmg ?Lb ?Lc ?Ld ?Lm ?Lp ?Lq ?LD ?LE ?LF ?LG ?LH ?LI ?LJ ?LK ?LL ?LM ?LN ?LQ ?LR ?LS ?LT ?LU ?LV ?LW ?LX ?LY ?LZ ?L0 ?L1 ?L5 ?L6 ?L7 ?L8 ?L9 ?Ma ?Mb ?Mc ?Md ?Me ?Mf ?La ?Le ?Lf ?Lg ?Lh ?Li ?Lj ?Lk ?Ll ?Ln ?Lo ?Lr ?Ls ?Lt ?Lu ?Lv ?Lw ?Lx ?Ly ?Lz ?LA ?LB ?LC ?LO ?LP ?L2 ?L3 ?L4
  all_goals try dsimp only[My.csI]
  case Aa | Ab | Ac | Ad | Ae | Af | Ag | Ah | Ai | Aj | Ak | Al | Am | An | Ao | Ap | Aq | Ar | As | At | Au | Av | Aw | Ax | Ay | Az | AA | AB | AC | AD | AE | AF | AG | AH | AI | AJ | AK | AL | AM | AN | AO | AP=>refine' PySem.W.mg_of KX G ?_;k_is
  case AQ | AR | AS | AT | AU | AV | AW | AX | AY | AZ | A0=>refine' PySem.W.mg_none_of KX G ?_;k_is
  case Lb | Lc | Ld | Lm | Lp | Lq | LD | LE | LF | LG | LH | LI | LJ | LK | LL | LM | LN | LQ | LR | LS | LT | LU | LV | LW | LX | LY | LZ | L0 | L1 | L5 | L6 | L7 | L8 | L9 | Ma | Mb | Mc | Md | Me | Mf=>(refine' My.gf_mk KX G ?a ?l ?c ?k;(case a=>show _=_;k_is);(case l=>show _=_;k_is);(case c=>show _=_;k_is);(case k=>show _=_;k_is))
  case La | Le | Lf | Lg | Lh | Li | Lj | Lk | Ll | Ln | Lo | Lr | Ls | Lt | Lu | Lv | Lw | Lx | Ly | Lz | LA | LB | LC | LO | LP | L2 | L3 | L4=>(refine' My.mf_mk ?a ?l ?c ?k;(case a=>show _=_;k_is);(case l=>show _=_;k_is);(case c=>show _=_;k_is);(case k=>show _=_;k_is))
  case A1=>(refine' My.tupI_VOTES ?a;(case a=>k_is))
  case A2 | A3 | A4 | A5 | A6 | A7=>(refine⟨?_,?_,?_,?_,?_,?_,?_,?_⟩;(show PySem.W.isClsIn _ _=true;k_is);all_goals k_is)
  case A8 | A9 | Ba | Bb | Bc | Bd | Be | Bf | Bg | Bh | Bi | Bj=>(refine⟨?_,?_,?_,?_⟩ <;> k_is)
  case Bk | Bl | Bm | Bn | Bo | Bp | Bq | Br | Bs | Bt | Bu | Bv | Bw | Bx | By | Bz | BA | BB | BC | BD | BE=>(refine⟨?_,?_,?_⟩ <;> k_is)
  case BF=>(refine' ⟨?x,?y⟩;(case x=>(refine' ⟨by decide,by decide +kernel,_,_,(by kernel_rfl:(Hd.K w.params).lookup 1278=some (Hd.di (Hd.t "dict") [Hd.e w.params "rail" 1866 (Hd.r 1280),Hd.e w.params "hand" 1870 (Hd.r 1282),Hd.e w.params "thing" 1874 (Hd.r 1284),Hd.e w.params "wrong" 1879 (Hd.r 1286),Hd.e w.params "run" 1883 (Hd.r 1288),Hd.e w.params "bits" 1886 (Hd.r 1290),Hd.e w.params "draw" 1890 (Hd.r 1292),Hd.e w.params "got" 1895 (Hd.r 1294),Hd.e w.params "waits" 1898 (Hd.r 1296),Hd.e w.params "things" 1901 (Hd.r 1298),Hd.e w.params "stance" 1905 (Hd.r 1300),Hd.e w.params "faults" 1908 (Hd.r 1302)] 12)),?e⟩;(case e=>(repeat (first | exact .nil | refine .cons rfl ?_)))));(case y=>(refine' (.cons (My.tpR ?q0) (My.tpS2 ?u0) (.cons (My.tpR ?q1) (My.tpS2 ?u1) (.cons (My.tpR ?q2) (My.tpS3 ?u2) (.cons (My.tpR ?q3) (My.tpS2 ?u3) (.cons (My.tpR ?q4) (My.tpS1 ?u4) (.cons (My.tpR ?q5) (My.tpS2 ?u5) (.cons (My.tpR ?q6) (My.tpS3 ?u6) (.cons (My.tpR ?q7) (My.tpS1 ?u7) (.cons (My.tpR ?q8) (My.tpS1 ?u8) (.cons (My.tpR ?q9) (My.tpS2 ?u9) (.cons (My.tpR ?q10) (My.tpS1 ?u10) (.cons (My.tpR ?q11) (My.tpS1 ?u11) .nil))))))))))));(case q11 | u11 | q10 | u10 | q9 | u9 | q8 | u8 | q7 | u7 | q6 | u6 | q5 | u5 | q4 | u4 | q3 | u3 | q2 | u2 | q1 | u1 | q0 | u0=>k_is))))
  case BG=>(refine' ⟨by decide,by decide +kernel,_,_,(by kernel_rfl:(Hd.K w.params).lookup 1442=some (Hd.di (Hd.t "dict") [Hd.e w.params "hand" 2100 (Hd.r 1373),Hd.e w.params "thing" 2101 (Hd.r 1380),Hd.e w.params "wrong" 2102 (Hd.r 1387),Hd.e w.params "run" 2103 (Hd.r 1394),Hd.e w.params "bits" 2104 (Hd.r 1401),Hd.e w.params "draw" 2105 (Hd.r 1408),Hd.e w.params "got" 2106 (Hd.r 1415),Hd.e w.params "waits" 2107 (Hd.r 1422),Hd.e w.params "things" 2108 (Hd.r 1427),Hd.e w.params "stance" 2109 (Hd.r 1434),Hd.e w.params "faults" 2110 (Hd.r 1441)] 11)),?e⟩;(case e=>(repeat (first | exact .nil | refine .cons rfl ?_))))
  case BH | BI | BJ | BK | BL | BM | BN | BO | BP | BQ | BR | BS | BT | BU | BV | BW | BX | BY | BZ | B0 | B1 | B2=>(show PySem.W.findIn _ _ _=_;k_is)
  case B3 | B4 | B5 | B6 | B7=>k_exc
  case B8 | B9 | Ca | Cb=>k_is
  case Cc=>kernel_rfl
  case Cd | Ce | Cf | Cg | Ch | Ci | Cj | Ck | Cl | Cm | Cn | Co | Cp | Cq | Cr | Cs | Ct | Cu | Cv | Cw | Cx | Cy | Cz | CA | CB | CC | CD | CE | CF | CG | CH | CI | CJ | CK | CL | CM=>kit_is
  case CN | CO | CP | CQ | CR | CS=>kts_exm
#print axioms PySem.Challenge.cw_bitrail_k82_words_of_rows_holds
